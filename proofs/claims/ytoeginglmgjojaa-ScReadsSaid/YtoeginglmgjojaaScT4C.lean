/-
  LAYER 10: the walk of ScReads, part 3.
-/
import Derived.Test.YtoeginglmgjojaaScHd
import Derived.Test.YtoeginglmgjojaaScT4L
import Derived.Test.YtoeginglmgjojaaScSt
import Derived.Test.YtoeginglmgjojaaScBg
import Derived.Deep.RegionHeld3
import Derived.Deep.DeepCutAuto
namespace Go.Proofs.Ytoeginglmgjojaa
open Go.RowKit
set_option linter.unusedVariables false
set_option linter.unusedSimpArgs false
open CodM (St Pg rightP hReg hLoc)
open BfM (Wr plc)
open ScM

set_option maxHeartbeats 8000000 in
set_option maxRecDepth 100000 in
theorem screads_t5 {B : Nat} {v u : Value} {P : Pg} {s : Sta} (t : Int) (b : Nat) (hb256 : b < 256) (hop : ∀ x, atS P s t = some x → x.op = 5 ∧ ((b % 4 : Nat) : Int) = x.reg) (w : World) (hv : PgZ B w v P) (hu : StaV B w u s) (hBB : B ≤ w.heap.size) :
    Calls Try.prog 6 #[v, u, .int .i64 t, .int .u8 b] w fun e w' => e = .returned (.bool true) ∧ Below w.heap.size w w' := by
  obtain ⟨pi, pt, rfl, hpm, hpi⟩ := hv
  obtain ⟨um, ut, rfl, hum⟩ := hu
  have HPM := Lib.hid hpm
  have HPI := Lib.hid hpi
  have HUM := Lib.hid hum
  obtain ⟨⟨P0, d0, rfl, -⟩, ⟨P1, d1, rfl, l1, l2, l3⟩⟩ := hpm
  obtain ⟨⟨A7, c7, rfl, m1, m2, m0, m3⟩, ⟨A1, c1, rfl, k1, k2, k0, k3⟩⟩ := hum
  clear hpi
  unfold maxLen at l2 m2 k2
  have HL3 := Lib.hid l3
  have HM3 := Lib.hid m3
  have HK3 := Lib.hid k3
  clear l3 m3 k3 m0 k0
  obtain ⟨W2, hW2⟩ : ∃ W, W = ((w.alloc (.cells #[.slice P0 P.init.length d0, .slice P1 P.ths.length d1] 25)).alloc (.cells #[.slice A7 s.mem.length c7, .slice A1 s.ths.length c1] 28)) := ⟨_, rfl⟩
  obtain ⟨gp, hgp⟩ : ∃ g, g = w.heap.size := ⟨_, rfl⟩
  obtain ⟨gs, hgs⟩ : ∃ g, g = w.heap.size + 1 := ⟨_, rfl⟩
  have HX := Lib.hid (show BoxC W2 gp 25 #[.slice P0 P.init.length d0, .slice P1 P.ths.length d1] from by rw [hW2, hgp]; exact (BoxC.new w _ _).alloc _)
  have HY := Lib.hid (show BoxC W2 gs 28 #[.slice A7 s.mem.length c7, .slice A1 s.ths.length c1] from by rw [hW2, hgs]; have := BoxC.new (w.alloc (.cells #[.slice P0 P.init.length d0, .slice P1 P.ths.length d1] 25)) 28 #[.slice A7 s.mem.length c7, .slice A1 s.ths.length c1]; rw [World.size_alloc] at this; exact this)
  have HB2 := Lib.hid (show Below w.heap.size w W2 from by rw [hW2]; exact below_al (below_al (Below.refl _ _) _) _)
  have HPZ := Lib.hid (fun W (hW : Below W2.heap.size W2 W) => show PgZ W.heap.size W (.agg #[.slice P0 P.init.length d0, .slice P1 P.ths.length d1]) P from ⟨_, _, rfl, (HPM.out.below ((chain HB2.out hW).mono hBB)).more (Nat.le_trans hBB (chain HB2.out hW).size), (HPI.out.below ((chain HB2.out hW).mono hBB)).more (Nat.le_trans hBB (chain HB2.out hW).size)⟩)
  have HSV := Lib.hid (fun W (hW : Below W2.heap.size W2 W) => show StaV W.heap.size W (.agg #[.slice A7 s.mem.length c7, .slice A1 s.ths.length c1]) s from ⟨_, _, rfl, (HUM.out.below ((chain HB2.out hW).mono hBB)).more (Nat.le_trans hBB (chain HB2.out hW).size)⟩)
  have HBW := Lib.hid (Nat.le_trans hBB HB2.out.size)
  have HL := Lib.hid (Below.refl W2.heap.size W2)
  go_enter Try.func6, Try.ntmps6
  go_upto_region 1 with fail
  rw [← hW2]
  (try rw [← hgs])
  (try rw [← hgp])
  clear hW2 hgs hgp
  go_wp2_with fail
  refine (head_any _).mono ?_
  rintro e V1 ⟨rfl, hb⟩
  have HST := Lib.hid hb
  replace HL := Lib.hid (chain HL.out hb)
  clear hb 
  have x0 := (HX.out.below HL.out HX.out.lt).cell 0 _ rfl
  have x1 := (HX.out.below HL.out HX.out.lt).cell 1 _ rfl
  go_wp2_with fail
  refine (cgreat_any _ (HPZ.out _ HL.out).v (Nat.le_refl _)).mono ?_
  rintro e V2 ⟨gb, rfl, hg, hb⟩
  have HST := Lib.hid hb
  replace HL := Lib.hid (chain HL.out hb)
  clear hb x0 x1
  cases gb
  case true =>
    go_wp2
    go_ret
    exact ⟨rfl, chain HB2.out HL.out⟩
  have HSM := Lib.hid (hg rfl).1
  have HRP := Lib.hid (hg rfl).2
  clear hg
  have y0 := (HY.out.below HL.out HY.out.lt).cell 0 _ rfl
  have y1 := (HY.out.below HL.out HY.out.lt).cell 1 _ rfl
  go_wp2_with fail
  refine (wide_any _ (HSV.out _ HL.out) (Nat.le_refl _)).mono ?_
  rintro e V3 ⟨gb, rfl, hg, hb⟩
  have HST := Lib.hid hb
  replace HL := Lib.hid (chain HL.out hb)
  clear hb y0 y1
  cases gb
  case true =>
    go_wp2
    go_ret
    exact ⟨rfl, chain HB2.out HL.out⟩
  have HWS := Lib.hid (hg rfl)
  clear hg
  have x0 := (HX.out.below HL.out HX.out.lt).cell 0 _ rfl
  have x1 := (HX.out.below HL.out HX.out.lt).cell 1 _ rfl
  have y0 := (HY.out.below HL.out HY.out.lt).cell 0 _ rfl
  have y1 := (HY.out.below HL.out HY.out.lt).cell 1 _ rfl
  go_wp2_with fail
  refine (rright_any _ (HPZ.out _ HL.out).v (HSV.out _ HL.out) (Nat.le_refl _)).mono ?_
  rintro e V4 ⟨d, rfl, hd, hb⟩
  have HST := Lib.hid hb
  replace HL := Lib.hid (chain HL.out hb)
  clear hb x0 x1 y0 y1
  cases d
  case false =>
    go_wp2
    go_ret
    exact ⟨rfl, chain HB2.out HL.out⟩
  have HOK := Lib.hid (hd.1 rfl)
  clear hd
  have x0 := (HX.out.below HL.out HX.out.lt).cell 0 _ rfl
  have x1 := (HX.out.below HL.out HX.out.lt).cell 1 _ rfl
  have y0 := (HY.out.below HL.out HY.out.lt).cell 0 _ rfl
  have y1 := (HY.out.below HL.out HY.out.lt).cell 1 _ rfl
  go_wp2_with fail
  refine (sstep_any t _ (HPZ.out _ HL.out).v (HSV.out _ HL.out) (Nat.le_refl _) HRP.out HOK.out HWS.out).mono ?_
  rintro e V5 ⟨vm, vt, ps8, rfl, hos, hb⟩
  have HST := Lib.hid hb
  replace HL := Lib.hid (chain HL.out hb)
  clear hb x0 x1 y0 y1
  obtain ⟨A8, c8, rfl⟩ := own_slice (n := s.mem.length) (show V5.ownsRow _ _ 1 vm s.mem.length _ from by have e := hos.mem; unfold OwnI at e; rwa [((show (stp P s t).mem.length = s.mem.length from (stp_len P s t).1))] at e)
  obtain ⟨B8, e8, rfl⟩ := own_slice (n := s.ths.length) (show V5.ownsRow _ _ 4 vt s.ths.length _ from by have e := hos.ths; rwa [((show (stp P s t).ths.length = s.ths.length from (stp_len P s t).2))] at e)
  have HO8 := Lib.hid hos
  clear hos
  go_upto_region 5 with fail
  obtain ⟨X8, hX⟩ : ∃ W, W = V5.alloc (.cells #[.slice A8 s.mem.length c8, .slice B8 s.ths.length e8] 28) := ⟨_, rfl⟩
  obtain ⟨g8, hg⟩ : ∃ g, g = V5.heap.size := ⟨_, rfl⟩
  replace HST := Lib.hid (show Below V5.heap.size V5 X8 from by rw [hX]; exact below_al (Below.refl _ _) _)
  have HQ8 := Lib.hid (show BoxC X8 g8 28 #[.slice A8 s.mem.length c8, .slice B8 s.ths.length e8] from by rw [hX, hg]; exact BoxC.new V5 _ _)
  rw [← hX]
  (try rw [← hg])
  clear hX hg
  replace HL := Lib.hid (chain HL.out HST.out)
  replace HO8 := Lib.hid (HO8.out.below HST.out)
  have HTL := Lib.hid HOK.out.ths
  cases hat0 : atS P s t with
  | none =>
    go_wp2
    go_ret
    exact ⟨rfl, chain HB2.out HL.out⟩
  | some x0 =>
    obtain ⟨k, rfl, hks, hkt, hk3, hx0⟩ := atS_some hat0
    clear hx0
    have HHA := Lib.hid hat0
    clear hat0
    obtain ⟨b2, f2, rfl, hb2, hc2⟩ := HL3.out (by omega)
    obtain ⟨b1, f1, rfl, hb1, hc1⟩ := HK3.out (by omega)
    obtain ⟨uu, z0, hS⟩ := hc2 k hkt
    obtain ⟨vr, vb, c0, c1', c2', c3', hR, hW⟩ := hc1 k hks
    have HTD := Lib.hid hc1
    have HKT := Lib.hid hkt
    have HKS := Lib.hid hks
    have HAS := Lib.hid (fun (h : s.ths[k].at'.toNat < P.ths[k].length) => And.intro (atS_at hks hkt h) (stp_at hks hkt h))
    have HAN := Lib.hid (fun (h : ¬ s.ths[k].at'.toNat < P.ths[k].length) => atS_past (s := s) (h1 := hks) (h2 := hkt) h)
    have HGO := Lib.hid (fun (h : s.ths[k].at'.toNat < P.ths[k].length) => goes HRP.out HOK.out hks hkt h)
    have HPX := Lib.hid (fun (h : s.ths[k].at'.toNat < P.ths[k].length) => show StP s.mem.length P.ths[k].length s.ths[k].at'.toNat P.ths[k][s.ths[k].at'.toNat] from by rw [HOK.out.mem]; exact stp_of HRP.out hkt h)
    have HTH := Lib.hid (HOK.out.th k hks hkt)
    have HLE := Lib.hid ((right_ths HRP.out).2.2.2 k hkt)
    have HHH := Lib.hid (show s.ths[k]? = some s.ths[k] from List.getElem?_eq_getElem hks)
    generalize P.ths[k] = ss at *
    generalize s.ths[k] = h at *
    obtain ⟨xa, xr, xe, xb⟩ := h
    obtain ⟨n, rfl⟩ : ∃ n : Nat, xa = n := ⟨xa.toNat, by have h : 0 ≤ xa := HTH.out.lo; omega⟩
    dsimp only at hR hW c0 c2'
    simp only [Int.toNat_natCast] at HAS HAN HGO HPX c0
    obtain ⟨A5, c5, rfl, n1, n2, n3⟩ := hS
    have HRI := Lib.hid hR
    have HWI := Lib.hid hW
    obtain ⟨Ar, cr, rfl, -⟩ := hR
    obtain ⟨Ab, cb, rfl, -⟩ := hW
    have HXR := Lib.hid (show xr.length = 4 from HTH.out.regs)
    have HNL := Lib.hid (show n ≤ ss.length from by have h : (n : Int) ≤ ss.length := HTH.out.hi; omega)
    have HN3 := Lib.hid n3
    have HTB := Lib.hid (fun (W : World) (hW : Below W2.heap.size W2 W) => show Below B w W from (chain HB2.out hW).mono hBB)
    have HZ0 := Lib.hid (fun W hW => ((HTB.out W hW).cell (p := ⟨b2, f2 + k, none⟩) hb2).trans z0)
    have HC0 := Lib.hid (fun W hW => ((HTB.out W hW).cell (p := ⟨b1, f1 + k * 4, none⟩) hb1).trans c0)
    have HC1 := Lib.hid (fun W hW => ((HTB.out W hW).cell (p := ⟨b1, f1 + k * 4 + 1, none⟩) hb1).trans c1')
    have HC2 := Lib.hid (fun W hW => ((HTB.out W hW).cell (p := ⟨b1, f1 + k * 4 + 2, none⟩) hb1).trans c2')
    have HC3 := Lib.hid (fun W hW => ((HTB.out W hW).cell (p := ⟨b1, f1 + k * 4 + 3, none⟩) hb1).trans c3')
    have HB12 := Lib.hid (And.intro hb1 hb2)
    clear hc1 hc2 z0 c0 c1' c2' c3' n3 n1 n2 hb1 hb2
    have hat : n < ss.length := by simpa using hk3
    clear hk3
    have HAS0 := Lib.hid (HAS.out hat).1
    have HA := Lib.hid (HAS.out hat)
    have HG := Lib.hid (HGO.out hat)
    have HX8 := Lib.hid (HPX.out hat)
    obtain ⟨b5, f5, rfl, hb5, hst⟩ := HN3.out (by omega)
    obtain ⟨s0, s1, s2, s3, s4⟩ := hst n hat
    clear HAS HAN HGO HPX HN3 hst
    generalize ss[n] = x at *
    obtain ⟨op, rg, lc, nn, tn⟩ := x
    dsimp only at s0 s1 s2 s3 s4
    have HS5 := Lib.hid (fun W hW => show W.cell? ⟨b5, f5 + n * 5, none⟩ = some (.int .i64 op) ∧ W.cell? ⟨b5, f5 + n * 5 + 1, none⟩ = some (.int .i64 rg) ∧ W.cell? ⟨b5, f5 + n * 5 + 2, none⟩ = some (.int .i64 lc) ∧ W.cell? ⟨b5, f5 + n * 5 + 3, none⟩ = some (.int .i64 nn) ∧ W.cell? ⟨b5, f5 + n * 5 + 4, none⟩ = some (.int .i64 tn) from
      ⟨((HTB.out W hW).cell (p := ⟨b5, f5 + n * 5, none⟩) hb5).trans s0, ((HTB.out W hW).cell (p := ⟨b5, f5 + n * 5 + 1, none⟩) hb5).trans s1, ((HTB.out W hW).cell (p := ⟨b5, f5 + n * 5 + 2, none⟩) hb5).trans s2, ((HTB.out W hW).cell (p := ⟨b5, f5 + n * 5 + 3, none⟩) hb5).trans s3, ((HTB.out W hW).cell (p := ⟨b5, f5 + n * 5 + 4, none⟩) hb5).trans s4⟩)
    clear s0 s1 s2 s3 s4 hb5
    have HOP := Lib.hid (hop _ HAS0.out)
    dsimp only at HOP
    clear hop
    go_upto_region 7 with fail
    have x1 := (HX.out.below HL.out HX.out.lt).cell 1 _ rfl
    have y1 := (HY.out.below HL.out HY.out.lt).cell 1 _ rfl
    have z0 := HZ0.out _ HL.out
    have c0 := HC0.out _ HL.out
    obtain ⟨s0, s1, s2, s3, s4⟩ := HS5.out _ HL.out
    have hq5 : n < ss.length := hat
    refine wp_region_held_drew (S := (fun w' => (w'.cell? ⟨gp, 1, none⟩ = some (.slice (some ⟨b2, f2, none⟩) P.ths.length d1) ∧ w'.cell? ⟨gs, 1, none⟩ = some (.slice (some ⟨b1, f1, none⟩) s.ths.length c1) ∧ w'.cell? ⟨b2, f2 + k, none⟩ = some (.slice (some ⟨b5, f5, none⟩) ss.length c5) ∧ w'.cell? ⟨b1, f1 + k * 4, none⟩ = some (.int .i64 (n : Int)) ∧ w'.cell? ⟨b5, f5 + n * 5, none⟩ = some (.int .i64 op) ∧ w'.cell? ⟨b5, f5 + n * 5 + 1, none⟩ = some (.int .i64 rg) ∧ w'.cell? ⟨b5, f5 + n * 5 + 2, none⟩ = some (.int .i64 lc) ∧ w'.cell? ⟨b5, f5 + n * 5 + 3, none⟩ = some (.int .i64 nn) ∧ w'.cell? ⟨b5, f5 + n * 5 + 4, none⟩ = some (.int .i64 tn) ∧ True) ∧ Below X8.heap.size X8 w')) (by kernel_rfl) ⟨⟨x1, y1, z0, c0, s0, s1, s2, s3, s4, trivial⟩, below_drewN (Below.refl _ _) 1⟩ (fun hHeld => ?_)
    obtain ⟨Xs, hXs⟩ : ∃ W, W = X8.drew := ⟨_, rfl⟩
    have HXs := Lib.hid (show Below X8.heap.size X8 Xs from by rw [hXs]; exact below_drewN (Below.refl _ _) 1)
    rw [← hXs] at hHeld ⊢
    clear hXs
    refine wpAnyH_take (i := 0) (v := ?_) rfl (by kernel_rfl) (by kernel_rfl) (by kernel_rfl) (fun _ _ _ h => h) (Or.inl ⟨by rfl, ?_⟩) (by assumption) ?_
    rotate_left
    · intro w hSw; (try dsimp only at hSw); go_simp; (try with_reducible rfl)
    (try simp only [Act.put, List.getElem_toArray, List.getElem_cons_zero, List.getElem_cons_succ, Array.getInternal_eq_getElem, List.setIfInBounds_toArray, List.set_cons_zero, List.set_cons_succ])
    refine wpAnyH_take (i := 1) (v := ?_) rfl (by kernel_rfl) (by kernel_rfl) (by kernel_rfl) (fun _ _ _ h => h) (Or.inl ⟨by rfl, ?_⟩) (by assumption) ?_
    rotate_left
    · intro w hSw; (try dsimp only at hSw); go_simp; (try with_reducible rfl)
    (try simp only [Act.put, List.getElem_toArray, List.getElem_cons_zero, List.getElem_cons_succ, Array.getInternal_eq_getElem, List.setIfInBounds_toArray, List.set_cons_zero, List.set_cons_succ])
    refine wpAnyH_take (i := 2) (v := ?_) rfl (by kernel_rfl) (by kernel_rfl) (by kernel_rfl) (fun _ _ _ h => h) (Or.inl ⟨by rfl, ?_⟩) (by assumption) ?_
    rotate_left
    · intro w hSw; (try dsimp only at hSw); go_simp; (try with_reducible rfl)
    (try simp only [Act.put, List.getElem_toArray, List.getElem_cons_zero, List.getElem_cons_succ, Array.getInternal_eq_getElem, List.setIfInBounds_toArray, List.set_cons_zero, List.set_cons_succ])
    refine wpAnyH_take (i := 3) (v := ?_) rfl (by kernel_rfl) (by kernel_rfl) (by kernel_rfl) (fun _ _ _ h => h) (Or.inl ⟨by rfl, ?_⟩) (by assumption) ?_
    rotate_left
    · intro w hSw; (try dsimp only at hSw); go_simp; (try with_reducible rfl)
    (try simp only [Act.put, List.getElem_toArray, List.getElem_cons_zero, List.getElem_cons_succ, Array.getInternal_eq_getElem, List.setIfInBounds_toArray, List.set_cons_zero, List.set_cons_succ])
    refine wpAnyH_take (i := 4) (v := ?_) rfl (by kernel_rfl) (by kernel_rfl) (by kernel_rfl) (fun _ _ _ h => h) (Or.inl ⟨by rfl, ?_⟩) (by assumption) ?_
    rotate_left
    · intro w hSw; (try dsimp only at hSw); go_simp; (try with_reducible rfl)
    (try simp only [Act.put, List.getElem_toArray, List.getElem_cons_zero, List.getElem_cons_succ, Array.getInternal_eq_getElem, List.setIfInBounds_toArray, List.set_cons_zero, List.set_cons_succ])
    refine wpAnyH_take (i := 5) (v := ?_) rfl (by kernel_rfl) (by kernel_rfl) (by kernel_rfl) (fun _ _ _ h => h) (Or.inl ⟨by rfl, ?_⟩) (by assumption) ?_
    rotate_left
    · intro w hSw; (try dsimp only at hSw); go_simp; (try with_reducible rfl)
    (try simp only [Act.put, List.getElem_toArray, List.getElem_cons_zero, List.getElem_cons_succ, Array.getInternal_eq_getElem, List.setIfInBounds_toArray, List.set_cons_zero, List.set_cons_succ])
    refine wpAnyH_take (i := 6) (v := ?_) rfl (by kernel_rfl) (by kernel_rfl) (by kernel_rfl) (fun _ _ _ h => h) (Or.inl ⟨by rfl, ?_⟩) (by assumption) ?_
    rotate_left
    · intro w hSw; (try dsimp only at hSw); go_simp; (try with_reducible rfl)
    (try simp only [Act.put, List.getElem_toArray, List.getElem_cons_zero, List.getElem_cons_succ, Array.getInternal_eq_getElem, List.setIfInBounds_toArray, List.set_cons_zero, List.set_cons_succ])
    refine wpAnyH_take (i := 7) (v := ?_) rfl (by kernel_rfl) (by kernel_rfl) (by kernel_rfl) (fun _ _ _ h => h) (Or.inl ⟨by rfl, ?_⟩) (by assumption) ?_
    rotate_left
    · intro w hSw; (try dsimp only at hSw); go_simp; (try with_reducible rfl)
    (try simp only [Act.put, List.getElem_toArray, List.getElem_cons_zero, List.getElem_cons_succ, Array.getInternal_eq_getElem, List.setIfInBounds_toArray, List.set_cons_zero, List.set_cons_succ])
    refine wpAnyH_take (i := 8) (v := ?_) rfl (by kernel_rfl) (by kernel_rfl) (by kernel_rfl) (fun _ _ _ h => h) (Or.inl ⟨by rfl, ?_⟩) (by assumption) ?_
    rotate_left
    · intro w hSw; (try dsimp only at hSw); go_simp; (try with_reducible rfl)
    (try simp only [Act.put, List.getElem_toArray, List.getElem_cons_zero, List.getElem_cons_succ, Array.getInternal_eq_getElem, List.setIfInBounds_toArray, List.set_cons_zero, List.set_cons_succ])
    refine wpAnyH_take (i := 9) (v := ?_) rfl (by kernel_rfl) (by kernel_rfl) (by kernel_rfl) (fun _ _ _ h => h) (Or.inl ⟨by rfl, ?_⟩) (by assumption) ?_
    rotate_left
    · intro w hSw; (try dsimp only at hSw); go_simp; (try with_reducible rfl)
    (try simp only [Act.put, List.getElem_toArray, List.getElem_cons_zero, List.getElem_cons_succ, Array.getInternal_eq_getElem, List.setIfInBounds_toArray, List.set_cons_zero, List.set_cons_succ])
    refine wpAnyH_take (i := 10) (v := ?_) rfl (by kernel_rfl) (by kernel_rfl) (by kernel_rfl) (fun _ _ _ h => h) (Or.inl ⟨by rfl, ?_⟩) (by assumption) ?_
    rotate_left
    · intro w hSw; (try dsimp only at hSw); go_simp; (try with_reducible rfl)
    (try simp only [Act.put, List.getElem_toArray, List.getElem_cons_zero, List.getElem_cons_succ, Array.getInternal_eq_getElem, List.setIfInBounds_toArray, List.set_cons_zero, List.set_cons_succ])
    refine wpAnyH_take (i := 11) (v := ?_) rfl (by kernel_rfl) (by kernel_rfl) (by kernel_rfl) (fun _ _ _ h => h) (Or.inl ⟨by rfl, ?_⟩) (by assumption) ?_
    rotate_left
    · intro w hSw; (try dsimp only at hSw); go_simp; (try with_reducible rfl)
    (try simp only [Act.put, List.getElem_toArray, List.getElem_cons_zero, List.getElem_cons_succ, Array.getInternal_eq_getElem, List.setIfInBounds_toArray, List.set_cons_zero, List.set_cons_succ])
    refine wpAnyH_take (i := 12) (v := ?_) rfl (by kernel_rfl) (by kernel_rfl) (by kernel_rfl) (fun _ _ _ h => h) (Or.inl ⟨by rfl, ?_⟩) (by assumption) ?_
    rotate_left
    · intro w hSw; (try dsimp only at hSw); go_simp; (try with_reducible rfl)
    (try simp only [Act.put, List.getElem_toArray, List.getElem_cons_zero, List.getElem_cons_succ, Array.getInternal_eq_getElem, List.setIfInBounds_toArray, List.set_cons_zero, List.set_cons_succ])
    refine wpAnyH_ready (rs := [13]) (by kernel_rfl) (by simp) ?_
    refine AllReadyH.cons rfl (fun K hK => ?_) AllReadyH.nil
    have HBA := Lib.hid (below_al hHeld.2 (.cells #[.int .i64 0, .int .i64 0, .int .i64 0, .int .i64 0, .int .i64 0] 39))
    go_simp
    refine hK.out _ _ ⟨⟨kc HBA.out x1, kc HBA.out y1, kc HBA.out z0, kc HBA.out c0, kc HBA.out s0, kc HBA.out s1, kc HBA.out s2, kc HBA.out s3, kc HBA.out s4, trivial⟩, HBA.out⟩ (fun hHeld => ?_)
    clear hK K
    (try simp only [Act.put, List.getElem_toArray, List.getElem_cons_zero, List.getElem_cons_succ, Array.getInternal_eq_getElem, List.setIfInBounds_toArray, List.set_cons_zero, List.set_cons_succ])
    obtain ⟨Xa, hXa⟩ : ∃ W, W = Xs.alloc (.cells #[.int .i64 0, .int .i64 0, .int .i64 0, .int .i64 0, .int .i64 0] 39) := ⟨_, rfl⟩
    obtain ⟨g11, hgx⟩ : ∃ g, g = Xs.heap.size := ⟨_, rfl⟩
    rw [← hXa] at hHeld HBA ⊢
    (try rw [← hgx])
    have HQa := Lib.hid (show BoxC Xa g11 39 #[.int .i64 0, .int .i64 0, .int .i64 0, .int .i64 0, .int .i64 0] from by rw [hXa, hgx]; exact BoxC.new Xs _ _)
    have HGa := Lib.hid (show X8.heap.size ≤ g11 from by rw [hgx]; exact HXs.out.size)
    clear hXa hgx
    refine wpAnyH_ready (rs := [14]) (by kernel_rfl) (by simp) ?_
    refine AllReadyH.cons rfl (fun K hK => ?_) AllReadyH.nil
    have q0 := HQa.out.cell 0 _ rfl
    have q1 := HQa.out.cell 1 _ rfl
    have q2 := HQa.out.cell 2 _ rfl
    have q3 := HQa.out.cell 3 _ rfl
    have q4 := HQa.out.cell 4 _ rfl
    have w0 := HQa.out.frozen 0
    have w1 := HQa.out.frozen 1
    have w2 := HQa.out.frozen 2
    have w3 := HQa.out.frozen 3
    have w4 := HQa.out.frozen 4
    have HBS := Lib.hid (show Below X8.heap.size X8 (((((Xa.setCell ⟨g11, 0, none⟩ (.int .i64 op)).setCell ⟨g11, 1, none⟩ (.int .i64 rg)).setCell ⟨g11, 2, none⟩ (.int .i64 lc)).setCell ⟨g11, 3, none⟩ (.int .i64 nn)).setCell ⟨g11, 4, none⟩ (.int .i64 tn)) from below_set5 HBA.out HGa.out)
    have HQs := Lib.hid (show BoxC (((((Xa.setCell ⟨g11, 0, none⟩ (.int .i64 op)).setCell ⟨g11, 1, none⟩ (.int .i64 rg)).setCell ⟨g11, 2, none⟩ (.int .i64 lc)).setCell ⟨g11, 3, none⟩ (.int .i64 nn)).setCell ⟨g11, 4, none⟩ (.int .i64 tn)) g11 39 #[.int .i64 op, .int .i64 rg, .int .i64 lc, .int .i64 nn, .int .i64 tn] from ((((HQa.out.set 0 _).set 1 _).set 2 _).set 3 _).set 4 _)
    go_simp
    refine hK.out _ _ ⟨⟨kc HBS.out x1, kc HBS.out y1, kc HBS.out z0, kc HBS.out c0, kc HBS.out s0, kc HBS.out s1, kc HBS.out s2, kc HBS.out s3, kc HBS.out s4, trivial⟩, HBS.out⟩ (fun hHeld => ?_)
    clear q0 q1 q2 q3 q4 w0 w1 w2 w3 w4
    clear hK K
    (try simp only [Act.put, List.getElem_toArray, List.getElem_cons_zero, List.getElem_cons_succ, Array.getInternal_eq_getElem, List.setIfInBounds_toArray, List.set_cons_zero, List.set_cons_succ])
    refine wpAnyH_done (by kernel_rfl) ?_ _
    clear hHeld x1 y1 z0 c0 s0 s1 s2 s3 s4
    obtain ⟨Xe, hXn⟩ : ∃ W, W = ((((Xa.setCell ⟨g11, 0, none⟩ (.int .i64 op)).setCell ⟨g11, 1, none⟩ (.int .i64 rg)).setCell ⟨g11, 2, none⟩ (.int .i64 lc)).setCell ⟨g11, 3, none⟩ (.int .i64 nn)).setCell ⟨g11, 4, none⟩ (.int .i64 tn) := ⟨_, rfl⟩
    rw [← hXn] at HBS HQs ⊢
    replace HST := Lib.hid HBS.out
    have HQx := Lib.hid HQs.out
    clear hXn HBS HQs HQa HBA HXs HGa
    replace HL := Lib.hid (chain HL.out HST.out)
    replace HO8 := Lib.hid (HO8.out.below HST.out)
    replace HQ8 := Lib.hid (HQ8.out.below HST.out HQ8.out.lt)
    have HOK8 := Lib.hid (stp_ok HRP.out HOK.out (k : Int))
    have x0 := (HX.out.below HL.out HX.out.lt).cell 0 _ rfl
    have x1 := (HX.out.below HL.out HX.out.lt).cell 1 _ rfl
    have a0 := HQ8.out.cell 0 _ rfl
    have a1 := HQ8.out.cell 1 _ rfl
    go_wp2_with fail
    refine (rright_any _ (HPZ.out _ HL.out).v HO8.out.sv (Nat.le_refl _)).mono ?_
    rintro e V6 ⟨d, rfl, hd, hb⟩
    have HST := Lib.hid hb
    replace HL := Lib.hid (chain HL.out hb)
    clear hb x0 x1
    obtain rfl : d = true := hd.2 HOK8.out
    clear hd a0 a1
    replace HO8 := Lib.hid (HO8.out.below HST.out)
    replace HQ8 := Lib.hid (HQ8.out.below HST.out HQ8.out.lt)
    replace HQx := Lib.hid (HQx.out.below HST.out HQx.out.lt)
    have HO8c := Lib.hid (HO8.out.cast HA.out.2)
    have HP8 := Lib.hid (show k < ps8.length from by rw [HO8.out.len, (stp_len P s (k : Int)).2]; exact hks)
    obtain ⟨gv, cv', cur, hev, hgv, hbv, t0, t1, t2, t3⟩ := HO8c.out.row HP8.out
    rw [show (⟨stM (⟨op, rg, lc, nn, tn⟩ : St) s.mem xr, s.ths.set k (stT (⟨op, rg, lc, nn, tn⟩ : St) s.mem ⟨(n : Int), xr, xe, xb⟩)⟩ : Sta).ths.length = s.ths.length from List.length_set] at hev
    injection hev with hev1 hev3 hev2
    clear hev3
    subst hev1 hev2
    have HT8 := Lib.hid (show (ps8[k]'HP8.out).t = stT (⟨op, rg, lc, nn, tn⟩ : St) s.mem ⟨(n : Int), xr, xe, xb⟩ from by
      rw [HO8c.out.at HP8.out (by show k < (s.ths.set k _).length; rw [List.length_set]; exact hks)]
      exact List.getElem_set_self _)
    have HE8 := Lib.hid (HO8c.out.each _ (List.getElem_mem HP8.out)).1
    rw [HT8.out] at HE8 t0 t2
    obtain ⟨vr8, hvr8⟩ : ∃ v, v = (ps8[k]'HP8.out).vr := ⟨_, rfl⟩
    rw [← hvr8] at HE8 t1
    clear hvr8 hgv t3
    obtain ⟨j, hj⟩ : ∃ j, j = b % 4 := ⟨_, rfl⟩
    have hj4 : j < 4 := by omega
    have hjx : j < xr.length := by rw [HXR.out]; exact hj4
    obtain ⟨Ar', cr', er, hr1, hr2, hr0, hr3⟩ := HRI.out
    injection er with er1 er3 er2
    clear er3
    subst er1 er2
    obtain ⟨br, fr, rfl, hbr, hcr⟩ := nu_at (c := cr) hr3 (by omega)
    have HRC := Lib.hid (fun W hW (i : Nat) (hi : i < xr.length) => ((HTB.out W hW).cell (p := ⟨br, fr + i, none⟩) hbr).trans (hcr i hi))
    have hj8 : j < (stR (⟨op, rg, lc, nn, tn⟩ : St) s.mem xr).length := by rw [stR_len]; exact hjx
    obtain ⟨gr, c, cu, e, hgr, hbr8, cell8⟩ := own_nu HE8.out hj8
    obtain ⟨wj, hwj⟩ : ∃ z, z = (stR (⟨op, rg, lc, nn, tn⟩ : St) s.mem xr)[j] := ⟨_, rfl⟩
    obtain ⟨xj, hxj⟩ : ∃ z, z = xr[j] := ⟨_, rfl⟩
    have HGEN := Lib.hid (show wj = if rg.toNat = j then (if op = 1 then nn else if op = 2 ∨ op = 5 then nth s.mem lc else xj) else xj from by rw [hwj, stR_at _ _ _ j hjx hj8, ← hxj])
    have cellw : V6.cell? ⟨gr, j, none⟩ = some (.int .i64 wj) := by rw [hwj]; exact cell8
    clear cell8
    have e : vr8 = .slice (some ⟨gr, 0, none⟩) xr.length c := by rw [e, show (stT (⟨op, rg, lc, nn, tn⟩ : St) s.mem ⟨(n : Int), xr, xe, xb⟩).regs.length = xr.length from stR_len _ _ _]
    subst e
    have HBJ := Lib.hid (show (b : Int).tmod 4 = (j : Int) from by rw [hj]; rfl)
    have HXJ := Lib.hid (fun (W : World) (hW : Below W2.heap.size W2 W) => show W.cell? ⟨br, fr + j, none⟩ = some (.int .i64 xj) from by rw [hxj]; exact HRC.out W hW j hjx)
    have HC8 := Lib.hid cellw
    have HJ0 := Lib.hid hj
    have HT1 := Lib.hid t1
    have HT2 := Lib.hid t2
    have HBV := Lib.hid hbv
    clear hwj hxj hcr hr3 cellw t0 t1 t2 hbv hr0 hj
    have hbj := HBJ.out
    have hb2 : (b : Int) ≤ 255 := by omega
    obtain rfl := HOP.out.1
    have HJE := Lib.hid (show (j : Int) = rg from by rw [HJ0.out]; exact HOP.out.2)
    have he : ((j : Int) == rg) = true := by rw [beq_iff_eq]; exact HJE.out
    obtain ⟨la, lb⟩ := HX8.out.loc rfl
    dsimp only at la lb
    obtain ⟨l, rfl⟩ : ∃ l : Nat, lc = l := ⟨lc.toNat, by omega⟩
    have hlm : l < s.mem.length := by omega
    obtain ⟨bm, fm, rfl, hbm, hcm⟩ := nu_at (c := c7) HM3.out (by omega)
    have mm := ((HTB.out _ HL.out).cell (p := ⟨bm, fm + l, none⟩) hbm).trans (hcm l hlm)
    obtain ⟨zm, hzm⟩ : ∃ z, z = s.mem[l] := ⟨_, rfl⟩
    rw [← hzm] at mm
    have HZM := Lib.hid (show nth s.mem (l : Int) = zm from by rw [hzm]; unfold nth; simp [hlm])
    clear hzm hcm la lb
    have HWV := Lib.hid (show wj = zm from by have := HJE.out; rw [HGEN.out, ← HZM.out]; simp [show rg.toNat = j by omega])
    have hwv := HWV.out.symm
    subst hwv
    have cj := HC8.out
    have t1 := HT1.out
    have y1 := (HY.out.below HL.out HY.out.lt).cell 1 _ rfl
    have cg := HC1.out _ HL.out
    have xc := HXJ.out _ HL.out
    have a1 := HQ8.out.cell 1 _ rfl
    have q0 := HQx.out.cell 0 _ rfl
    have q1 := HQx.out.cell 1 _ rfl
    have q2 := HQx.out.cell 2 _ rfl
    have q3 := HQx.out.cell 3 _ rfl
    have y0 := (HY.out.below HL.out HY.out.lt).cell 0 _ rfl
    go_upto_region 18 with fail
    clear y1 cg xc a1 q0 q1 q2 q3 t1 cj he y0 mm
    have hlm := hlm
    have hlm8 : l < (ScM.stM (⟨5, rg, (l : Int), nn, tn⟩ : St) s.mem xr).length := by rw [stM_len]; exact hlm
    obtain ⟨gm8, cc, cum, em, hgm, hbm, cellm⟩ := own_nu HO8c.out.mem hlm8
    rw [show (ScM.stM (⟨5, rg, (l : Int), nn, tn⟩ : St) s.mem xr).length = s.mem.length from stM_len _ _ _] at em
    injection em with em1 em3 em2
    clear em3
    subst em1 em2
    obtain ⟨z8, hz8⟩ : ∃ z, z = (ScM.stM (⟨5, rg, (l : Int), nn, tn⟩ : St) s.mem xr)[l] := ⟨_, rfl⟩
    have HZ8 := Lib.hid (show V6.cell? ⟨gm8, l, none⟩ = some (.int .i64 z8) from by rw [hz8]; exact cellm)
    have HV8 := Lib.hid (show z8 = nth xr rg from by rw [hz8, stM_at _ _ _ l hlm]; simp)
    clear hz8 cellm hbm hgm
    obtain ⟨ra, rb⟩ := HX8.out.reg rfl
    dsimp only at ra rb
    obtain ⟨r, rfl⟩ : ∃ r : Nat, rg = r := ⟨rg.toNat, by omega⟩
    have hrx : r < xr.length := by rw [HXR.out]; omega
    obtain ⟨zr, hzr⟩ : ∃ z, z = xr[r] := ⟨_, rfl⟩
    have HZR := Lib.hid (show nth xr (r : Int) = zr from by unfold nth; rw [hzr]; simp [hrx])
    have HRR := Lib.hid (fun (W : World) (hW : Below W2.heap.size W2 W) => show W.cell? ⟨br, fr + r, none⟩ = some (.int .i64 zr) from by rw [hzr]; exact HRC.out W hW r hrx)
    clear hzr
    have y1 := (HY.out.below HL.out HY.out.lt).cell 1 _ rfl
    have cg := HC1.out _ HL.out
    have a0 := HQ8.out.cell 0 _ rfl
    have q0 := HQx.out.cell 0 _ rfl
    have q1 := HQx.out.cell 1 _ rfl
    have q2 := HQx.out.cell 2 _ rfl
    have mm := HZ8.out
    have rr := HRR.out _ HL.out
    obtain rfl : z8 = zr := HV8.out.trans HZR.out
    have hqq : (z8 == z8) = true := by rw [beq_iff_eq]
    go_upto_region 21 with fail
    refine wp_region_held_drew (S := (fun w' => w'.cell? ⟨g8, 0, none⟩ = some (.slice (some ⟨gm8, 0, none⟩) s.mem.length c8) ∧ w'.cell? ⟨g11, 2, none⟩ = some (.int .i64 (l : Int)) ∧ w'.cell? ⟨gm8, l, none⟩ = some (.int .i64 z8) ∧ w'.cell? ⟨gs, 1, none⟩ = some (.slice (some ⟨b1, f1, none⟩) s.ths.length c1) ∧ w'.cell? ⟨b1, f1 + k * 4 + 1, none⟩ = some (.slice (some ⟨br, fr, none⟩) xr.length cr) ∧ w'.cell? ⟨g11, 1, none⟩ = some (.int .i64 (r : Int)) ∧ w'.cell? ⟨br, fr + r, none⟩ = some (.int .i64 z8) ∧ True)) (by kernel_rfl) ⟨a0, q2, mm, y1, cg, q1, rr, trivial⟩ (fun hHeld => ?_)
    refine wpAnyH_take (i := 0) (v := ?_) rfl (by kernel_rfl) (by kernel_rfl) (by kernel_rfl) (fun _ _ _ h => h) (Or.inl ⟨by rfl, ?_⟩) (by assumption) ?_
    rotate_left
    · intro w hSw; (try dsimp only at hSw); go_simp; (try with_reducible rfl)
    (try simp only [Act.put, List.getElem_toArray, List.getElem_cons_zero, List.getElem_cons_succ, Array.getInternal_eq_getElem, List.setIfInBounds_toArray, List.set_cons_zero, List.set_cons_succ])
    refine wpAnyH_take (i := 1) (v := ?_) rfl (by kernel_rfl) (by kernel_rfl) (by kernel_rfl) (fun _ _ _ h => h) (Or.inl ⟨by rfl, ?_⟩) (by assumption) ?_
    rotate_left
    · intro w hSw; (try dsimp only at hSw); go_simp; (try with_reducible rfl)
    (try simp only [Act.put, List.getElem_toArray, List.getElem_cons_zero, List.getElem_cons_succ, Array.getInternal_eq_getElem, List.setIfInBounds_toArray, List.set_cons_zero, List.set_cons_succ])
    refine wpAnyH_take (i := 2) (v := ?_) rfl (by kernel_rfl) (by kernel_rfl) (by kernel_rfl) (fun _ _ _ h => h) (Or.inl ⟨by rfl, ?_⟩) (by assumption) ?_
    rotate_left
    · intro w hSw; (try dsimp only at hSw); go_simp; (try with_reducible rfl)
    (try simp only [Act.put, List.getElem_toArray, List.getElem_cons_zero, List.getElem_cons_succ, Array.getInternal_eq_getElem, List.setIfInBounds_toArray, List.set_cons_zero, List.set_cons_succ])
    refine wpAnyH_take (i := 3) (v := ?_) rfl (by kernel_rfl) (by kernel_rfl) (by kernel_rfl) (fun _ _ _ h => h) (Or.inl ⟨by rfl, ?_⟩) (by assumption) ?_
    rotate_left
    · intro w hSw; (try dsimp only at hSw); go_simp; (try with_reducible rfl)
    (try simp only [Act.put, List.getElem_toArray, List.getElem_cons_zero, List.getElem_cons_succ, Array.getInternal_eq_getElem, List.setIfInBounds_toArray, List.set_cons_zero, List.set_cons_succ])
    refine wpAnyH_take (i := 4) (v := ?_) rfl (by kernel_rfl) (by kernel_rfl) (by kernel_rfl) (fun _ _ _ h => h) (Or.inl ⟨by rfl, ?_⟩) (by assumption) ?_
    rotate_left
    · intro w hSw; (try dsimp only at hSw); go_simp; (try with_reducible rfl)
    (try simp only [Act.put, List.getElem_toArray, List.getElem_cons_zero, List.getElem_cons_succ, Array.getInternal_eq_getElem, List.setIfInBounds_toArray, List.set_cons_zero, List.set_cons_succ])
    refine wpAnyH_take (i := 5) (v := ?_) rfl (by kernel_rfl) (by kernel_rfl) (by kernel_rfl) (fun _ _ _ h => h) (Or.inl ⟨by rfl, ?_⟩) (by assumption) ?_
    rotate_left
    · intro w hSw; (try dsimp only at hSw); go_simp; (try with_reducible rfl)
    (try simp only [Act.put, List.getElem_toArray, List.getElem_cons_zero, List.getElem_cons_succ, Array.getInternal_eq_getElem, List.setIfInBounds_toArray, List.set_cons_zero, List.set_cons_succ])
    refine wpAnyH_take (i := 6) (v := ?_) rfl (by kernel_rfl) (by kernel_rfl) (by kernel_rfl) (fun _ _ _ h => h) (Or.inl ⟨by rfl, ?_⟩) (by assumption) ?_
    rotate_left
    · intro w hSw; (try dsimp only at hSw); go_simp; (try with_reducible rfl)
    (try simp only [Act.put, List.getElem_toArray, List.getElem_cons_zero, List.getElem_cons_succ, Array.getInternal_eq_getElem, List.setIfInBounds_toArray, List.set_cons_zero, List.set_cons_succ])
    refine wpAnyH_take (i := 7) (v := ?_) rfl (by kernel_rfl) (by kernel_rfl) (by kernel_rfl) (fun _ _ _ h => h) (Or.inl ⟨by rfl, ?_⟩) (by assumption) ?_
    rotate_left
    · intro w hSw; (try dsimp only at hSw); go_simp; (try with_reducible rfl)
    (try simp only [Act.put, List.getElem_toArray, List.getElem_cons_zero, List.getElem_cons_succ, Array.getInternal_eq_getElem, List.setIfInBounds_toArray, List.set_cons_zero, List.set_cons_succ])
    refine wpAnyH_take (i := 8) (v := ?_) rfl (by kernel_rfl) (by kernel_rfl) (by kernel_rfl) (fun _ _ _ h => h) (Or.inl ⟨by rfl, ?_⟩) (by assumption) ?_
    rotate_left
    · intro w hSw; (try dsimp only at hSw); go_simp; (try with_reducible rfl)
    (try simp only [Act.put, List.getElem_toArray, List.getElem_cons_zero, List.getElem_cons_succ, Array.getInternal_eq_getElem, List.setIfInBounds_toArray, List.set_cons_zero, List.set_cons_succ])
    refine wpAnyH_take (i := 9) (v := ?_) rfl (by kernel_rfl) (by kernel_rfl) (by kernel_rfl) (fun _ _ _ h => h) (Or.inl ⟨by rfl, ?_⟩) (by assumption) ?_
    rotate_left
    · intro w hSw; (try dsimp only at hSw); go_simp; (try with_reducible rfl)
    (try simp only [Act.put, List.getElem_toArray, List.getElem_cons_zero, List.getElem_cons_succ, Array.getInternal_eq_getElem, List.setIfInBounds_toArray, List.set_cons_zero, List.set_cons_succ])
    refine wpAnyH_take (i := 10) (v := ?_) rfl (by kernel_rfl) (by kernel_rfl) (by kernel_rfl) (fun _ _ _ h => h) (Or.inl ⟨by rfl, ?_⟩) (by assumption) ?_
    rotate_left
    · intro w hSw; (try dsimp only at hSw); go_simp; (try with_reducible rfl)
    (try simp only [Act.put, List.getElem_toArray, List.getElem_cons_zero, List.getElem_cons_succ, Array.getInternal_eq_getElem, List.setIfInBounds_toArray, List.set_cons_zero, List.set_cons_succ])
    refine wpAnyH_take (i := 11) (v := ?_) rfl (by kernel_rfl) (by kernel_rfl) (by kernel_rfl) (fun _ _ _ h => h) (Or.inl ⟨by rfl, ?_⟩) (by assumption) ?_
    rotate_left
    · intro w hSw; (try dsimp only at hSw); go_simp; (try with_reducible rfl)
    (try simp only [Act.put, List.getElem_toArray, List.getElem_cons_zero, List.getElem_cons_succ, Array.getInternal_eq_getElem, List.setIfInBounds_toArray, List.set_cons_zero, List.set_cons_succ])
    refine wpAnyH_take (i := 12) (v := ?_) rfl (by kernel_rfl) (by kernel_rfl) (by kernel_rfl) (fun _ _ _ h => h) (Or.inl ⟨by rfl, ?_⟩) (by assumption) ?_
    rotate_left
    · intro w hSw; (try dsimp only at hSw); go_simp; (try with_reducible rfl)
    (try simp only [Act.put, List.getElem_toArray, List.getElem_cons_zero, List.getElem_cons_succ, Array.getInternal_eq_getElem, List.setIfInBounds_toArray, List.set_cons_zero, List.set_cons_succ])
    refine wpAnyH_take (i := 13) (v := ?_) rfl (by kernel_rfl) (by kernel_rfl) (by kernel_rfl) (fun _ _ _ h => h) (Or.inl ⟨by rfl, ?_⟩) (by assumption) ?_
    rotate_left
    · intro w hSw; (try dsimp only at hSw); go_simp; (try with_reducible rfl)
    (try simp only [Act.put, List.getElem_toArray, List.getElem_cons_zero, List.getElem_cons_succ, Array.getInternal_eq_getElem, List.setIfInBounds_toArray, List.set_cons_zero, List.set_cons_succ])
    refine wpAnyH_take (i := 14) (v := ?_) rfl (by kernel_rfl) (by kernel_rfl) (by kernel_rfl) (fun _ _ _ h => h) (Or.inl ⟨by rfl, ?_⟩) (by assumption) ?_
    rotate_left
    · intro w hSw; (try dsimp only at hSw); go_simp; (try with_reducible rfl)
    (try simp only [Act.put, List.getElem_toArray, List.getElem_cons_zero, List.getElem_cons_succ, Array.getInternal_eq_getElem, List.setIfInBounds_toArray, List.set_cons_zero, List.set_cons_succ])
    refine wpAnyH_take (i := 15) (v := ?_) rfl (by kernel_rfl) (by kernel_rfl) (by kernel_rfl) (fun _ _ _ h => h) (Or.inl ⟨by rfl, ?_⟩) (by assumption) ?_
    rotate_left
    · intro w hSw; (try dsimp only at hSw); go_simp; (try with_reducible rfl)
    (try simp only [Act.put, List.getElem_toArray, List.getElem_cons_zero, List.getElem_cons_succ, Array.getInternal_eq_getElem, List.setIfInBounds_toArray, List.set_cons_zero, List.set_cons_succ])
    refine wpAnyH_take (i := 16) (v := ?_) rfl (by kernel_rfl) (by kernel_rfl) (by kernel_rfl) (fun _ _ _ h => h) (Or.inl ⟨by rfl, ?_⟩) (by assumption) ?_
    rotate_left
    · intro w hSw; (try dsimp only at hSw); go_simp; (try with_reducible rfl)
    (try simp only [Act.put, List.getElem_toArray, List.getElem_cons_zero, List.getElem_cons_succ, Array.getInternal_eq_getElem, List.setIfInBounds_toArray, List.set_cons_zero, List.set_cons_succ])
    refine wpAnyH_take (i := 17) (v := ?_) rfl (by kernel_rfl) (by kernel_rfl) (by kernel_rfl) (fun _ _ _ h => h) (Or.inl ⟨by rfl, ?_⟩) (by assumption) ?_
    rotate_left
    · intro w hSw; (try dsimp only at hSw); go_simp; (try with_reducible rfl)
    (try simp only [Act.put, List.getElem_toArray, List.getElem_cons_zero, List.getElem_cons_succ, Array.getInternal_eq_getElem, List.setIfInBounds_toArray, List.set_cons_zero, List.set_cons_succ])
    refine wpAnyH_take (i := 18) (v := ?_) rfl (by kernel_rfl) (by kernel_rfl) (by kernel_rfl) (fun _ _ _ h => h) (Or.inl ⟨by rfl, ?_⟩) (by assumption) ?_
    rotate_left
    · intro w hSw; (try dsimp only at hSw); go_simp; (try with_reducible rfl)
    (try simp only [Act.put, List.getElem_toArray, List.getElem_cons_zero, List.getElem_cons_succ, Array.getInternal_eq_getElem, List.setIfInBounds_toArray, List.set_cons_zero, List.set_cons_succ])
    refine wpAnyH_take (i := 19) (v := ?_) rfl (by kernel_rfl) (by kernel_rfl) (by kernel_rfl) (fun _ _ _ h => h) (Or.inl ⟨by rfl, ?_⟩) (by assumption) ?_
    rotate_left
    · intro w hSw; (try dsimp only at hSw); go_simp; (try with_reducible rfl)
    (try simp only [Act.put, List.getElem_toArray, List.getElem_cons_zero, List.getElem_cons_succ, Array.getInternal_eq_getElem, List.setIfInBounds_toArray, List.set_cons_zero, List.set_cons_succ])
    refine wpAnyH_ready (rs := [20]) (by kernel_rfl) (by simp) ?_
    refine AllReadyH.cons rfl (fun K hK => ?_) AllReadyH.nil
    go_simp
    refine hK.out _ _ hHeld (fun hHeld => ?_)
    clear hK K
    (try simp only [Act.put, List.getElem_toArray, List.getElem_cons_zero, List.getElem_cons_succ, Array.getInternal_eq_getElem, List.setIfInBounds_toArray, List.set_cons_zero, List.set_cons_succ])
    refine wpAnyH_done (by kernel_rfl) ?_ _
    clear hHeld
    obtain ⟨Vd, hXd⟩ : ∃ W, W = V6.drew := ⟨_, rfl⟩
    replace HST := Lib.hid (show Below V6.heap.size V6 Vd from by rw [hXd]; exact below_drewN (Below.refl _ _) 1)
    rw [← hXd]
    clear hXd
    replace HL := Lib.hid (chain HL.out HST.out)
    clear a0 q0 q1 q2 y1 cg mm rr
    go_wp2
    go_ret
    exact ⟨rfl, chain HB2.out HL.out⟩
set_option maxHeartbeats 8000000 in
set_option maxRecDepth 100000 in
theorem screads_t7 {B : Nat} {v u : Value} {P : Pg} {s : Sta} (t : Int) (b : Nat) (hb256 : b < 256) (hop : ∀ x, atS P s t = some x → x.op = 7 ∧ ((b % 4 : Nat) : Int) = x.reg) (w : World) (hv : PgZ B w v P) (hu : StaV B w u s) (hBB : B ≤ w.heap.size) :
    Calls Try.prog 6 #[v, u, .int .i64 t, .int .u8 b] w fun e w' => e = .returned (.bool true) ∧ Below w.heap.size w w' := by
  obtain ⟨pi, pt, rfl, hpm, hpi⟩ := hv
  obtain ⟨um, ut, rfl, hum⟩ := hu
  have HPM := Lib.hid hpm
  have HPI := Lib.hid hpi
  have HUM := Lib.hid hum
  obtain ⟨⟨P0, d0, rfl, -⟩, ⟨P1, d1, rfl, l1, l2, l3⟩⟩ := hpm
  obtain ⟨⟨A7, c7, rfl, m1, m2, m0, m3⟩, ⟨A1, c1, rfl, k1, k2, k0, k3⟩⟩ := hum
  clear hpi
  unfold maxLen at l2 m2 k2
  have HL3 := Lib.hid l3
  have HM3 := Lib.hid m3
  have HK3 := Lib.hid k3
  clear l3 m3 k3 m0 k0
  obtain ⟨W2, hW2⟩ : ∃ W, W = ((w.alloc (.cells #[.slice P0 P.init.length d0, .slice P1 P.ths.length d1] 25)).alloc (.cells #[.slice A7 s.mem.length c7, .slice A1 s.ths.length c1] 28)) := ⟨_, rfl⟩
  obtain ⟨gp, hgp⟩ : ∃ g, g = w.heap.size := ⟨_, rfl⟩
  obtain ⟨gs, hgs⟩ : ∃ g, g = w.heap.size + 1 := ⟨_, rfl⟩
  have HX := Lib.hid (show BoxC W2 gp 25 #[.slice P0 P.init.length d0, .slice P1 P.ths.length d1] from by rw [hW2, hgp]; exact (BoxC.new w _ _).alloc _)
  have HY := Lib.hid (show BoxC W2 gs 28 #[.slice A7 s.mem.length c7, .slice A1 s.ths.length c1] from by rw [hW2, hgs]; have := BoxC.new (w.alloc (.cells #[.slice P0 P.init.length d0, .slice P1 P.ths.length d1] 25)) 28 #[.slice A7 s.mem.length c7, .slice A1 s.ths.length c1]; rw [World.size_alloc] at this; exact this)
  have HB2 := Lib.hid (show Below w.heap.size w W2 from by rw [hW2]; exact below_al (below_al (Below.refl _ _) _) _)
  have HPZ := Lib.hid (fun W (hW : Below W2.heap.size W2 W) => show PgZ W.heap.size W (.agg #[.slice P0 P.init.length d0, .slice P1 P.ths.length d1]) P from ⟨_, _, rfl, (HPM.out.below ((chain HB2.out hW).mono hBB)).more (Nat.le_trans hBB (chain HB2.out hW).size), (HPI.out.below ((chain HB2.out hW).mono hBB)).more (Nat.le_trans hBB (chain HB2.out hW).size)⟩)
  have HSV := Lib.hid (fun W (hW : Below W2.heap.size W2 W) => show StaV W.heap.size W (.agg #[.slice A7 s.mem.length c7, .slice A1 s.ths.length c1]) s from ⟨_, _, rfl, (HUM.out.below ((chain HB2.out hW).mono hBB)).more (Nat.le_trans hBB (chain HB2.out hW).size)⟩)
  have HBW := Lib.hid (Nat.le_trans hBB HB2.out.size)
  have HL := Lib.hid (Below.refl W2.heap.size W2)
  go_enter Try.func6, Try.ntmps6
  go_upto_region 1 with fail
  rw [← hW2]
  (try rw [← hgs])
  (try rw [← hgp])
  clear hW2 hgs hgp
  go_wp2_with fail
  refine (head_any _).mono ?_
  rintro e V1 ⟨rfl, hb⟩
  have HST := Lib.hid hb
  replace HL := Lib.hid (chain HL.out hb)
  clear hb 
  have x0 := (HX.out.below HL.out HX.out.lt).cell 0 _ rfl
  have x1 := (HX.out.below HL.out HX.out.lt).cell 1 _ rfl
  go_wp2_with fail
  refine (cgreat_any _ (HPZ.out _ HL.out).v (Nat.le_refl _)).mono ?_
  rintro e V2 ⟨gb, rfl, hg, hb⟩
  have HST := Lib.hid hb
  replace HL := Lib.hid (chain HL.out hb)
  clear hb x0 x1
  cases gb
  case true =>
    go_wp2
    go_ret
    exact ⟨rfl, chain HB2.out HL.out⟩
  have HSM := Lib.hid (hg rfl).1
  have HRP := Lib.hid (hg rfl).2
  clear hg
  have y0 := (HY.out.below HL.out HY.out.lt).cell 0 _ rfl
  have y1 := (HY.out.below HL.out HY.out.lt).cell 1 _ rfl
  go_wp2_with fail
  refine (wide_any _ (HSV.out _ HL.out) (Nat.le_refl _)).mono ?_
  rintro e V3 ⟨gb, rfl, hg, hb⟩
  have HST := Lib.hid hb
  replace HL := Lib.hid (chain HL.out hb)
  clear hb y0 y1
  cases gb
  case true =>
    go_wp2
    go_ret
    exact ⟨rfl, chain HB2.out HL.out⟩
  have HWS := Lib.hid (hg rfl)
  clear hg
  have x0 := (HX.out.below HL.out HX.out.lt).cell 0 _ rfl
  have x1 := (HX.out.below HL.out HX.out.lt).cell 1 _ rfl
  have y0 := (HY.out.below HL.out HY.out.lt).cell 0 _ rfl
  have y1 := (HY.out.below HL.out HY.out.lt).cell 1 _ rfl
  go_wp2_with fail
  refine (rright_any _ (HPZ.out _ HL.out).v (HSV.out _ HL.out) (Nat.le_refl _)).mono ?_
  rintro e V4 ⟨d, rfl, hd, hb⟩
  have HST := Lib.hid hb
  replace HL := Lib.hid (chain HL.out hb)
  clear hb x0 x1 y0 y1
  cases d
  case false =>
    go_wp2
    go_ret
    exact ⟨rfl, chain HB2.out HL.out⟩
  have HOK := Lib.hid (hd.1 rfl)
  clear hd
  have x0 := (HX.out.below HL.out HX.out.lt).cell 0 _ rfl
  have x1 := (HX.out.below HL.out HX.out.lt).cell 1 _ rfl
  have y0 := (HY.out.below HL.out HY.out.lt).cell 0 _ rfl
  have y1 := (HY.out.below HL.out HY.out.lt).cell 1 _ rfl
  go_wp2_with fail
  refine (sstep_any t _ (HPZ.out _ HL.out).v (HSV.out _ HL.out) (Nat.le_refl _) HRP.out HOK.out HWS.out).mono ?_
  rintro e V5 ⟨vm, vt, ps8, rfl, hos, hb⟩
  have HST := Lib.hid hb
  replace HL := Lib.hid (chain HL.out hb)
  clear hb x0 x1 y0 y1
  obtain ⟨A8, c8, rfl⟩ := own_slice (n := s.mem.length) (show V5.ownsRow _ _ 1 vm s.mem.length _ from by have e := hos.mem; unfold OwnI at e; rwa [((show (stp P s t).mem.length = s.mem.length from (stp_len P s t).1))] at e)
  obtain ⟨B8, e8, rfl⟩ := own_slice (n := s.ths.length) (show V5.ownsRow _ _ 4 vt s.ths.length _ from by have e := hos.ths; rwa [((show (stp P s t).ths.length = s.ths.length from (stp_len P s t).2))] at e)
  have HO8 := Lib.hid hos
  clear hos
  go_upto_region 5 with fail
  obtain ⟨X8, hX⟩ : ∃ W, W = V5.alloc (.cells #[.slice A8 s.mem.length c8, .slice B8 s.ths.length e8] 28) := ⟨_, rfl⟩
  obtain ⟨g8, hg⟩ : ∃ g, g = V5.heap.size := ⟨_, rfl⟩
  replace HST := Lib.hid (show Below V5.heap.size V5 X8 from by rw [hX]; exact below_al (Below.refl _ _) _)
  have HQ8 := Lib.hid (show BoxC X8 g8 28 #[.slice A8 s.mem.length c8, .slice B8 s.ths.length e8] from by rw [hX, hg]; exact BoxC.new V5 _ _)
  rw [← hX]
  (try rw [← hg])
  clear hX hg
  replace HL := Lib.hid (chain HL.out HST.out)
  replace HO8 := Lib.hid (HO8.out.below HST.out)
  have HTL := Lib.hid HOK.out.ths
  cases hat0 : atS P s t with
  | none =>
    go_wp2
    go_ret
    exact ⟨rfl, chain HB2.out HL.out⟩
  | some x0 =>
    obtain ⟨k, rfl, hks, hkt, hk3, hx0⟩ := atS_some hat0
    clear hx0
    have HHA := Lib.hid hat0
    clear hat0
    obtain ⟨b2, f2, rfl, hb2, hc2⟩ := HL3.out (by omega)
    obtain ⟨b1, f1, rfl, hb1, hc1⟩ := HK3.out (by omega)
    obtain ⟨uu, z0, hS⟩ := hc2 k hkt
    obtain ⟨vr, vb, c0, c1', c2', c3', hR, hW⟩ := hc1 k hks
    have HTD := Lib.hid hc1
    have HKT := Lib.hid hkt
    have HKS := Lib.hid hks
    have HAS := Lib.hid (fun (h : s.ths[k].at'.toNat < P.ths[k].length) => And.intro (atS_at hks hkt h) (stp_at hks hkt h))
    have HAN := Lib.hid (fun (h : ¬ s.ths[k].at'.toNat < P.ths[k].length) => atS_past (s := s) (h1 := hks) (h2 := hkt) h)
    have HGO := Lib.hid (fun (h : s.ths[k].at'.toNat < P.ths[k].length) => goes HRP.out HOK.out hks hkt h)
    have HPX := Lib.hid (fun (h : s.ths[k].at'.toNat < P.ths[k].length) => show StP s.mem.length P.ths[k].length s.ths[k].at'.toNat P.ths[k][s.ths[k].at'.toNat] from by rw [HOK.out.mem]; exact stp_of HRP.out hkt h)
    have HTH := Lib.hid (HOK.out.th k hks hkt)
    have HLE := Lib.hid ((right_ths HRP.out).2.2.2 k hkt)
    have HHH := Lib.hid (show s.ths[k]? = some s.ths[k] from List.getElem?_eq_getElem hks)
    generalize P.ths[k] = ss at *
    generalize s.ths[k] = h at *
    obtain ⟨xa, xr, xe, xb⟩ := h
    obtain ⟨n, rfl⟩ : ∃ n : Nat, xa = n := ⟨xa.toNat, by have h : 0 ≤ xa := HTH.out.lo; omega⟩
    dsimp only at hR hW c0 c2'
    simp only [Int.toNat_natCast] at HAS HAN HGO HPX c0
    obtain ⟨A5, c5, rfl, n1, n2, n3⟩ := hS
    have HRI := Lib.hid hR
    have HWI := Lib.hid hW
    obtain ⟨Ar, cr, rfl, -⟩ := hR
    obtain ⟨Ab, cb, rfl, -⟩ := hW
    have HXR := Lib.hid (show xr.length = 4 from HTH.out.regs)
    have HNL := Lib.hid (show n ≤ ss.length from by have h : (n : Int) ≤ ss.length := HTH.out.hi; omega)
    have HN3 := Lib.hid n3
    have HTB := Lib.hid (fun (W : World) (hW : Below W2.heap.size W2 W) => show Below B w W from (chain HB2.out hW).mono hBB)
    have HZ0 := Lib.hid (fun W hW => ((HTB.out W hW).cell (p := ⟨b2, f2 + k, none⟩) hb2).trans z0)
    have HC0 := Lib.hid (fun W hW => ((HTB.out W hW).cell (p := ⟨b1, f1 + k * 4, none⟩) hb1).trans c0)
    have HC1 := Lib.hid (fun W hW => ((HTB.out W hW).cell (p := ⟨b1, f1 + k * 4 + 1, none⟩) hb1).trans c1')
    have HC2 := Lib.hid (fun W hW => ((HTB.out W hW).cell (p := ⟨b1, f1 + k * 4 + 2, none⟩) hb1).trans c2')
    have HC3 := Lib.hid (fun W hW => ((HTB.out W hW).cell (p := ⟨b1, f1 + k * 4 + 3, none⟩) hb1).trans c3')
    have HB12 := Lib.hid (And.intro hb1 hb2)
    clear hc1 hc2 z0 c0 c1' c2' c3' n3 n1 n2 hb1 hb2
    have hat : n < ss.length := by simpa using hk3
    clear hk3
    have HAS0 := Lib.hid (HAS.out hat).1
    have HA := Lib.hid (HAS.out hat)
    have HG := Lib.hid (HGO.out hat)
    have HX8 := Lib.hid (HPX.out hat)
    obtain ⟨b5, f5, rfl, hb5, hst⟩ := HN3.out (by omega)
    obtain ⟨s0, s1, s2, s3, s4⟩ := hst n hat
    clear HAS HAN HGO HPX HN3 hst
    generalize ss[n] = x at *
    obtain ⟨op, rg, lc, nn, tn⟩ := x
    dsimp only at s0 s1 s2 s3 s4
    have HS5 := Lib.hid (fun W hW => show W.cell? ⟨b5, f5 + n * 5, none⟩ = some (.int .i64 op) ∧ W.cell? ⟨b5, f5 + n * 5 + 1, none⟩ = some (.int .i64 rg) ∧ W.cell? ⟨b5, f5 + n * 5 + 2, none⟩ = some (.int .i64 lc) ∧ W.cell? ⟨b5, f5 + n * 5 + 3, none⟩ = some (.int .i64 nn) ∧ W.cell? ⟨b5, f5 + n * 5 + 4, none⟩ = some (.int .i64 tn) from
      ⟨((HTB.out W hW).cell (p := ⟨b5, f5 + n * 5, none⟩) hb5).trans s0, ((HTB.out W hW).cell (p := ⟨b5, f5 + n * 5 + 1, none⟩) hb5).trans s1, ((HTB.out W hW).cell (p := ⟨b5, f5 + n * 5 + 2, none⟩) hb5).trans s2, ((HTB.out W hW).cell (p := ⟨b5, f5 + n * 5 + 3, none⟩) hb5).trans s3, ((HTB.out W hW).cell (p := ⟨b5, f5 + n * 5 + 4, none⟩) hb5).trans s4⟩)
    clear s0 s1 s2 s3 s4 hb5
    have HOP := Lib.hid (hop _ HAS0.out)
    dsimp only at HOP
    clear hop
    go_upto_region 7 with fail
    have x1 := (HX.out.below HL.out HX.out.lt).cell 1 _ rfl
    have y1 := (HY.out.below HL.out HY.out.lt).cell 1 _ rfl
    have z0 := HZ0.out _ HL.out
    have c0 := HC0.out _ HL.out
    obtain ⟨s0, s1, s2, s3, s4⟩ := HS5.out _ HL.out
    have hq5 : n < ss.length := hat
    refine wp_region_held_drew (S := (fun w' => (w'.cell? ⟨gp, 1, none⟩ = some (.slice (some ⟨b2, f2, none⟩) P.ths.length d1) ∧ w'.cell? ⟨gs, 1, none⟩ = some (.slice (some ⟨b1, f1, none⟩) s.ths.length c1) ∧ w'.cell? ⟨b2, f2 + k, none⟩ = some (.slice (some ⟨b5, f5, none⟩) ss.length c5) ∧ w'.cell? ⟨b1, f1 + k * 4, none⟩ = some (.int .i64 (n : Int)) ∧ w'.cell? ⟨b5, f5 + n * 5, none⟩ = some (.int .i64 op) ∧ w'.cell? ⟨b5, f5 + n * 5 + 1, none⟩ = some (.int .i64 rg) ∧ w'.cell? ⟨b5, f5 + n * 5 + 2, none⟩ = some (.int .i64 lc) ∧ w'.cell? ⟨b5, f5 + n * 5 + 3, none⟩ = some (.int .i64 nn) ∧ w'.cell? ⟨b5, f5 + n * 5 + 4, none⟩ = some (.int .i64 tn) ∧ True) ∧ Below X8.heap.size X8 w')) (by kernel_rfl) ⟨⟨x1, y1, z0, c0, s0, s1, s2, s3, s4, trivial⟩, below_drewN (Below.refl _ _) 1⟩ (fun hHeld => ?_)
    obtain ⟨Xs, hXs⟩ : ∃ W, W = X8.drew := ⟨_, rfl⟩
    have HXs := Lib.hid (show Below X8.heap.size X8 Xs from by rw [hXs]; exact below_drewN (Below.refl _ _) 1)
    rw [← hXs] at hHeld ⊢
    clear hXs
    refine wpAnyH_take (i := 0) (v := ?_) rfl (by kernel_rfl) (by kernel_rfl) (by kernel_rfl) (fun _ _ _ h => h) (Or.inl ⟨by rfl, ?_⟩) (by assumption) ?_
    rotate_left
    · intro w hSw; (try dsimp only at hSw); go_simp; (try with_reducible rfl)
    (try simp only [Act.put, List.getElem_toArray, List.getElem_cons_zero, List.getElem_cons_succ, Array.getInternal_eq_getElem, List.setIfInBounds_toArray, List.set_cons_zero, List.set_cons_succ])
    refine wpAnyH_take (i := 1) (v := ?_) rfl (by kernel_rfl) (by kernel_rfl) (by kernel_rfl) (fun _ _ _ h => h) (Or.inl ⟨by rfl, ?_⟩) (by assumption) ?_
    rotate_left
    · intro w hSw; (try dsimp only at hSw); go_simp; (try with_reducible rfl)
    (try simp only [Act.put, List.getElem_toArray, List.getElem_cons_zero, List.getElem_cons_succ, Array.getInternal_eq_getElem, List.setIfInBounds_toArray, List.set_cons_zero, List.set_cons_succ])
    refine wpAnyH_take (i := 2) (v := ?_) rfl (by kernel_rfl) (by kernel_rfl) (by kernel_rfl) (fun _ _ _ h => h) (Or.inl ⟨by rfl, ?_⟩) (by assumption) ?_
    rotate_left
    · intro w hSw; (try dsimp only at hSw); go_simp; (try with_reducible rfl)
    (try simp only [Act.put, List.getElem_toArray, List.getElem_cons_zero, List.getElem_cons_succ, Array.getInternal_eq_getElem, List.setIfInBounds_toArray, List.set_cons_zero, List.set_cons_succ])
    refine wpAnyH_take (i := 3) (v := ?_) rfl (by kernel_rfl) (by kernel_rfl) (by kernel_rfl) (fun _ _ _ h => h) (Or.inl ⟨by rfl, ?_⟩) (by assumption) ?_
    rotate_left
    · intro w hSw; (try dsimp only at hSw); go_simp; (try with_reducible rfl)
    (try simp only [Act.put, List.getElem_toArray, List.getElem_cons_zero, List.getElem_cons_succ, Array.getInternal_eq_getElem, List.setIfInBounds_toArray, List.set_cons_zero, List.set_cons_succ])
    refine wpAnyH_take (i := 4) (v := ?_) rfl (by kernel_rfl) (by kernel_rfl) (by kernel_rfl) (fun _ _ _ h => h) (Or.inl ⟨by rfl, ?_⟩) (by assumption) ?_
    rotate_left
    · intro w hSw; (try dsimp only at hSw); go_simp; (try with_reducible rfl)
    (try simp only [Act.put, List.getElem_toArray, List.getElem_cons_zero, List.getElem_cons_succ, Array.getInternal_eq_getElem, List.setIfInBounds_toArray, List.set_cons_zero, List.set_cons_succ])
    refine wpAnyH_take (i := 5) (v := ?_) rfl (by kernel_rfl) (by kernel_rfl) (by kernel_rfl) (fun _ _ _ h => h) (Or.inl ⟨by rfl, ?_⟩) (by assumption) ?_
    rotate_left
    · intro w hSw; (try dsimp only at hSw); go_simp; (try with_reducible rfl)
    (try simp only [Act.put, List.getElem_toArray, List.getElem_cons_zero, List.getElem_cons_succ, Array.getInternal_eq_getElem, List.setIfInBounds_toArray, List.set_cons_zero, List.set_cons_succ])
    refine wpAnyH_take (i := 6) (v := ?_) rfl (by kernel_rfl) (by kernel_rfl) (by kernel_rfl) (fun _ _ _ h => h) (Or.inl ⟨by rfl, ?_⟩) (by assumption) ?_
    rotate_left
    · intro w hSw; (try dsimp only at hSw); go_simp; (try with_reducible rfl)
    (try simp only [Act.put, List.getElem_toArray, List.getElem_cons_zero, List.getElem_cons_succ, Array.getInternal_eq_getElem, List.setIfInBounds_toArray, List.set_cons_zero, List.set_cons_succ])
    refine wpAnyH_take (i := 7) (v := ?_) rfl (by kernel_rfl) (by kernel_rfl) (by kernel_rfl) (fun _ _ _ h => h) (Or.inl ⟨by rfl, ?_⟩) (by assumption) ?_
    rotate_left
    · intro w hSw; (try dsimp only at hSw); go_simp; (try with_reducible rfl)
    (try simp only [Act.put, List.getElem_toArray, List.getElem_cons_zero, List.getElem_cons_succ, Array.getInternal_eq_getElem, List.setIfInBounds_toArray, List.set_cons_zero, List.set_cons_succ])
    refine wpAnyH_take (i := 8) (v := ?_) rfl (by kernel_rfl) (by kernel_rfl) (by kernel_rfl) (fun _ _ _ h => h) (Or.inl ⟨by rfl, ?_⟩) (by assumption) ?_
    rotate_left
    · intro w hSw; (try dsimp only at hSw); go_simp; (try with_reducible rfl)
    (try simp only [Act.put, List.getElem_toArray, List.getElem_cons_zero, List.getElem_cons_succ, Array.getInternal_eq_getElem, List.setIfInBounds_toArray, List.set_cons_zero, List.set_cons_succ])
    refine wpAnyH_take (i := 9) (v := ?_) rfl (by kernel_rfl) (by kernel_rfl) (by kernel_rfl) (fun _ _ _ h => h) (Or.inl ⟨by rfl, ?_⟩) (by assumption) ?_
    rotate_left
    · intro w hSw; (try dsimp only at hSw); go_simp; (try with_reducible rfl)
    (try simp only [Act.put, List.getElem_toArray, List.getElem_cons_zero, List.getElem_cons_succ, Array.getInternal_eq_getElem, List.setIfInBounds_toArray, List.set_cons_zero, List.set_cons_succ])
    refine wpAnyH_take (i := 10) (v := ?_) rfl (by kernel_rfl) (by kernel_rfl) (by kernel_rfl) (fun _ _ _ h => h) (Or.inl ⟨by rfl, ?_⟩) (by assumption) ?_
    rotate_left
    · intro w hSw; (try dsimp only at hSw); go_simp; (try with_reducible rfl)
    (try simp only [Act.put, List.getElem_toArray, List.getElem_cons_zero, List.getElem_cons_succ, Array.getInternal_eq_getElem, List.setIfInBounds_toArray, List.set_cons_zero, List.set_cons_succ])
    refine wpAnyH_take (i := 11) (v := ?_) rfl (by kernel_rfl) (by kernel_rfl) (by kernel_rfl) (fun _ _ _ h => h) (Or.inl ⟨by rfl, ?_⟩) (by assumption) ?_
    rotate_left
    · intro w hSw; (try dsimp only at hSw); go_simp; (try with_reducible rfl)
    (try simp only [Act.put, List.getElem_toArray, List.getElem_cons_zero, List.getElem_cons_succ, Array.getInternal_eq_getElem, List.setIfInBounds_toArray, List.set_cons_zero, List.set_cons_succ])
    refine wpAnyH_take (i := 12) (v := ?_) rfl (by kernel_rfl) (by kernel_rfl) (by kernel_rfl) (fun _ _ _ h => h) (Or.inl ⟨by rfl, ?_⟩) (by assumption) ?_
    rotate_left
    · intro w hSw; (try dsimp only at hSw); go_simp; (try with_reducible rfl)
    (try simp only [Act.put, List.getElem_toArray, List.getElem_cons_zero, List.getElem_cons_succ, Array.getInternal_eq_getElem, List.setIfInBounds_toArray, List.set_cons_zero, List.set_cons_succ])
    refine wpAnyH_ready (rs := [13]) (by kernel_rfl) (by simp) ?_
    refine AllReadyH.cons rfl (fun K hK => ?_) AllReadyH.nil
    have HBA := Lib.hid (below_al hHeld.2 (.cells #[.int .i64 0, .int .i64 0, .int .i64 0, .int .i64 0, .int .i64 0] 39))
    go_simp
    refine hK.out _ _ ⟨⟨kc HBA.out x1, kc HBA.out y1, kc HBA.out z0, kc HBA.out c0, kc HBA.out s0, kc HBA.out s1, kc HBA.out s2, kc HBA.out s3, kc HBA.out s4, trivial⟩, HBA.out⟩ (fun hHeld => ?_)
    clear hK K
    (try simp only [Act.put, List.getElem_toArray, List.getElem_cons_zero, List.getElem_cons_succ, Array.getInternal_eq_getElem, List.setIfInBounds_toArray, List.set_cons_zero, List.set_cons_succ])
    obtain ⟨Xa, hXa⟩ : ∃ W, W = Xs.alloc (.cells #[.int .i64 0, .int .i64 0, .int .i64 0, .int .i64 0, .int .i64 0] 39) := ⟨_, rfl⟩
    obtain ⟨g11, hgx⟩ : ∃ g, g = Xs.heap.size := ⟨_, rfl⟩
    rw [← hXa] at hHeld HBA ⊢
    (try rw [← hgx])
    have HQa := Lib.hid (show BoxC Xa g11 39 #[.int .i64 0, .int .i64 0, .int .i64 0, .int .i64 0, .int .i64 0] from by rw [hXa, hgx]; exact BoxC.new Xs _ _)
    have HGa := Lib.hid (show X8.heap.size ≤ g11 from by rw [hgx]; exact HXs.out.size)
    clear hXa hgx
    refine wpAnyH_ready (rs := [14]) (by kernel_rfl) (by simp) ?_
    refine AllReadyH.cons rfl (fun K hK => ?_) AllReadyH.nil
    have q0 := HQa.out.cell 0 _ rfl
    have q1 := HQa.out.cell 1 _ rfl
    have q2 := HQa.out.cell 2 _ rfl
    have q3 := HQa.out.cell 3 _ rfl
    have q4 := HQa.out.cell 4 _ rfl
    have w0 := HQa.out.frozen 0
    have w1 := HQa.out.frozen 1
    have w2 := HQa.out.frozen 2
    have w3 := HQa.out.frozen 3
    have w4 := HQa.out.frozen 4
    have HBS := Lib.hid (show Below X8.heap.size X8 (((((Xa.setCell ⟨g11, 0, none⟩ (.int .i64 op)).setCell ⟨g11, 1, none⟩ (.int .i64 rg)).setCell ⟨g11, 2, none⟩ (.int .i64 lc)).setCell ⟨g11, 3, none⟩ (.int .i64 nn)).setCell ⟨g11, 4, none⟩ (.int .i64 tn)) from below_set5 HBA.out HGa.out)
    have HQs := Lib.hid (show BoxC (((((Xa.setCell ⟨g11, 0, none⟩ (.int .i64 op)).setCell ⟨g11, 1, none⟩ (.int .i64 rg)).setCell ⟨g11, 2, none⟩ (.int .i64 lc)).setCell ⟨g11, 3, none⟩ (.int .i64 nn)).setCell ⟨g11, 4, none⟩ (.int .i64 tn)) g11 39 #[.int .i64 op, .int .i64 rg, .int .i64 lc, .int .i64 nn, .int .i64 tn] from ((((HQa.out.set 0 _).set 1 _).set 2 _).set 3 _).set 4 _)
    go_simp
    refine hK.out _ _ ⟨⟨kc HBS.out x1, kc HBS.out y1, kc HBS.out z0, kc HBS.out c0, kc HBS.out s0, kc HBS.out s1, kc HBS.out s2, kc HBS.out s3, kc HBS.out s4, trivial⟩, HBS.out⟩ (fun hHeld => ?_)
    clear q0 q1 q2 q3 q4 w0 w1 w2 w3 w4
    clear hK K
    (try simp only [Act.put, List.getElem_toArray, List.getElem_cons_zero, List.getElem_cons_succ, Array.getInternal_eq_getElem, List.setIfInBounds_toArray, List.set_cons_zero, List.set_cons_succ])
    refine wpAnyH_done (by kernel_rfl) ?_ _
    clear hHeld x1 y1 z0 c0 s0 s1 s2 s3 s4
    obtain ⟨Xe, hXn⟩ : ∃ W, W = ((((Xa.setCell ⟨g11, 0, none⟩ (.int .i64 op)).setCell ⟨g11, 1, none⟩ (.int .i64 rg)).setCell ⟨g11, 2, none⟩ (.int .i64 lc)).setCell ⟨g11, 3, none⟩ (.int .i64 nn)).setCell ⟨g11, 4, none⟩ (.int .i64 tn) := ⟨_, rfl⟩
    rw [← hXn] at HBS HQs ⊢
    replace HST := Lib.hid HBS.out
    have HQx := Lib.hid HQs.out
    clear hXn HBS HQs HQa HBA HXs HGa
    replace HL := Lib.hid (chain HL.out HST.out)
    replace HO8 := Lib.hid (HO8.out.below HST.out)
    replace HQ8 := Lib.hid (HQ8.out.below HST.out HQ8.out.lt)
    have HOK8 := Lib.hid (stp_ok HRP.out HOK.out (k : Int))
    have x0 := (HX.out.below HL.out HX.out.lt).cell 0 _ rfl
    have x1 := (HX.out.below HL.out HX.out.lt).cell 1 _ rfl
    have a0 := HQ8.out.cell 0 _ rfl
    have a1 := HQ8.out.cell 1 _ rfl
    go_wp2_with fail
    refine (rright_any _ (HPZ.out _ HL.out).v HO8.out.sv (Nat.le_refl _)).mono ?_
    rintro e V6 ⟨d, rfl, hd, hb⟩
    have HST := Lib.hid hb
    replace HL := Lib.hid (chain HL.out hb)
    clear hb x0 x1
    obtain rfl : d = true := hd.2 HOK8.out
    clear hd a0 a1
    replace HO8 := Lib.hid (HO8.out.below HST.out)
    replace HQ8 := Lib.hid (HQ8.out.below HST.out HQ8.out.lt)
    replace HQx := Lib.hid (HQx.out.below HST.out HQx.out.lt)
    have HO8c := Lib.hid (HO8.out.cast HA.out.2)
    have HP8 := Lib.hid (show k < ps8.length from by rw [HO8.out.len, (stp_len P s (k : Int)).2]; exact hks)
    obtain ⟨gv, cv', cur, hev, hgv, hbv, t0, t1, t2, t3⟩ := HO8c.out.row HP8.out
    rw [show (⟨stM (⟨op, rg, lc, nn, tn⟩ : St) s.mem xr, s.ths.set k (stT (⟨op, rg, lc, nn, tn⟩ : St) s.mem ⟨(n : Int), xr, xe, xb⟩)⟩ : Sta).ths.length = s.ths.length from List.length_set] at hev
    injection hev with hev1 hev3 hev2
    clear hev3
    subst hev1 hev2
    have HT8 := Lib.hid (show (ps8[k]'HP8.out).t = stT (⟨op, rg, lc, nn, tn⟩ : St) s.mem ⟨(n : Int), xr, xe, xb⟩ from by
      rw [HO8c.out.at HP8.out (by show k < (s.ths.set k _).length; rw [List.length_set]; exact hks)]
      exact List.getElem_set_self _)
    have HE8 := Lib.hid (HO8c.out.each _ (List.getElem_mem HP8.out)).1
    rw [HT8.out] at HE8 t0 t2
    obtain ⟨vr8, hvr8⟩ : ∃ v, v = (ps8[k]'HP8.out).vr := ⟨_, rfl⟩
    rw [← hvr8] at HE8 t1
    clear hvr8 hgv t3
    obtain ⟨j, hj⟩ : ∃ j, j = b % 4 := ⟨_, rfl⟩
    have hj4 : j < 4 := by omega
    have hjx : j < xr.length := by rw [HXR.out]; exact hj4
    obtain ⟨Ar', cr', er, hr1, hr2, hr0, hr3⟩ := HRI.out
    injection er with er1 er3 er2
    clear er3
    subst er1 er2
    obtain ⟨br, fr, rfl, hbr, hcr⟩ := nu_at (c := cr) hr3 (by omega)
    have HRC := Lib.hid (fun W hW (i : Nat) (hi : i < xr.length) => ((HTB.out W hW).cell (p := ⟨br, fr + i, none⟩) hbr).trans (hcr i hi))
    have hj8 : j < (stR (⟨op, rg, lc, nn, tn⟩ : St) s.mem xr).length := by rw [stR_len]; exact hjx
    obtain ⟨gr, c, cu, e, hgr, hbr8, cell8⟩ := own_nu HE8.out hj8
    obtain ⟨wj, hwj⟩ : ∃ z, z = (stR (⟨op, rg, lc, nn, tn⟩ : St) s.mem xr)[j] := ⟨_, rfl⟩
    obtain ⟨xj, hxj⟩ : ∃ z, z = xr[j] := ⟨_, rfl⟩
    have HGEN := Lib.hid (show wj = if rg.toNat = j then (if op = 1 then nn else if op = 2 ∨ op = 5 then nth s.mem lc else xj) else xj from by rw [hwj, stR_at _ _ _ j hjx hj8, ← hxj])
    have cellw : V6.cell? ⟨gr, j, none⟩ = some (.int .i64 wj) := by rw [hwj]; exact cell8
    clear cell8
    have e : vr8 = .slice (some ⟨gr, 0, none⟩) xr.length c := by rw [e, show (stT (⟨op, rg, lc, nn, tn⟩ : St) s.mem ⟨(n : Int), xr, xe, xb⟩).regs.length = xr.length from stR_len _ _ _]
    subst e
    have HBJ := Lib.hid (show (b : Int).tmod 4 = (j : Int) from by rw [hj]; rfl)
    have HXJ := Lib.hid (fun (W : World) (hW : Below W2.heap.size W2 W) => show W.cell? ⟨br, fr + j, none⟩ = some (.int .i64 xj) from by rw [hxj]; exact HRC.out W hW j hjx)
    have HC8 := Lib.hid cellw
    have HJ0 := Lib.hid hj
    have HT1 := Lib.hid t1
    have HT2 := Lib.hid t2
    have HBV := Lib.hid hbv
    clear hwj hxj hcr hr3 cellw t0 t1 t2 hbv hr0 hj
    have hbj := HBJ.out
    have hb2 : (b : Int) ≤ 255 := by omega
    obtain rfl := HOP.out.1
    have HJE := Lib.hid (show (j : Int) = rg from by rw [HJ0.out]; exact HOP.out.2)
    have he : ((j : Int) == rg) = true := by rw [beq_iff_eq]; exact HJE.out
    have HWV := Lib.hid (show wj = xj from by rw [HGEN.out]; simp)
    have hwv := HWV.out.symm
    subst hwv
    have cj := HC8.out
    have t1 := HT1.out
    have y1 := (HY.out.below HL.out HY.out.lt).cell 1 _ rfl
    have cg := HC1.out _ HL.out
    have xc := HXJ.out _ HL.out
    have a1 := HQ8.out.cell 1 _ rfl
    have q0 := HQx.out.cell 0 _ rfl
    have q1 := HQx.out.cell 1 _ rfl
    have q2 := HQx.out.cell 2 _ rfl
    have q3 := HQx.out.cell 3 _ rfl
    go_upto_region 18 with fail
    clear y1 cg xc a1 q0 q1 q2 q3 t1 cj he
    obtain ⟨ra, rb⟩ := HX8.out.reg rfl
    dsimp only at ra rb
    obtain ⟨r, rfl⟩ : ∃ r : Nat, rg = r := ⟨rg.toNat, by omega⟩
    have hrx : r < xr.length := by rw [HXR.out]; omega
    obtain ⟨zr, hzr⟩ : ∃ z, z = xr[r] := ⟨_, rfl⟩
    have HZR := Lib.hid (show nth xr (r : Int) = zr from by unfold nth; rw [hzr]; simp [hrx])
    have HRR := Lib.hid (fun (W : World) (hW : Below W2.heap.size W2 W) => show W.cell? ⟨br, fr + r, none⟩ = some (.int .i64 zr) from by rw [hzr]; exact HRC.out W hW r hrx)
    clear hzr
    have y1 := (HY.out.below HL.out HY.out.lt).cell 1 _ rfl
    have cg := HC1.out _ HL.out
    have a1 := HQ8.out.cell 1 _ rfl
    have q0 := HQx.out.cell 0 _ rfl
    have q1 := HQx.out.cell 1 _ rfl
    have q3 := HQx.out.cell 3 _ rfl
    have rr := HRR.out _ HL.out
    have t2 := HT2.out
    obtain ⟨e2, he2⟩ : ∃ e, e = (stT (⟨7, (r : Int), lc, nn, tn⟩ : St) s.mem ⟨(n : Int), xr, xe, xb⟩).eq := ⟨_, rfl⟩
    rw [← he2] at t2
    have hev : (e2 == (zr == nn)) = true := by
      have : e2 = decide (zr = nn) := by rw [he2, ← HZR.out]; rfl
      rw [this]; by_cases c : zr = nn <;> simp [c]
    clear he2
    go_upto_region 22 with fail
    refine wp_region_held_drew (S := (fun w' => w'.cell? ⟨g11, 0, none⟩ = some (.int .i64 7) ∧ w'.cell? ⟨g8, 1, none⟩ = some (.slice (some ⟨gv, 0, none⟩) s.ths.length e8) ∧ w'.cell? ⟨gv, k * 4 + 2, none⟩ = some (.bool e2) ∧ w'.cell? ⟨gs, 1, none⟩ = some (.slice (some ⟨b1, f1, none⟩) s.ths.length c1) ∧ w'.cell? ⟨b1, f1 + k * 4 + 1, none⟩ = some (.slice (some ⟨br, fr, none⟩) xr.length cr) ∧ w'.cell? ⟨g11, 1, none⟩ = some (.int .i64 (r : Int)) ∧ w'.cell? ⟨br, fr + r, none⟩ = some (.int .i64 zr) ∧ w'.cell? ⟨g11, 3, none⟩ = some (.int .i64 nn) ∧ True)) (by kernel_rfl) ⟨q0, a1, t2, y1, cg, q1, rr, q3, trivial⟩ (fun hHeld => ?_)
    refine wpAnyH_take (i := 0) (v := ?_) rfl (by kernel_rfl) (by kernel_rfl) (by kernel_rfl) (fun _ _ _ h => h) (Or.inl ⟨by rfl, ?_⟩) (by assumption) ?_
    rotate_left
    · intro w hSw; (try dsimp only at hSw); go_simp; (try with_reducible rfl)
    (try simp only [Act.put, List.getElem_toArray, List.getElem_cons_zero, List.getElem_cons_succ, Array.getInternal_eq_getElem, List.setIfInBounds_toArray, List.set_cons_zero, List.set_cons_succ])
    refine wpAnyH_take (i := 1) (v := ?_) rfl (by kernel_rfl) (by kernel_rfl) (by kernel_rfl) (fun _ _ _ h => h) (Or.inl ⟨by rfl, ?_⟩) (by assumption) ?_
    rotate_left
    · intro w hSw; (try dsimp only at hSw); go_simp; (try with_reducible rfl)
    (try simp only [Act.put, List.getElem_toArray, List.getElem_cons_zero, List.getElem_cons_succ, Array.getInternal_eq_getElem, List.setIfInBounds_toArray, List.set_cons_zero, List.set_cons_succ])
    refine wpAnyH_take (i := 2) (v := ?_) rfl (by kernel_rfl) (by kernel_rfl) (by kernel_rfl) (fun _ _ _ h => h) (Or.inl ⟨by rfl, ?_⟩) (by assumption) ?_
    rotate_left
    · intro w hSw; (try dsimp only at hSw); go_simp; (try with_reducible rfl)
    (try simp only [Act.put, List.getElem_toArray, List.getElem_cons_zero, List.getElem_cons_succ, Array.getInternal_eq_getElem, List.setIfInBounds_toArray, List.set_cons_zero, List.set_cons_succ])
    refine wpAnyH_take (i := 3) (v := ?_) rfl (by kernel_rfl) (by kernel_rfl) (by kernel_rfl) (fun _ _ _ h => h) (Or.inl ⟨by rfl, ?_⟩) (by assumption) ?_
    rotate_left
    · intro w hSw; (try dsimp only at hSw); go_simp; (try with_reducible rfl)
    (try simp only [Act.put, List.getElem_toArray, List.getElem_cons_zero, List.getElem_cons_succ, Array.getInternal_eq_getElem, List.setIfInBounds_toArray, List.set_cons_zero, List.set_cons_succ])
    refine wpAnyH_take (i := 4) (v := ?_) rfl (by kernel_rfl) (by kernel_rfl) (by kernel_rfl) (fun _ _ _ h => h) (Or.inl ⟨by rfl, ?_⟩) (by assumption) ?_
    rotate_left
    · intro w hSw; (try dsimp only at hSw); go_simp; (try with_reducible rfl)
    (try simp only [Act.put, List.getElem_toArray, List.getElem_cons_zero, List.getElem_cons_succ, Array.getInternal_eq_getElem, List.setIfInBounds_toArray, List.set_cons_zero, List.set_cons_succ])
    refine wpAnyH_take (i := 5) (v := ?_) rfl (by kernel_rfl) (by kernel_rfl) (by kernel_rfl) (fun _ _ _ h => h) (Or.inl ⟨by rfl, ?_⟩) (by assumption) ?_
    rotate_left
    · intro w hSw; (try dsimp only at hSw); go_simp; (try with_reducible rfl)
    (try simp only [Act.put, List.getElem_toArray, List.getElem_cons_zero, List.getElem_cons_succ, Array.getInternal_eq_getElem, List.setIfInBounds_toArray, List.set_cons_zero, List.set_cons_succ])
    refine wpAnyH_take (i := 6) (v := ?_) rfl (by kernel_rfl) (by kernel_rfl) (by kernel_rfl) (fun _ _ _ h => h) (Or.inl ⟨by rfl, ?_⟩) (by assumption) ?_
    rotate_left
    · intro w hSw; (try dsimp only at hSw); go_simp; (try with_reducible rfl)
    (try simp only [Act.put, List.getElem_toArray, List.getElem_cons_zero, List.getElem_cons_succ, Array.getInternal_eq_getElem, List.setIfInBounds_toArray, List.set_cons_zero, List.set_cons_succ])
    refine wpAnyH_take (i := 7) (v := ?_) rfl (by kernel_rfl) (by kernel_rfl) (by kernel_rfl) (fun _ _ _ h => h) (Or.inl ⟨by rfl, ?_⟩) (by assumption) ?_
    rotate_left
    · intro w hSw; (try dsimp only at hSw); go_simp; (try with_reducible rfl)
    (try simp only [Act.put, List.getElem_toArray, List.getElem_cons_zero, List.getElem_cons_succ, Array.getInternal_eq_getElem, List.setIfInBounds_toArray, List.set_cons_zero, List.set_cons_succ])
    refine wpAnyH_take (i := 8) (v := ?_) rfl (by kernel_rfl) (by kernel_rfl) (by kernel_rfl) (fun _ _ _ h => h) (Or.inl ⟨by rfl, ?_⟩) (by assumption) ?_
    rotate_left
    · intro w hSw; (try dsimp only at hSw); go_simp; (try with_reducible rfl)
    (try simp only [Act.put, List.getElem_toArray, List.getElem_cons_zero, List.getElem_cons_succ, Array.getInternal_eq_getElem, List.setIfInBounds_toArray, List.set_cons_zero, List.set_cons_succ])
    refine wpAnyH_take (i := 9) (v := ?_) rfl (by kernel_rfl) (by kernel_rfl) (by kernel_rfl) (fun _ _ _ h => h) (Or.inl ⟨by rfl, ?_⟩) (by assumption) ?_
    rotate_left
    · intro w hSw; (try dsimp only at hSw); go_simp; (try with_reducible rfl)
    (try simp only [Act.put, List.getElem_toArray, List.getElem_cons_zero, List.getElem_cons_succ, Array.getInternal_eq_getElem, List.setIfInBounds_toArray, List.set_cons_zero, List.set_cons_succ])
    refine wpAnyH_take (i := 10) (v := ?_) rfl (by kernel_rfl) (by kernel_rfl) (by kernel_rfl) (fun _ _ _ h => h) (Or.inl ⟨by rfl, ?_⟩) (by assumption) ?_
    rotate_left
    · intro w hSw; (try dsimp only at hSw); go_simp; (try with_reducible rfl)
    (try simp only [Act.put, List.getElem_toArray, List.getElem_cons_zero, List.getElem_cons_succ, Array.getInternal_eq_getElem, List.setIfInBounds_toArray, List.set_cons_zero, List.set_cons_succ])
    refine wpAnyH_take (i := 11) (v := ?_) rfl (by kernel_rfl) (by kernel_rfl) (by kernel_rfl) (fun _ _ _ h => h) (Or.inl ⟨by rfl, ?_⟩) (by assumption) ?_
    rotate_left
    · intro w hSw; (try dsimp only at hSw); go_simp; (try with_reducible rfl)
    (try simp only [Act.put, List.getElem_toArray, List.getElem_cons_zero, List.getElem_cons_succ, Array.getInternal_eq_getElem, List.setIfInBounds_toArray, List.set_cons_zero, List.set_cons_succ])
    refine wpAnyH_take (i := 12) (v := ?_) rfl (by kernel_rfl) (by kernel_rfl) (by kernel_rfl) (fun _ _ _ h => h) (Or.inl ⟨by rfl, ?_⟩) (by assumption) ?_
    rotate_left
    · intro w hSw; (try dsimp only at hSw); go_simp; (try with_reducible rfl)
    (try simp only [Act.put, List.getElem_toArray, List.getElem_cons_zero, List.getElem_cons_succ, Array.getInternal_eq_getElem, List.setIfInBounds_toArray, List.set_cons_zero, List.set_cons_succ])
    refine wpAnyH_take (i := 13) (v := ?_) rfl (by kernel_rfl) (by kernel_rfl) (by kernel_rfl) (fun _ _ _ h => h) (Or.inl ⟨by rfl, ?_⟩) (by assumption) ?_
    rotate_left
    · intro w hSw; (try dsimp only at hSw); go_simp; (try with_reducible rfl)
    (try simp only [Act.put, List.getElem_toArray, List.getElem_cons_zero, List.getElem_cons_succ, Array.getInternal_eq_getElem, List.setIfInBounds_toArray, List.set_cons_zero, List.set_cons_succ])
    refine wpAnyH_take (i := 14) (v := ?_) rfl (by kernel_rfl) (by kernel_rfl) (by kernel_rfl) (fun _ _ _ h => h) (Or.inl ⟨by rfl, ?_⟩) (by assumption) ?_
    rotate_left
    · intro w hSw; (try dsimp only at hSw); go_simp; (try with_reducible rfl)
    (try simp only [Act.put, List.getElem_toArray, List.getElem_cons_zero, List.getElem_cons_succ, Array.getInternal_eq_getElem, List.setIfInBounds_toArray, List.set_cons_zero, List.set_cons_succ])
    refine wpAnyH_take (i := 15) (v := ?_) rfl (by kernel_rfl) (by kernel_rfl) (by kernel_rfl) (fun _ _ _ h => h) (Or.inl ⟨by rfl, ?_⟩) (by assumption) ?_
    rotate_left
    · intro w hSw; (try dsimp only at hSw); go_simp; (try with_reducible rfl)
    (try simp only [Act.put, List.getElem_toArray, List.getElem_cons_zero, List.getElem_cons_succ, Array.getInternal_eq_getElem, List.setIfInBounds_toArray, List.set_cons_zero, List.set_cons_succ])
    refine wpAnyH_take (i := 16) (v := ?_) rfl (by kernel_rfl) (by kernel_rfl) (by kernel_rfl) (fun _ _ _ h => h) (Or.inl ⟨by rfl, ?_⟩) (by assumption) ?_
    rotate_left
    · intro w hSw; (try dsimp only at hSw); go_simp; (try with_reducible rfl)
    (try simp only [Act.put, List.getElem_toArray, List.getElem_cons_zero, List.getElem_cons_succ, Array.getInternal_eq_getElem, List.setIfInBounds_toArray, List.set_cons_zero, List.set_cons_succ])
    refine wpAnyH_take (i := 17) (v := ?_) rfl (by kernel_rfl) (by kernel_rfl) (by kernel_rfl) (fun _ _ _ h => h) (Or.inl ⟨by rfl, ?_⟩) (by assumption) ?_
    rotate_left
    · intro w hSw; (try dsimp only at hSw); go_simp; (try with_reducible rfl)
    (try simp only [Act.put, List.getElem_toArray, List.getElem_cons_zero, List.getElem_cons_succ, Array.getInternal_eq_getElem, List.setIfInBounds_toArray, List.set_cons_zero, List.set_cons_succ])
    refine wpAnyH_take (i := 18) (v := ?_) rfl (by kernel_rfl) (by kernel_rfl) (by kernel_rfl) (fun _ _ _ h => h) (Or.inl ⟨by rfl, ?_⟩) (by assumption) ?_
    rotate_left
    · intro w hSw; (try dsimp only at hSw); go_simp; (try with_reducible rfl)
    (try simp only [Act.put, List.getElem_toArray, List.getElem_cons_zero, List.getElem_cons_succ, Array.getInternal_eq_getElem, List.setIfInBounds_toArray, List.set_cons_zero, List.set_cons_succ])
    refine wpAnyH_take (i := 19) (v := ?_) rfl (by kernel_rfl) (by kernel_rfl) (by kernel_rfl) (fun _ _ _ h => h) (Or.inl ⟨by rfl, ?_⟩) (by assumption) ?_
    rotate_left
    · intro w hSw; (try dsimp only at hSw); go_simp; (try with_reducible rfl)
    (try simp only [Act.put, List.getElem_toArray, List.getElem_cons_zero, List.getElem_cons_succ, Array.getInternal_eq_getElem, List.setIfInBounds_toArray, List.set_cons_zero, List.set_cons_succ])
    refine wpAnyH_take (i := 20) (v := ?_) rfl (by kernel_rfl) (by kernel_rfl) (by kernel_rfl) (fun _ _ _ h => h) (Or.inl ⟨by rfl, ?_⟩) (by assumption) ?_
    rotate_left
    · intro w hSw; (try dsimp only at hSw); go_simp; (try with_reducible rfl)
    (try simp only [Act.put, List.getElem_toArray, List.getElem_cons_zero, List.getElem_cons_succ, Array.getInternal_eq_getElem, List.setIfInBounds_toArray, List.set_cons_zero, List.set_cons_succ])
    refine wpAnyH_take (i := 21) (v := ?_) rfl (by kernel_rfl) (by kernel_rfl) (by kernel_rfl) (fun _ _ _ h => h) (Or.inl ⟨by rfl, ?_⟩) (by assumption) ?_
    rotate_left
    · intro w hSw; (try dsimp only at hSw); go_simp; (try with_reducible rfl)
    (try simp only [Act.put, List.getElem_toArray, List.getElem_cons_zero, List.getElem_cons_succ, Array.getInternal_eq_getElem, List.setIfInBounds_toArray, List.set_cons_zero, List.set_cons_succ])
    refine wpAnyH_take (i := 22) (v := ?_) rfl (by kernel_rfl) (by kernel_rfl) (by kernel_rfl) (fun _ _ _ h => h) (Or.inl ⟨by rfl, ?_⟩) (by assumption) ?_
    rotate_left
    · intro w hSw; (try dsimp only at hSw); go_simp; (try with_reducible rfl)
    (try simp only [Act.put, List.getElem_toArray, List.getElem_cons_zero, List.getElem_cons_succ, Array.getInternal_eq_getElem, List.setIfInBounds_toArray, List.set_cons_zero, List.set_cons_succ])
    refine wpAnyH_take (i := 23) (v := ?_) rfl (by kernel_rfl) (by kernel_rfl) (by kernel_rfl) (fun _ _ _ h => h) (Or.inl ⟨by rfl, ?_⟩) (by assumption) ?_
    rotate_left
    · intro w hSw; (try dsimp only at hSw); go_simp; (try with_reducible rfl)
    (try simp only [Act.put, List.getElem_toArray, List.getElem_cons_zero, List.getElem_cons_succ, Array.getInternal_eq_getElem, List.setIfInBounds_toArray, List.set_cons_zero, List.set_cons_succ])
    refine wpAnyH_take (i := 24) (v := ?_) rfl (by kernel_rfl) (by kernel_rfl) (by kernel_rfl) (fun _ _ _ h => h) (Or.inl ⟨by rfl, ?_⟩) (by assumption) ?_
    rotate_left
    · intro w hSw; (try dsimp only at hSw); go_simp; (try with_reducible rfl)
    (try simp only [Act.put, List.getElem_toArray, List.getElem_cons_zero, List.getElem_cons_succ, Array.getInternal_eq_getElem, List.setIfInBounds_toArray, List.set_cons_zero, List.set_cons_succ])
    refine wpAnyH_take (i := 25) (v := ?_) rfl (by kernel_rfl) (by kernel_rfl) (by kernel_rfl) (fun _ _ _ h => h) (Or.inl ⟨by rfl, ?_⟩) (by assumption) ?_
    rotate_left
    · intro w hSw; (try dsimp only at hSw); go_simp; (try with_reducible rfl)
    (try simp only [Act.put, List.getElem_toArray, List.getElem_cons_zero, List.getElem_cons_succ, Array.getInternal_eq_getElem, List.setIfInBounds_toArray, List.set_cons_zero, List.set_cons_succ])
    refine wpAnyH_take (i := 26) (v := ?_) rfl (by kernel_rfl) (by kernel_rfl) (by kernel_rfl) (fun _ _ _ h => h) (Or.inl ⟨by rfl, ?_⟩) (by assumption) ?_
    rotate_left
    · intro w hSw; (try dsimp only at hSw); go_simp; (try with_reducible rfl)
    (try simp only [Act.put, List.getElem_toArray, List.getElem_cons_zero, List.getElem_cons_succ, Array.getInternal_eq_getElem, List.setIfInBounds_toArray, List.set_cons_zero, List.set_cons_succ])
    refine wpAnyH_take (i := 27) (v := ?_) rfl (by kernel_rfl) (by kernel_rfl) (by kernel_rfl) (fun _ _ _ h => h) (Or.inl ⟨by rfl, ?_⟩) (by assumption) ?_
    rotate_left
    · intro w hSw; (try dsimp only at hSw); go_simp; (try with_reducible rfl)
    (try simp only [Act.put, List.getElem_toArray, List.getElem_cons_zero, List.getElem_cons_succ, Array.getInternal_eq_getElem, List.setIfInBounds_toArray, List.set_cons_zero, List.set_cons_succ])
    refine wpAnyH_take (i := 28) (v := ?_) rfl (by kernel_rfl) (by kernel_rfl) (by kernel_rfl) (fun _ _ _ h => h) (Or.inl ⟨by rfl, ?_⟩) (by assumption) ?_
    rotate_left
    · intro w hSw; (try dsimp only at hSw); go_simp; (try with_reducible rfl)
    (try simp only [Act.put, List.getElem_toArray, List.getElem_cons_zero, List.getElem_cons_succ, Array.getInternal_eq_getElem, List.setIfInBounds_toArray, List.set_cons_zero, List.set_cons_succ])
    refine wpAnyH_take (i := 29) (v := ?_) rfl (by kernel_rfl) (by kernel_rfl) (by kernel_rfl) (fun _ _ _ h => h) (Or.inl ⟨by rfl, ?_⟩) (by assumption) ?_
    rotate_left
    · intro w hSw; (try dsimp only at hSw); go_simp; (try with_reducible rfl)
    (try simp only [Act.put, List.getElem_toArray, List.getElem_cons_zero, List.getElem_cons_succ, Array.getInternal_eq_getElem, List.setIfInBounds_toArray, List.set_cons_zero, List.set_cons_succ])
    refine wpAnyH_take (i := 30) (v := ?_) rfl (by kernel_rfl) (by kernel_rfl) (by kernel_rfl) (fun _ _ _ h => h) (Or.inl ⟨by rfl, ?_⟩) (by assumption) ?_
    rotate_left
    · intro w hSw; (try dsimp only at hSw); go_simp; (try with_reducible rfl)
    (try simp only [Act.put, List.getElem_toArray, List.getElem_cons_zero, List.getElem_cons_succ, Array.getInternal_eq_getElem, List.setIfInBounds_toArray, List.set_cons_zero, List.set_cons_succ])
    refine wpAnyH_take (i := 31) (v := ?_) rfl (by kernel_rfl) (by kernel_rfl) (by kernel_rfl) (fun _ _ _ h => h) (Or.inl ⟨by rfl, ?_⟩) (by assumption) ?_
    rotate_left
    · intro w hSw; (try dsimp only at hSw); go_simp; (try with_reducible rfl)
    (try simp only [Act.put, List.getElem_toArray, List.getElem_cons_zero, List.getElem_cons_succ, Array.getInternal_eq_getElem, List.setIfInBounds_toArray, List.set_cons_zero, List.set_cons_succ])
    refine wpAnyH_take (i := 32) (v := ?_) rfl (by kernel_rfl) (by kernel_rfl) (by kernel_rfl) (fun _ _ _ h => h) (Or.inl ⟨by rfl, ?_⟩) (by assumption) ?_
    rotate_left
    · intro w hSw; (try dsimp only at hSw); go_simp; (try with_reducible rfl)
    (try simp only [Act.put, List.getElem_toArray, List.getElem_cons_zero, List.getElem_cons_succ, Array.getInternal_eq_getElem, List.setIfInBounds_toArray, List.set_cons_zero, List.set_cons_succ])
    refine wpAnyH_take (i := 33) (v := undef) rfl (by kernel_rfl) (by kernel_rfl) (by kernel_rfl) (fun _ _ _ h => h) (Or.inr ⟨by rfl, rfl⟩) (by assumption) ?_
    (try simp only [Act.put, List.getElem_toArray, List.getElem_cons_zero, List.getElem_cons_succ, Array.getInternal_eq_getElem, List.setIfInBounds_toArray, List.set_cons_zero, List.set_cons_succ])
    refine wpAnyH_take (i := 34) (v := undef) rfl (by kernel_rfl) (by kernel_rfl) (by kernel_rfl) (fun _ _ _ h => h) (Or.inr ⟨by rfl, rfl⟩) (by assumption) ?_
    (try simp only [Act.put, List.getElem_toArray, List.getElem_cons_zero, List.getElem_cons_succ, Array.getInternal_eq_getElem, List.setIfInBounds_toArray, List.set_cons_zero, List.set_cons_succ])
    refine wpAnyH_take (i := 35) (v := undef) rfl (by kernel_rfl) (by kernel_rfl) (by kernel_rfl) (fun _ _ _ h => h) (Or.inr ⟨by rfl, rfl⟩) (by assumption) ?_
    (try simp only [Act.put, List.getElem_toArray, List.getElem_cons_zero, List.getElem_cons_succ, Array.getInternal_eq_getElem, List.setIfInBounds_toArray, List.set_cons_zero, List.set_cons_succ])
    refine wpAnyH_take (i := 36) (v := undef) rfl (by kernel_rfl) (by kernel_rfl) (by kernel_rfl) (fun _ _ _ h => h) (Or.inr ⟨by rfl, rfl⟩) (by assumption) ?_
    (try simp only [Act.put, List.getElem_toArray, List.getElem_cons_zero, List.getElem_cons_succ, Array.getInternal_eq_getElem, List.setIfInBounds_toArray, List.set_cons_zero, List.set_cons_succ])
    refine wpAnyH_take (i := 37) (v := undef) rfl (by kernel_rfl) (by kernel_rfl) (by kernel_rfl) (fun _ _ _ h => h) (Or.inr ⟨by rfl, rfl⟩) (by assumption) ?_
    (try simp only [Act.put, List.getElem_toArray, List.getElem_cons_zero, List.getElem_cons_succ, Array.getInternal_eq_getElem, List.setIfInBounds_toArray, List.set_cons_zero, List.set_cons_succ])
    refine wpAnyH_take (i := 38) (v := undef) rfl (by kernel_rfl) (by kernel_rfl) (by kernel_rfl) (fun _ _ _ h => h) (Or.inr ⟨by rfl, rfl⟩) (by assumption) ?_
    (try simp only [Act.put, List.getElem_toArray, List.getElem_cons_zero, List.getElem_cons_succ, Array.getInternal_eq_getElem, List.setIfInBounds_toArray, List.set_cons_zero, List.set_cons_succ])
    refine wpAnyH_take (i := 39) (v := undef) rfl (by kernel_rfl) (by kernel_rfl) (by kernel_rfl) (fun _ _ _ h => h) (Or.inr ⟨by rfl, rfl⟩) (by assumption) ?_
    (try simp only [Act.put, List.getElem_toArray, List.getElem_cons_zero, List.getElem_cons_succ, Array.getInternal_eq_getElem, List.setIfInBounds_toArray, List.set_cons_zero, List.set_cons_succ])
    refine wpAnyH_take (i := 40) (v := undef) rfl (by kernel_rfl) (by kernel_rfl) (by kernel_rfl) (fun _ _ _ h => h) (Or.inr ⟨by rfl, rfl⟩) (by assumption) ?_
    (try simp only [Act.put, List.getElem_toArray, List.getElem_cons_zero, List.getElem_cons_succ, Array.getInternal_eq_getElem, List.setIfInBounds_toArray, List.set_cons_zero, List.set_cons_succ])
    refine wpAnyH_take (i := 41) (v := undef) rfl (by kernel_rfl) (by kernel_rfl) (by kernel_rfl) (fun _ _ _ h => h) (Or.inr ⟨by rfl, rfl⟩) (by assumption) ?_
    (try simp only [Act.put, List.getElem_toArray, List.getElem_cons_zero, List.getElem_cons_succ, Array.getInternal_eq_getElem, List.setIfInBounds_toArray, List.set_cons_zero, List.set_cons_succ])
    refine wpAnyH_take (i := 42) (v := undef) rfl (by kernel_rfl) (by kernel_rfl) (by kernel_rfl) (fun _ _ _ h => h) (Or.inr ⟨by rfl, rfl⟩) (by assumption) ?_
    (try simp only [Act.put, List.getElem_toArray, List.getElem_cons_zero, List.getElem_cons_succ, Array.getInternal_eq_getElem, List.setIfInBounds_toArray, List.set_cons_zero, List.set_cons_succ])
    refine wpAnyH_take (i := 43) (v := undef) rfl (by kernel_rfl) (by kernel_rfl) (by kernel_rfl) (fun _ _ _ h => h) (Or.inr ⟨by rfl, rfl⟩) (by assumption) ?_
    (try simp only [Act.put, List.getElem_toArray, List.getElem_cons_zero, List.getElem_cons_succ, Array.getInternal_eq_getElem, List.setIfInBounds_toArray, List.set_cons_zero, List.set_cons_succ])
    refine wpAnyH_take (i := 44) (v := undef) rfl (by kernel_rfl) (by kernel_rfl) (by kernel_rfl) (fun _ _ _ h => h) (Or.inr ⟨by rfl, rfl⟩) (by assumption) ?_
    (try simp only [Act.put, List.getElem_toArray, List.getElem_cons_zero, List.getElem_cons_succ, Array.getInternal_eq_getElem, List.setIfInBounds_toArray, List.set_cons_zero, List.set_cons_succ])
    refine wpAnyH_take (i := 45) (v := undef) rfl (by kernel_rfl) (by kernel_rfl) (by kernel_rfl) (fun _ _ _ h => h) (Or.inr ⟨by rfl, rfl⟩) (by assumption) ?_
    (try simp only [Act.put, List.getElem_toArray, List.getElem_cons_zero, List.getElem_cons_succ, Array.getInternal_eq_getElem, List.setIfInBounds_toArray, List.set_cons_zero, List.set_cons_succ])
    refine wpAnyH_take (i := 46) (v := ?_) rfl (by kernel_rfl) (by kernel_rfl) (by kernel_rfl) (fun _ _ _ h => h) (Or.inl ⟨by rfl, ?_⟩) (by assumption) ?_
    rotate_left
    · intro w hSw; (try dsimp only at hSw); go_simp; (try with_reducible rfl)
    (try simp only [Act.put, List.getElem_toArray, List.getElem_cons_zero, List.getElem_cons_succ, Array.getInternal_eq_getElem, List.setIfInBounds_toArray, List.set_cons_zero, List.set_cons_succ])
    refine wpAnyH_take (i := 47) (v := ?_) rfl (by kernel_rfl) (by kernel_rfl) (by kernel_rfl) (fun _ _ _ h => h) (Or.inl ⟨by rfl, ?_⟩) (by assumption) ?_
    rotate_left
    · intro w hSw; (try dsimp only at hSw); go_simp; (try with_reducible rfl)
    (try simp only [Act.put, List.getElem_toArray, List.getElem_cons_zero, List.getElem_cons_succ, Array.getInternal_eq_getElem, List.setIfInBounds_toArray, List.set_cons_zero, List.set_cons_succ])
    refine wpAnyH_ready (rs := [48]) (by kernel_rfl) (by simp) ?_
    refine AllReadyH.cons rfl (fun K hK => ?_) AllReadyH.nil
    go_simp
    refine hK.out _ _ hHeld (fun hHeld => ?_)
    clear hK K
    (try simp only [Act.put, List.getElem_toArray, List.getElem_cons_zero, List.getElem_cons_succ, Array.getInternal_eq_getElem, List.setIfInBounds_toArray, List.set_cons_zero, List.set_cons_succ])
    refine wpAnyH_done (by kernel_rfl) ?_ _
    clear hHeld
    obtain ⟨Vd, hXd⟩ : ∃ W, W = V6.drew := ⟨_, rfl⟩
    replace HST := Lib.hid (show Below V6.heap.size V6 Vd from by rw [hXd]; exact below_drewN (Below.refl _ _) 1)
    rw [← hXd]
    clear hXd
    replace HL := Lib.hid (chain HL.out HST.out)
    clear a1 q0 q1 q3 y1 cg rr t2
    go_wp2
    go_ret
    exact ⟨rfl, chain HB2.out HL.out⟩
end Go.Proofs.Ytoeginglmgjojaa
