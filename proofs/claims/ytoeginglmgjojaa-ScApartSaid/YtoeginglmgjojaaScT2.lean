/-
  LAYER 10: the walk of ScApart.
-/
import Derived.Test.YtoeginglmgjojaaScHd
import Derived.Test.YtoeginglmgjojaaScT4L
import Derived.Test.YtoeginglmgjojaaScSt
import Derived.Test.YtoeginglmgjojaaScBg
import Derived.Deep.RegionHeld3
import Derived.Deep.DeepCutAuto
namespace Go.Proofs.Ytoeginglmgjojaa
open Go.RowKit
set_option linter.unusedVariables false
set_option linter.unusedSimpArgs false
open CodM (St Pg rightP hReg hLoc)
open BfM (Wr plc)
open ScM

set_option maxHeartbeats 8000000 in
set_option maxRecDepth 100000 in
theorem scapart_any {B : Nat} {v u : Value} {P : Pg} {s : Sta} (t : Int) (w : World) (hv : PgZ B w v P) (hu : StaV B w u s) (hBB : B ≤ w.heap.size) :
    Calls Try.prog 4 #[v, u, .int .i64 t] w fun e w' => e = .returned (.bool true) ∧ Below w.heap.size w w' := by
  obtain ⟨pi, pt, rfl, hpm, hpi⟩ := hv
  obtain ⟨um, ut, rfl, hum⟩ := hu
  have HPM := Lib.hid hpm
  have HPI := Lib.hid hpi
  have HUM := Lib.hid hum
  obtain ⟨⟨P0, d0, rfl, -⟩, ⟨P1, d1, rfl, l1, l2, l3⟩⟩ := hpm
  obtain ⟨⟨A7, c7, rfl, m1, m2, m0, m3⟩, ⟨A1, c1, rfl, k1, k2, k0, k3⟩⟩ := hum
  clear hpi
  unfold maxLen at l2 m2 k2
  have HL3 := Lib.hid l3
  have HM3 := Lib.hid m3
  have HK3 := Lib.hid k3
  clear l3 m3 k3 m0 k0
  obtain ⟨W2, hW2⟩ : ∃ W, W = ((w.alloc (.cells #[.slice P0 P.init.length d0, .slice P1 P.ths.length d1] 25)).alloc (.cells #[.slice A7 s.mem.length c7, .slice A1 s.ths.length c1] 28)) := ⟨_, rfl⟩
  obtain ⟨gp, hgp⟩ : ∃ g, g = w.heap.size := ⟨_, rfl⟩
  obtain ⟨gs, hgs⟩ : ∃ g, g = w.heap.size + 1 := ⟨_, rfl⟩
  have HX := Lib.hid (show BoxC W2 gp 25 #[.slice P0 P.init.length d0, .slice P1 P.ths.length d1] from by rw [hW2, hgp]; exact (BoxC.new w _ _).alloc _)
  have HY := Lib.hid (show BoxC W2 gs 28 #[.slice A7 s.mem.length c7, .slice A1 s.ths.length c1] from by rw [hW2, hgs]; have := BoxC.new (w.alloc (.cells #[.slice P0 P.init.length d0, .slice P1 P.ths.length d1] 25)) 28 #[.slice A7 s.mem.length c7, .slice A1 s.ths.length c1]; rw [World.size_alloc] at this; exact this)
  have HB2 := Lib.hid (show Below w.heap.size w W2 from by rw [hW2]; exact below_al (below_al (Below.refl _ _) _) _)
  have HPZ := Lib.hid (fun W (hW : Below W2.heap.size W2 W) => show PgZ W.heap.size W (.agg #[.slice P0 P.init.length d0, .slice P1 P.ths.length d1]) P from ⟨_, _, rfl, (HPM.out.below ((chain HB2.out hW).mono hBB)).more (Nat.le_trans hBB (chain HB2.out hW).size), (HPI.out.below ((chain HB2.out hW).mono hBB)).more (Nat.le_trans hBB (chain HB2.out hW).size)⟩)
  have HSV := Lib.hid (fun W (hW : Below W2.heap.size W2 W) => show StaV W.heap.size W (.agg #[.slice A7 s.mem.length c7, .slice A1 s.ths.length c1]) s from ⟨_, _, rfl, (HUM.out.below ((chain HB2.out hW).mono hBB)).more (Nat.le_trans hBB (chain HB2.out hW).size)⟩)
  have HBW := Lib.hid (Nat.le_trans hBB HB2.out.size)
  have HL := Lib.hid (Below.refl W2.heap.size W2)
  go_enter Try.func4, Try.ntmps4
  go_upto_region 1 with fail
  rw [← hW2]
  (try rw [← hgs])
  (try rw [← hgp])
  clear hW2 hgs hgp
  go_wp2_with fail
  refine (head_any _).mono ?_
  rintro e V1 ⟨rfl, hb⟩
  have HST := Lib.hid hb
  replace HL := Lib.hid (chain HL.out hb)
  clear hb 
  have x0 := (HX.out.below HL.out HX.out.lt).cell 0 _ rfl
  have x1 := (HX.out.below HL.out HX.out.lt).cell 1 _ rfl
  go_wp2_with fail
  refine (cgreat_any _ (HPZ.out _ HL.out).v (Nat.le_refl _)).mono ?_
  rintro e V2 ⟨gb, rfl, hg, hb⟩
  have HST := Lib.hid hb
  replace HL := Lib.hid (chain HL.out hb)
  clear hb x0 x1
  cases gb
  case true =>
    go_wp2
    go_ret
    exact ⟨rfl, chain HB2.out HL.out⟩
  have HSM := Lib.hid (hg rfl).1
  have HRP := Lib.hid (hg rfl).2
  clear hg
  have y0 := (HY.out.below HL.out HY.out.lt).cell 0 _ rfl
  have y1 := (HY.out.below HL.out HY.out.lt).cell 1 _ rfl
  go_wp2_with fail
  refine (wide_any _ (HSV.out _ HL.out) (Nat.le_refl _)).mono ?_
  rintro e V3 ⟨gb, rfl, hg, hb⟩
  have HST := Lib.hid hb
  replace HL := Lib.hid (chain HL.out hb)
  clear hb y0 y1
  cases gb
  case true =>
    go_wp2
    go_ret
    exact ⟨rfl, chain HB2.out HL.out⟩
  have HWS := Lib.hid (hg rfl)
  clear hg
  have x0 := (HX.out.below HL.out HX.out.lt).cell 0 _ rfl
  have x1 := (HX.out.below HL.out HX.out.lt).cell 1 _ rfl
  have y0 := (HY.out.below HL.out HY.out.lt).cell 0 _ rfl
  have y1 := (HY.out.below HL.out HY.out.lt).cell 1 _ rfl
  go_wp2_with fail
  refine (rright_any _ (HPZ.out _ HL.out).v (HSV.out _ HL.out) (Nat.le_refl _)).mono ?_
  rintro e V4 ⟨d, rfl, hd, hb⟩
  have HST := Lib.hid hb
  replace HL := Lib.hid (chain HL.out hb)
  clear hb x0 x1 y0 y1
  cases d
  case false =>
    go_wp2
    go_ret
    exact ⟨rfl, chain HB2.out HL.out⟩
  have HOK := Lib.hid (hd.1 rfl)
  clear hd
  have x0 := (HX.out.below HL.out HX.out.lt).cell 0 _ rfl
  have x1 := (HX.out.below HL.out HX.out.lt).cell 1 _ rfl
  have y0 := (HY.out.below HL.out HY.out.lt).cell 0 _ rfl
  have y1 := (HY.out.below HL.out HY.out.lt).cell 1 _ rfl
  go_wp2_with fail
  refine (sstep_any t _ (HPZ.out _ HL.out).v (HSV.out _ HL.out) (Nat.le_refl _) HRP.out HOK.out HWS.out).mono ?_
  rintro e V5 ⟨vm, vt, ps8, rfl, hos, hb⟩
  have HST := Lib.hid hb
  replace HL := Lib.hid (chain HL.out hb)
  clear hb x0 x1 y0 y1
  obtain ⟨A8, c8, rfl⟩ := own_slice (n := s.mem.length) (show V5.ownsRow _ _ 1 vm s.mem.length _ from by have e := hos.mem; unfold OwnI at e; rwa [((show (stp P s t).mem.length = s.mem.length from (stp_len P s t).1))] at e)
  obtain ⟨B8, e8, rfl⟩ := own_slice (n := s.ths.length) (show V5.ownsRow _ _ 4 vt s.ths.length _ from by have e := hos.ths; rwa [((show (stp P s t).ths.length = s.ths.length from (stp_len P s t).2))] at e)
  have HO8 := Lib.hid hos
  clear hos
  go_upto_region 5 with fail
  obtain ⟨X8, hX⟩ : ∃ W, W = V5.alloc (.cells #[.slice A8 s.mem.length c8, .slice B8 s.ths.length e8] 28) := ⟨_, rfl⟩
  obtain ⟨g8, hg⟩ : ∃ g, g = V5.heap.size := ⟨_, rfl⟩
  replace HST := Lib.hid (show Below V5.heap.size V5 X8 from by rw [hX]; exact below_al (Below.refl _ _) _)
  have HQ8 := Lib.hid (show BoxC X8 g8 28 #[.slice A8 s.mem.length c8, .slice B8 s.ths.length e8] from by rw [hX, hg]; exact BoxC.new V5 _ _)
  rw [← hX]
  (try rw [← hg])
  clear hX hg
  replace HL := Lib.hid (chain HL.out HST.out)
  replace HO8 := Lib.hid (HO8.out.below HST.out)
  have HTL := Lib.hid HOK.out.ths
  cases hat0 : atS P s t with
  | none =>
    replace HO8 := Lib.hid (HO8.out.cast (stp_no hat0))
    have a0 := HQ8.out.cell 0 _ rfl
    have a1 := HQ8.out.cell 1 _ rfl
    have y0 := (HY.out.below HL.out HY.out.lt).cell 0 _ rfl
    have y1 := (HY.out.below HL.out HY.out.lt).cell 1 _ rfl
    go_wp2_with fail
    refine (stsame_any _ HO8.out.sv (HSV.out _ HL.out) (Nat.le_refl _)).mono ?_
    rintro e V50 ⟨rfl, hb⟩
    replace HL := Lib.hid (chain HL.out hb)
    clear hb a0 a1 y0 y1
    go_wp2
    go_ret
    exact ⟨rfl, chain HB2.out HL.out⟩
  | some x0 =>
    obtain ⟨k, rfl, hks, hkt, hk3, hx0⟩ := atS_some hat0
    clear hx0
    have HHA := Lib.hid hat0
    clear hat0
    obtain ⟨b2, f2, rfl, hb2, hc2⟩ := HL3.out (by omega)
    obtain ⟨b1, f1, rfl, hb1, hc1⟩ := HK3.out (by omega)
    obtain ⟨uu, z0, hS⟩ := hc2 k hkt
    obtain ⟨vr, vb, c0, c1', c2', c3', hR, hW⟩ := hc1 k hks
    have HTD := Lib.hid hc1
    have HKT := Lib.hid hkt
    have HKS := Lib.hid hks
    have HAS := Lib.hid (fun (h : s.ths[k].at'.toNat < P.ths[k].length) => And.intro (atS_at hks hkt h) (stp_at hks hkt h))
    have HAN := Lib.hid (fun (h : ¬ s.ths[k].at'.toNat < P.ths[k].length) => atS_past (s := s) (h1 := hks) (h2 := hkt) h)
    have HGO := Lib.hid (fun (h : s.ths[k].at'.toNat < P.ths[k].length) => goes HRP.out HOK.out hks hkt h)
    have HPX := Lib.hid (fun (h : s.ths[k].at'.toNat < P.ths[k].length) => show StP s.mem.length P.ths[k].length s.ths[k].at'.toNat P.ths[k][s.ths[k].at'.toNat] from by rw [HOK.out.mem]; exact stp_of HRP.out hkt h)
    have HTH := Lib.hid (HOK.out.th k hks hkt)
    have HLE := Lib.hid ((right_ths HRP.out).2.2.2 k hkt)
    have HHH := Lib.hid (show s.ths[k]? = some s.ths[k] from List.getElem?_eq_getElem hks)
    generalize P.ths[k] = ss at *
    generalize s.ths[k] = h at *
    obtain ⟨xa, xr, xe, xb⟩ := h
    obtain ⟨n, rfl⟩ : ∃ n : Nat, xa = n := ⟨xa.toNat, by have h : 0 ≤ xa := HTH.out.lo; omega⟩
    dsimp only at hR hW c0 c2'
    simp only [Int.toNat_natCast] at HAS HAN HGO HPX c0
    obtain ⟨A5, c5, rfl, n1, n2, n3⟩ := hS
    have HRI := Lib.hid hR
    have HWI := Lib.hid hW
    obtain ⟨Ar, cr, rfl, -⟩ := hR
    obtain ⟨Ab, cb, rfl, -⟩ := hW
    have HXR := Lib.hid (show xr.length = 4 from HTH.out.regs)
    have HNL := Lib.hid (show n ≤ ss.length from by have h : (n : Int) ≤ ss.length := HTH.out.hi; omega)
    have HN3 := Lib.hid n3
    have HTB := Lib.hid (fun (W : World) (hW : Below W2.heap.size W2 W) => show Below B w W from (chain HB2.out hW).mono hBB)
    have HZ0 := Lib.hid (fun W hW => ((HTB.out W hW).cell (p := ⟨b2, f2 + k, none⟩) hb2).trans z0)
    have HC0 := Lib.hid (fun W hW => ((HTB.out W hW).cell (p := ⟨b1, f1 + k * 4, none⟩) hb1).trans c0)
    have HC1 := Lib.hid (fun W hW => ((HTB.out W hW).cell (p := ⟨b1, f1 + k * 4 + 1, none⟩) hb1).trans c1')
    have HC2 := Lib.hid (fun W hW => ((HTB.out W hW).cell (p := ⟨b1, f1 + k * 4 + 2, none⟩) hb1).trans c2')
    have HC3 := Lib.hid (fun W hW => ((HTB.out W hW).cell (p := ⟨b1, f1 + k * 4 + 3, none⟩) hb1).trans c3')
    have HB12 := Lib.hid (And.intro hb1 hb2)
    clear hc1 hc2 z0 c0 c1' c2' c3' n3 n1 n2 hb1 hb2
    have hat : n < ss.length := by simpa using hk3
    clear hk3
    have HAS0 := Lib.hid (HAS.out hat).1
    have HA := Lib.hid (HAS.out hat)
    have HG := Lib.hid (HGO.out hat)
    have HX8 := Lib.hid (HPX.out hat)
    obtain ⟨b5, f5, rfl, hb5, hst⟩ := HN3.out (by omega)
    obtain ⟨s0, s1, s2, s3, s4⟩ := hst n hat
    clear HAS HAN HGO HPX HN3 hst
    generalize ss[n] = x at *
    obtain ⟨op, rg, lc, nn, tn⟩ := x
    dsimp only at s0 s1 s2 s3 s4
    have HS5 := Lib.hid (fun W hW => show W.cell? ⟨b5, f5 + n * 5, none⟩ = some (.int .i64 op) ∧ W.cell? ⟨b5, f5 + n * 5 + 1, none⟩ = some (.int .i64 rg) ∧ W.cell? ⟨b5, f5 + n * 5 + 2, none⟩ = some (.int .i64 lc) ∧ W.cell? ⟨b5, f5 + n * 5 + 3, none⟩ = some (.int .i64 nn) ∧ W.cell? ⟨b5, f5 + n * 5 + 4, none⟩ = some (.int .i64 tn) from
      ⟨((HTB.out W hW).cell (p := ⟨b5, f5 + n * 5, none⟩) hb5).trans s0, ((HTB.out W hW).cell (p := ⟨b5, f5 + n * 5 + 1, none⟩) hb5).trans s1, ((HTB.out W hW).cell (p := ⟨b5, f5 + n * 5 + 2, none⟩) hb5).trans s2, ((HTB.out W hW).cell (p := ⟨b5, f5 + n * 5 + 3, none⟩) hb5).trans s3, ((HTB.out W hW).cell (p := ⟨b5, f5 + n * 5 + 4, none⟩) hb5).trans s4⟩)
    clear s0 s1 s2 s3 s4 hb5
    have HOK8 := Lib.hid (stp_ok HRP.out HOK.out (k : Int))
    have x0 := (HX.out.below HL.out HX.out.lt).cell 0 _ rfl
    have x1 := (HX.out.below HL.out HX.out.lt).cell 1 _ rfl
    have a0 := HQ8.out.cell 0 _ rfl
    have a1 := HQ8.out.cell 1 _ rfl
    go_wp2_with fail
    refine (rright_any _ (HPZ.out _ HL.out).v HO8.out.sv (Nat.le_refl _)).mono ?_
    rintro e V6 ⟨d, rfl, hd, hb⟩
    have HST := Lib.hid hb
    replace HL := Lib.hid (chain HL.out hb)
    clear hb x0 x1
    obtain rfl : d = true := hd.2 HOK8.out
    clear hd a0 a1
    replace HO8 := Lib.hid (HO8.out.below HST.out)
    replace HQ8 := Lib.hid (HQ8.out.below HST.out HQ8.out.lt)
    have y1 := (HY.out.below HL.out HY.out.lt).cell 1 _ rfl
    go_upto_region 9 with fail
    clear y1
    have x0 := (HX.out.below HL.out HX.out.lt).cell 0 _ rfl
    have x1 := (HX.out.below HL.out HX.out.lt).cell 1 _ rfl
    have y0 := (HY.out.below HL.out HY.out.lt).cell 0 _ rfl
    have y1 := (HY.out.below HL.out HY.out.lt).cell 1 _ rfl
    go_wp2_with fail
    refine (rat_any (k : Int) _ (HPZ.out _ HL.out).v (HSV.out _ HL.out) (Nat.le_refl _) HOK.out).mono ?_
    rintro e V7 ⟨rfl, hb⟩
    have HST := Lib.hid hb
    replace HL := Lib.hid (chain HL.out hb)
    clear hb x0 x1 y0 y1
    replace HO8 := Lib.hid (HO8.out.below HST.out)
    replace HQ8 := Lib.hid (HQ8.out.below HST.out HQ8.out.lt)
    rw [show atV P s (k : Int) = .tuple #[stV ⟨op, rg, lc, nn, tn⟩, .bool true] from by unfold atV; rw [HAS0.out]]
    unfold stV
    dsimp only
    go_upto_region 10 with fail
    obtain ⟨X10, hX⟩ : ∃ W, W = V7.alloc (.cells #[.int .i64 op, .int .i64 rg, .int .i64 lc, .int .i64 nn, .int .i64 tn] 39) := ⟨_, rfl⟩
    obtain ⟨g10, hg⟩ : ∃ g, g = V7.heap.size := ⟨_, rfl⟩
    replace HST := Lib.hid (show Below V7.heap.size V7 X10 from by rw [hX]; exact below_al (Below.refl _ _) _)
    have HQx := Lib.hid (show BoxC X10 g10 39 #[.int .i64 op, .int .i64 rg, .int .i64 lc, .int .i64 nn, .int .i64 tn] from by rw [hX, hg]; exact BoxC.new V7 _ _)
    rw [← hX]
    (try rw [← hg])
    clear hX hg
    replace HL := Lib.hid (chain HL.out HST.out)
    replace HO8 := Lib.hid (HO8.out.below HST.out)
    replace HQ8 := Lib.hid (HQ8.out.below HST.out HQ8.out.lt)
    have HO8c := Lib.hid (HO8.out.cast HA.out.2)
    have HP8 := Lib.hid (show k < ps8.length from by rw [HO8.out.len, (stp_len P s (k : Int)).2]; exact hks)
    obtain ⟨gv, cv', cur, hev, hgv, hbv, t0, t1, t2, t3⟩ := HO8c.out.row HP8.out
    rw [show (⟨stM (⟨op, rg, lc, nn, tn⟩ : St) s.mem xr, s.ths.set k (stT (⟨op, rg, lc, nn, tn⟩ : St) s.mem ⟨(n : Int), xr, xe, xb⟩)⟩ : Sta).ths.length = s.ths.length from List.length_set] at hev
    injection hev with hev1 hev3 hev2
    clear hev3
    subst hev1 hev2
    have HT8 := Lib.hid (show (ps8[k]'HP8.out).t = stT (⟨op, rg, lc, nn, tn⟩ : St) s.mem ⟨(n : Int), xr, xe, xb⟩ from by
      rw [HO8c.out.at HP8.out (by show k < (s.ths.set k _).length; rw [List.length_set]; exact hks)]
      exact List.getElem_set_self _)
    have HE8 := Lib.hid (HO8c.out.each _ (List.getElem_mem HP8.out)).1
    rw [HT8.out] at HE8 t0 t2
    obtain ⟨vr8, hvr8⟩ : ∃ v, v = (ps8[k]'HP8.out).vr := ⟨_, rfl⟩
    rw [← hvr8] at HE8 t1
    clear hvr8 hgv t3
    have HT1 := Lib.hid t1
    have HT0 := Lib.hid t0
    have HT2 := Lib.hid t2
    have HP3 := Lib.hid (HO8c.out.each _ (List.getElem_mem HP8.out)).2.1
    have HBV := Lib.hid hbv
    clear t0 t1 t2 hbv
    have HLX := Lib.hid HL.out
    go_wp2
    go_loopw [12] (fun i wr => ∃ q : Nat, q ≤ s.ths.length ∧ i = .int .i64 q ∧ Below X10.heap.size X10 wr) (fun i _ => s.ths.length - (intOf i).toNat)
    case atStart => exact ⟨0, Nat.zero_le _, rfl, Below.refl _ _⟩
    case round =>
      obtain ⟨q, hq, rfl, hB⟩ := hrel
      have HB := Lib.hid hB
      have HL := Lib.hid (chain HLX.out hB)
      have HO8w := Lib.hid (HO8.out.below hB)
      have HQ8w := Lib.hid (HQ8.out.below hB HQ8.out.lt)
      clear hB
      have y1 := (HY.out.below HL.out HY.out.lt).cell 1 _ rfl
      have a1 := HQ8w.out.cell 1 _ rfl
      by_cases hlt : q < s.ths.length
      case pos =>
        by_cases hqk : q = k
        case pos =>
          subst hqk
          have hne : ((q : Int) != (q : Int)) = false := by rw [bne_eq_false_iff_eq]
          go_upto_region 13 with fail
          refine wp_region_held_drew (S := (fun w' => True)) (by kernel_rfl) trivial (fun hHeld => ?_)
          refine wpAnyH_take (i := 0) (v := ?_) rfl (by kernel_rfl) (by kernel_rfl) (by kernel_rfl) (fun _ _ _ h => h) (Or.inl ⟨by rfl, ?_⟩) (by assumption) ?_
          rotate_left
          · intro w hSw; (try dsimp only at hSw); go_simp; (try with_reducible rfl)
          (try simp only [Act.put, List.getElem_toArray, List.getElem_cons_zero, List.getElem_cons_succ, Array.getInternal_eq_getElem, List.setIfInBounds_toArray, List.set_cons_zero, List.set_cons_succ])
          refine wpAnyH_take (i := 1) (v := ?_) rfl (by kernel_rfl) (by kernel_rfl) (by kernel_rfl) (fun _ _ _ h => h) (Or.inl ⟨by rfl, ?_⟩) (by assumption) ?_
          rotate_left
          · intro w hSw; (try dsimp only at hSw); go_simp; (try with_reducible rfl)
          (try simp only [Act.put, List.getElem_toArray, List.getElem_cons_zero, List.getElem_cons_succ, Array.getInternal_eq_getElem, List.setIfInBounds_toArray, List.set_cons_zero, List.set_cons_succ])
          refine wpAnyH_take (i := 2) (v := ?_) rfl (by kernel_rfl) (by kernel_rfl) (by kernel_rfl) (fun _ _ _ h => h) (Or.inl ⟨by rfl, ?_⟩) (by assumption) ?_
          rotate_left
          · intro w hSw; (try dsimp only at hSw); go_simp; (try with_reducible rfl)
          (try simp only [Act.put, List.getElem_toArray, List.getElem_cons_zero, List.getElem_cons_succ, Array.getInternal_eq_getElem, List.setIfInBounds_toArray, List.set_cons_zero, List.set_cons_succ])
          refine wpAnyH_take (i := 3) (v := ?_) rfl (by kernel_rfl) (by kernel_rfl) (by kernel_rfl) (fun _ _ _ h => h) (Or.inl ⟨by rfl, ?_⟩) (by assumption) ?_
          rotate_left
          · intro w hSw; (try dsimp only at hSw); go_simp; (try with_reducible rfl)
          (try simp only [Act.put, List.getElem_toArray, List.getElem_cons_zero, List.getElem_cons_succ, Array.getInternal_eq_getElem, List.setIfInBounds_toArray, List.set_cons_zero, List.set_cons_succ])
          refine wpAnyH_take (i := 4) (v := undef) rfl (by kernel_rfl) (by kernel_rfl) (by kernel_rfl) (fun _ _ _ h => h) (Or.inr ⟨by rfl, rfl⟩) (by assumption) ?_
          (try simp only [Act.put, List.getElem_toArray, List.getElem_cons_zero, List.getElem_cons_succ, Array.getInternal_eq_getElem, List.setIfInBounds_toArray, List.set_cons_zero, List.set_cons_succ])
          refine wpAnyH_take (i := 5) (v := undef) rfl (by kernel_rfl) (by kernel_rfl) (by kernel_rfl) (fun _ _ _ h => h) (Or.inr ⟨by rfl, rfl⟩) (by assumption) ?_
          (try simp only [Act.put, List.getElem_toArray, List.getElem_cons_zero, List.getElem_cons_succ, Array.getInternal_eq_getElem, List.setIfInBounds_toArray, List.set_cons_zero, List.set_cons_succ])
          refine wpAnyH_take (i := 6) (v := undef) rfl (by kernel_rfl) (by kernel_rfl) (by kernel_rfl) (fun _ _ _ h => h) (Or.inr ⟨by rfl, rfl⟩) (by assumption) ?_
          (try simp only [Act.put, List.getElem_toArray, List.getElem_cons_zero, List.getElem_cons_succ, Array.getInternal_eq_getElem, List.setIfInBounds_toArray, List.set_cons_zero, List.set_cons_succ])
          refine wpAnyH_take (i := 7) (v := undef) rfl (by kernel_rfl) (by kernel_rfl) (by kernel_rfl) (fun _ _ _ h => h) (Or.inr ⟨by rfl, rfl⟩) (by assumption) ?_
          (try simp only [Act.put, List.getElem_toArray, List.getElem_cons_zero, List.getElem_cons_succ, Array.getInternal_eq_getElem, List.setIfInBounds_toArray, List.set_cons_zero, List.set_cons_succ])
          refine wpAnyH_take (i := 8) (v := undef) rfl (by kernel_rfl) (by kernel_rfl) (by kernel_rfl) (fun _ _ _ h => h) (Or.inr ⟨by rfl, rfl⟩) (by assumption) ?_
          (try simp only [Act.put, List.getElem_toArray, List.getElem_cons_zero, List.getElem_cons_succ, Array.getInternal_eq_getElem, List.setIfInBounds_toArray, List.set_cons_zero, List.set_cons_succ])
          refine wpAnyH_take (i := 9) (v := undef) rfl (by kernel_rfl) (by kernel_rfl) (by kernel_rfl) (fun _ _ _ h => h) (Or.inr ⟨by rfl, rfl⟩) (by assumption) ?_
          (try simp only [Act.put, List.getElem_toArray, List.getElem_cons_zero, List.getElem_cons_succ, Array.getInternal_eq_getElem, List.setIfInBounds_toArray, List.set_cons_zero, List.set_cons_succ])
          refine wpAnyH_take (i := 10) (v := undef) rfl (by kernel_rfl) (by kernel_rfl) (by kernel_rfl) (fun _ _ _ h => h) (Or.inr ⟨by rfl, rfl⟩) (by assumption) ?_
          (try simp only [Act.put, List.getElem_toArray, List.getElem_cons_zero, List.getElem_cons_succ, Array.getInternal_eq_getElem, List.setIfInBounds_toArray, List.set_cons_zero, List.set_cons_succ])
          refine wpAnyH_take (i := 11) (v := undef) rfl (by kernel_rfl) (by kernel_rfl) (by kernel_rfl) (fun _ _ _ h => h) (Or.inr ⟨by rfl, rfl⟩) (by assumption) ?_
          (try simp only [Act.put, List.getElem_toArray, List.getElem_cons_zero, List.getElem_cons_succ, Array.getInternal_eq_getElem, List.setIfInBounds_toArray, List.set_cons_zero, List.set_cons_succ])
          refine wpAnyH_take (i := 12) (v := undef) rfl (by kernel_rfl) (by kernel_rfl) (by kernel_rfl) (fun _ _ _ h => h) (Or.inr ⟨by rfl, rfl⟩) (by assumption) ?_
          (try simp only [Act.put, List.getElem_toArray, List.getElem_cons_zero, List.getElem_cons_succ, Array.getInternal_eq_getElem, List.setIfInBounds_toArray, List.set_cons_zero, List.set_cons_succ])
          refine wpAnyH_take (i := 13) (v := undef) rfl (by kernel_rfl) (by kernel_rfl) (by kernel_rfl) (fun _ _ _ h => h) (Or.inr ⟨by rfl, rfl⟩) (by assumption) ?_
          (try simp only [Act.put, List.getElem_toArray, List.getElem_cons_zero, List.getElem_cons_succ, Array.getInternal_eq_getElem, List.setIfInBounds_toArray, List.set_cons_zero, List.set_cons_succ])
          refine wpAnyH_take (i := 14) (v := undef) rfl (by kernel_rfl) (by kernel_rfl) (by kernel_rfl) (fun _ _ _ h => h) (Or.inr ⟨by rfl, rfl⟩) (by assumption) ?_
          (try simp only [Act.put, List.getElem_toArray, List.getElem_cons_zero, List.getElem_cons_succ, Array.getInternal_eq_getElem, List.setIfInBounds_toArray, List.set_cons_zero, List.set_cons_succ])
          refine wpAnyH_take (i := 15) (v := undef) rfl (by kernel_rfl) (by kernel_rfl) (by kernel_rfl) (fun _ _ _ h => h) (Or.inr ⟨by rfl, rfl⟩) (by assumption) ?_
          (try simp only [Act.put, List.getElem_toArray, List.getElem_cons_zero, List.getElem_cons_succ, Array.getInternal_eq_getElem, List.setIfInBounds_toArray, List.set_cons_zero, List.set_cons_succ])
          refine wpAnyH_take (i := 16) (v := ?_) rfl (by kernel_rfl) (by kernel_rfl) (by kernel_rfl) (fun _ _ _ h => h) (Or.inl ⟨by rfl, ?_⟩) (by assumption) ?_
          rotate_left
          · intro w hSw; (try dsimp only at hSw); go_simp; (try with_reducible rfl)
          (try simp only [Act.put, List.getElem_toArray, List.getElem_cons_zero, List.getElem_cons_succ, Array.getInternal_eq_getElem, List.setIfInBounds_toArray, List.set_cons_zero, List.set_cons_succ])
          refine wpAnyH_done (by kernel_rfl) ?_ _
          clear hHeld y1 a1 hne
          go_wp2_with fail
          go_roundw
          case rel => exact ⟨q + 1, by omega, by go_num, HB.out.drew⟩
          case measure => simp [intOf]; omega
        have hq8 : q < ps8.length := by rw [HO8w.out.len, (stp_len P s (k : Int)).2]; exact hlt
        obtain ⟨gq, cq, curq, hevq, -, -, u0, u1, u2, u3⟩ := HO8w.out.row hq8
        rw [(stp_len P s (k : Int)).2] at hevq
        injection hevq with hev1 hev3 hev2
        injection hev1 with hev1
        injection hev1 with hev1
        clear hev3
        subst hev1 hev2
        have HPQ := Lib.hid (show (ps8[q]'hq8).t = s.ths[q] from by
          rw [HO8w.out.at hq8 (by rw [(stp_len P s (k : Int)).2]; exact hlt)]
          exact stp_other hlt hqk _)
        obtain ⟨e1, e2, -⟩ := HO8w.out.each _ (List.getElem_mem hq8)
        rw [HPQ.out] at e1 e2 u0 u2
        obtain ⟨vr8q, hv1⟩ : ∃ v, v = (ps8[q]'hq8).vr := ⟨_, rfl⟩
        obtain ⟨vb8q, hv2⟩ : ∃ v, v = (ps8[q]'hq8).vb := ⟨_, rfl⟩
        rw [← hv1] at e1 u1
        rw [← hv2] at e2 u3
        clear hv1 hv2 HPQ
        obtain ⟨vrq, vbq, c0, c1q, c2, c3, hRq, hWq⟩ := (HTD.out q hlt).below (HTB.out _ HL.out) HB12.out.1
        generalize s.ths[q] = hq0 at *
        obtain ⟨ya, yr, ye, yb⟩ := hq0
        dsimp only at e1 e2 u0 u2 c0 c2 hRq hWq
        have HV1 := Lib.hid (show ThV wr.heap.size wr (.agg #[.int .i64 ya, vr8q, .bool ye, vb8q]) ⟨ya, yr, ye, yb⟩ from ⟨_, _, rfl, Rw.own e1 (Nat.le_refl _), Rw.own e2 (Nat.le_refl _)⟩)
        have HV2 := Lib.hid (show ThV wr.heap.size wr (.agg #[.int .i64 ya, vrq, .bool ye, vbq]) ⟨ya, yr, ye, yb⟩ from ⟨_, _, rfl, hRq.more (Nat.le_trans HBW.out HL.out.size), hWq.more (Nat.le_trans HBW.out HL.out.size)⟩)
        obtain ⟨Ae, ce, rfl⟩ := own_slice e1
        obtain ⟨Af, cf, rfl⟩ := own_slice e2
        obtain ⟨Ai, ci, rfl, -⟩ := hRq
        obtain ⟨Aj, cj, rfl, -⟩ := hWq
        have hne : ((q : Int) != (k : Int)) = true := by rw [bne_iff_ne]; omega
        have hqk' : ¬ ((q : Int) = (k : Int)) := by omega
        clear e1 e2
        go_upto_region 13 with fail
        refine wp_region_held_drew (S := (fun w' => (w'.cell? ⟨g8, 1, none⟩ = some (.slice (some ⟨gv, 0, none⟩) s.ths.length e8) ∧ w'.cell? ⟨gv, q * 4, none⟩ = some (.int .i64 ya) ∧ w'.cell? ⟨gv, q * 4 + 1, none⟩ = some (.slice Ae yr.length ce) ∧ w'.cell? ⟨gv, q * 4 + 2, none⟩ = some (.bool ye) ∧ w'.cell? ⟨gv, q * 4 + 3, none⟩ = some (.slice Af yb.length cf) ∧ w'.cell? ⟨gs, 1, none⟩ = some (.slice (some ⟨b1, f1, none⟩) s.ths.length c1) ∧ w'.cell? ⟨b1, f1 + q * 4, none⟩ = some (.int .i64 ya) ∧ w'.cell? ⟨b1, f1 + q * 4 + 1, none⟩ = some (.slice Ai yr.length ci) ∧ w'.cell? ⟨b1, f1 + q * 4 + 2, none⟩ = some (.bool ye) ∧ w'.cell? ⟨b1, f1 + q * 4 + 3, none⟩ = some (.slice Aj yb.length cj) ∧ True) ∧ Below wr.heap.size wr w')) (by kernel_rfl) ⟨⟨a1, u0, u1, u2, u3, y1, c0, c1q, c2, c3, trivial⟩, below_drewN (Below.refl _ _) 1⟩ (fun hHeld => ?_)
        refine wpAnyH_take (i := 0) (v := ?_) rfl (by kernel_rfl) (by kernel_rfl) (by kernel_rfl) (fun _ _ _ h => h) (Or.inl ⟨by rfl, ?_⟩) (by assumption) ?_
        rotate_left
        · intro w hSw; (try dsimp only at hSw); go_simp; (try with_reducible rfl)
        (try simp only [Act.put, List.getElem_toArray, List.getElem_cons_zero, List.getElem_cons_succ, Array.getInternal_eq_getElem, List.setIfInBounds_toArray, List.set_cons_zero, List.set_cons_succ])
        refine wpAnyH_take (i := 1) (v := ?_) rfl (by kernel_rfl) (by kernel_rfl) (by kernel_rfl) (fun _ _ _ h => h) (Or.inl ⟨by rfl, ?_⟩) (by assumption) ?_
        rotate_left
        · intro w hSw; (try dsimp only at hSw); go_simp; (try with_reducible rfl)
        (try simp only [Act.put, List.getElem_toArray, List.getElem_cons_zero, List.getElem_cons_succ, Array.getInternal_eq_getElem, List.setIfInBounds_toArray, List.set_cons_zero, List.set_cons_succ])
        refine wpAnyH_take (i := 2) (v := ?_) rfl (by kernel_rfl) (by kernel_rfl) (by kernel_rfl) (fun _ _ _ h => h) (Or.inl ⟨by rfl, ?_⟩) (by assumption) ?_
        rotate_left
        · intro w hSw; (try dsimp only at hSw); go_simp; (try with_reducible rfl)
        (try simp only [Act.put, List.getElem_toArray, List.getElem_cons_zero, List.getElem_cons_succ, Array.getInternal_eq_getElem, List.setIfInBounds_toArray, List.set_cons_zero, List.set_cons_succ])
        refine wpAnyH_take (i := 3) (v := ?_) rfl (by kernel_rfl) (by kernel_rfl) (by kernel_rfl) (fun _ _ _ h => h) (Or.inl ⟨by rfl, ?_⟩) (by assumption) ?_
        rotate_left
        · intro w hSw; (try dsimp only at hSw); go_simp; (try with_reducible rfl)
        (try simp only [Act.put, List.getElem_toArray, List.getElem_cons_zero, List.getElem_cons_succ, Array.getInternal_eq_getElem, List.setIfInBounds_toArray, List.set_cons_zero, List.set_cons_succ])
        refine wpAnyH_take (i := 4) (v := ?_) rfl (by kernel_rfl) (by kernel_rfl) (by kernel_rfl) (fun _ _ _ h => h) (Or.inl ⟨by rfl, ?_⟩) (by assumption) ?_
        rotate_left
        · intro w hSw; (try dsimp only at hSw); go_simp; (try with_reducible rfl)
        (try simp only [Act.put, List.getElem_toArray, List.getElem_cons_zero, List.getElem_cons_succ, Array.getInternal_eq_getElem, List.setIfInBounds_toArray, List.set_cons_zero, List.set_cons_succ])
        refine wpAnyH_take (i := 5) (v := ?_) rfl (by kernel_rfl) (by kernel_rfl) (by kernel_rfl) (fun _ _ _ h => h) (Or.inl ⟨by rfl, ?_⟩) (by assumption) ?_
        rotate_left
        · intro w hSw; (try dsimp only at hSw); go_simp; (try with_reducible rfl)
        (try simp only [Act.put, List.getElem_toArray, List.getElem_cons_zero, List.getElem_cons_succ, Array.getInternal_eq_getElem, List.setIfInBounds_toArray, List.set_cons_zero, List.set_cons_succ])
        refine wpAnyH_take (i := 6) (v := ?_) rfl (by kernel_rfl) (by kernel_rfl) (by kernel_rfl) (fun _ _ _ h => h) (Or.inl ⟨by rfl, ?_⟩) (by assumption) ?_
        rotate_left
        · intro w hSw; (try dsimp only at hSw); go_simp; (try with_reducible rfl)
        (try simp only [Act.put, List.getElem_toArray, List.getElem_cons_zero, List.getElem_cons_succ, Array.getInternal_eq_getElem, List.setIfInBounds_toArray, List.set_cons_zero, List.set_cons_succ])
        refine wpAnyH_take (i := 7) (v := ?_) rfl (by kernel_rfl) (by kernel_rfl) (by kernel_rfl) (fun _ _ _ h => h) (Or.inl ⟨by rfl, ?_⟩) (by assumption) ?_
        rotate_left
        · intro w hSw; (try dsimp only at hSw); go_simp; (try with_reducible rfl)
        (try simp only [Act.put, List.getElem_toArray, List.getElem_cons_zero, List.getElem_cons_succ, Array.getInternal_eq_getElem, List.setIfInBounds_toArray, List.set_cons_zero, List.set_cons_succ])
        refine wpAnyH_take (i := 8) (v := ?_) rfl (by kernel_rfl) (by kernel_rfl) (by kernel_rfl) (fun _ _ _ h => h) (Or.inl ⟨by rfl, ?_⟩) (by assumption) ?_
        rotate_left
        · intro w hSw; (try dsimp only at hSw); go_simp; (try with_reducible rfl)
        (try simp only [Act.put, List.getElem_toArray, List.getElem_cons_zero, List.getElem_cons_succ, Array.getInternal_eq_getElem, List.setIfInBounds_toArray, List.set_cons_zero, List.set_cons_succ])
        refine wpAnyH_take (i := 9) (v := ?_) rfl (by kernel_rfl) (by kernel_rfl) (by kernel_rfl) (fun _ _ _ h => h) (Or.inl ⟨by rfl, ?_⟩) (by assumption) ?_
        rotate_left
        · intro w hSw; (try dsimp only at hSw); go_simp; (try with_reducible rfl)
        (try simp only [Act.put, List.getElem_toArray, List.getElem_cons_zero, List.getElem_cons_succ, Array.getInternal_eq_getElem, List.setIfInBounds_toArray, List.set_cons_zero, List.set_cons_succ])
        refine wpAnyH_take (i := 10) (v := ?_) rfl (by kernel_rfl) (by kernel_rfl) (by kernel_rfl) (fun _ _ _ h => h) (Or.inl ⟨by rfl, ?_⟩) (by assumption) ?_
        rotate_left
        · intro w hSw; (try dsimp only at hSw); go_simp; (try with_reducible rfl)
        (try simp only [Act.put, List.getElem_toArray, List.getElem_cons_zero, List.getElem_cons_succ, Array.getInternal_eq_getElem, List.setIfInBounds_toArray, List.set_cons_zero, List.set_cons_succ])
        refine wpAnyH_take (i := 11) (v := ?_) rfl (by kernel_rfl) (by kernel_rfl) (by kernel_rfl) (fun _ _ _ h => h) (Or.inl ⟨by rfl, ?_⟩) (by assumption) ?_
        rotate_left
        · intro w hSw; (try dsimp only at hSw); go_simp; (try with_reducible rfl)
        (try simp only [Act.put, List.getElem_toArray, List.getElem_cons_zero, List.getElem_cons_succ, Array.getInternal_eq_getElem, List.setIfInBounds_toArray, List.set_cons_zero, List.set_cons_succ])
        refine wpAnyH_take (i := 12) (v := ?_) rfl (by kernel_rfl) (by kernel_rfl) (by kernel_rfl) (fun _ _ _ h => h) (Or.inl ⟨by rfl, ?_⟩) (by assumption) ?_
        rotate_left
        · intro w hSw; (try dsimp only at hSw); go_simp; (try with_reducible rfl)
        (try simp only [Act.put, List.getElem_toArray, List.getElem_cons_zero, List.getElem_cons_succ, Array.getInternal_eq_getElem, List.setIfInBounds_toArray, List.set_cons_zero, List.set_cons_succ])
        refine wpAnyH_take (i := 13) (v := ?_) rfl (by kernel_rfl) (by kernel_rfl) (by kernel_rfl) (fun _ _ _ h => h) (Or.inl ⟨by rfl, ?_⟩) (by assumption) ?_
        rotate_left
        · intro w hSw; (try dsimp only at hSw); go_simp; (try with_reducible rfl)
        (try simp only [Act.put, List.getElem_toArray, List.getElem_cons_zero, List.getElem_cons_succ, Array.getInternal_eq_getElem, List.setIfInBounds_toArray, List.set_cons_zero, List.set_cons_succ])
        refine wpAnyH_ready (rs := [14]) (by kernel_rfl) (by simp) ?_
        refine AllReadyH.cons rfl (fun K hK => ?_) AllReadyH.nil
        go_simp
        refine (sameth_any _ ((HV1.out.below hHeld.2).more hHeld.2.size) ((HV2.out.below hHeld.2).more hHeld.2.size) (Nat.le_refl _)).mono ?_
        rintro e V60 ⟨rfl, hb⟩
        have HBQ := Lib.hid (chain hHeld.2 hb)
        refine hK.out _ _ ⟨⟨kc HBQ.out a1, kc HBQ.out u0, kc HBQ.out u1, kc HBQ.out u2, kc HBQ.out u3, kc HBQ.out y1, kc HBQ.out c0, kc HBQ.out c1q, kc HBQ.out c2, kc HBQ.out c3, trivial⟩, HBQ.out⟩ (fun hHeld => ?_)
        clear hK K
        (try simp only [Act.put, List.getElem_toArray, List.getElem_cons_zero, List.getElem_cons_succ, Array.getInternal_eq_getElem, List.setIfInBounds_toArray, List.set_cons_zero, List.set_cons_succ])
        clear hb
        refine wpAnyH_take (i := 15) (v := ?_) rfl (by kernel_rfl) (by kernel_rfl) (by kernel_rfl) (fun _ _ _ h => h) (Or.inl ⟨by rfl, ?_⟩) (by assumption) ?_
        rotate_left
        · intro w hSw; (try dsimp only at hSw); go_simp; (try with_reducible rfl)
        (try simp only [Act.put, List.getElem_toArray, List.getElem_cons_zero, List.getElem_cons_succ, Array.getInternal_eq_getElem, List.setIfInBounds_toArray, List.set_cons_zero, List.set_cons_succ])
        refine wpAnyH_take (i := 16) (v := ?_) rfl (by kernel_rfl) (by kernel_rfl) (by kernel_rfl) (fun _ _ _ h => h) (Or.inl ⟨by rfl, ?_⟩) (by assumption) ?_
        rotate_left
        · intro w hSw; (try dsimp only at hSw); go_simp; (try with_reducible rfl)
        (try simp only [Act.put, List.getElem_toArray, List.getElem_cons_zero, List.getElem_cons_succ, Array.getInternal_eq_getElem, List.setIfInBounds_toArray, List.set_cons_zero, List.set_cons_succ])
        refine wpAnyH_done (by kernel_rfl) ?_ _
        clear hHeld hne hqk' a1 u0 u1 u2 u3 y1 c0 c1q c2 c3
        go_wp2_with fail
        go_roundw
        case rel => exact ⟨q + 1, by omega, by go_num, chain HB.out HBQ.out⟩
        case measure => simp [intOf]; omega
      obtain ⟨wv, hwv⟩ : ∃ b : Bool, b = (decide (op = 3) || (decide (op = 4) || decide (op = 5))) := ⟨_, rfl⟩
      have HWV := Lib.hid hwv
      have HQxw := Lib.hid (HQx.out.below HB.out HQx.out.lt)
      have hge : ¬ q < s.ths.length := hlt
      clear hwv
      go_upto_region 15 with fail
      clear y1 a1 hge
      obtain ⟨Vw, hVw⟩ : ∃ W, W = wr := ⟨_, rfl⟩
      go_cut [13] (fun s13 wx => s13 = .bool wv ∧ wx = wr)
      case first =>
        have q0 := HQxw.out.cell 0 _ rfl
        by_cases o3 : op = 3
        · have p3 : (op == 3) = true := by rw [beq_iff_eq]; exact o3
          obtain rfl : wv = true := by rw [HWV.out]; simp [o3]
          clear o3
          go_wp2_with fail
          go_meet
          exact ⟨rfl, rfl⟩
        have p3 : (op == 3) = false := by rw [beq_eq_false_iff_ne]; exact o3
        by_cases o4 : op = 4
        · have p4 : (op == 4) = true := by rw [beq_iff_eq]; exact o4
          obtain rfl : wv = true := by rw [HWV.out]; simp [o4]
          clear o3 o4
          go_wp2_with fail
          go_meet
          exact ⟨rfl, rfl⟩
        have p4 : (op == 4) = false := by rw [beq_eq_false_iff_ne]; exact o4
        by_cases o5 : op = 5
        · have p5 : (op == 5) = true := by rw [beq_iff_eq]; exact o5
          obtain rfl : wv = true := by rw [HWV.out]; simp [o5]
          clear o3 o4 o5
          go_wp2_with fail
          go_meet
          exact ⟨rfl, rfl⟩
        · have p5 : (op == 5) = false := by rw [beq_eq_false_iff_ne]; exact o5
          obtain rfl : wv = false := by rw [HWV.out]; simp [o3, o4, o5]
          clear o3 o4 o5
          go_wp2_with fail
          go_meet
          exact ⟨rfl, rfl⟩
      case rest =>
      obtain ⟨rfl, hwc⟩ := hcut
      have hwc := hwc.symm
      subst hwc
      clear hVw Vw
      have HLY := Lib.hid HL.out
      have HBY := Lib.hid HB.out
      rename World => Wy
      obtain ⟨Wq, hWq⟩ : ∃ W, W = Wy := ⟨_, rfl⟩
      clear hWq Wq
      go_wp2
      go_loopw [14] (fun i wr => ∃ q : Nat, q ≤ s.mem.length ∧ i = .int .i64 q ∧ Below X10.heap.size X10 wr) (fun i _ => s.mem.length - (intOf i).toNat)
      case atStart => exact ⟨0, Nat.zero_le _, rfl, HBY.out⟩
      case round =>
        clear HL HO8w HQ8w HQxw HB
        obtain ⟨q, hq, rfl, hB⟩ := hrel
        have HB := Lib.hid hB
        have HL := Lib.hid (chain HLX.out hB)
        have HO8w := Lib.hid (HO8c.out.below hB)
        have HQ8w := Lib.hid (HQ8.out.below hB HQ8.out.lt)
        have HQxw := Lib.hid (HQx.out.below hB HQx.out.lt)
        clear hB
        have y0 := (HY.out.below HL.out HY.out.lt).cell 0 _ rfl
        have a0 := HQ8w.out.cell 0 _ rfl
        have q2 := HQxw.out.cell 2 _ rfl
        by_cases hlt : q < s.mem.length
        case pos =>
          have hl8 : q < (ScM.stM (⟨op, rg, lc, nn, tn⟩ : St) s.mem xr).length := by rw [stM_len]; exact hlt
          obtain ⟨gm8, cc, cum, em, hgm, hbm, cellm⟩ := own_nu HO8w.out.mem hl8
          rw [show (ScM.stM (⟨op, rg, lc, nn, tn⟩ : St) s.mem xr).length = s.mem.length from stM_len _ _ _] at em
          injection em with em1 em3 em2
          clear em3
          subst em1 em2
          obtain ⟨z8, hz8⟩ : ∃ z, z = (ScM.stM (⟨op, rg, lc, nn, tn⟩ : St) s.mem xr)[q] := ⟨_, rfl⟩
          obtain ⟨zq, hzq⟩ : ∃ z, z = s.mem[q] := ⟨_, rfl⟩
          have mm : wr.cell? ⟨gm8, q, none⟩ = some (.int .i64 z8) := by rw [hz8]; exact cellm
          have HV8 := Lib.hid (show z8 = if lc.toNat = q then (if op = 3 ∨ op = 5 then nth xr rg else if op = 4 then nn else zq) else zq from by rw [hz8, stM_at _ _ _ q hlt, ← hzq])
          obtain ⟨bm, fm, rfl, hbm2, hcm⟩ := nu_at (c := c7) HM3.out (by omega)
          have mq := ((HTB.out _ HL.out).cell (p := ⟨bm, fm + q, none⟩) hbm2).trans (hcm q hlt)
          rw [← hzq] at mq
          clear cellm hbm hgm hz8 hzq hcm
          by_cases hzz : z8 = zq
          case pos =>
            subst hzz
            have hne : (z8 != z8) = false := by rw [bne_eq_false_iff_eq]
            go_upto_region 19 with fail
            refine wp_region_held_drew (S := (fun w' => w'.cell? ⟨g8, 0, none⟩ = some (.slice (some ⟨gm8, 0, none⟩) s.mem.length c8) ∧ w'.cell? ⟨gm8, q, none⟩ = some (.int .i64 z8) ∧ w'.cell? ⟨gs, 0, none⟩ = some (.slice (some ⟨bm, fm, none⟩) s.mem.length c7) ∧ w'.cell? ⟨bm, fm + q, none⟩ = some (.int .i64 z8) ∧ w'.cell? ⟨g10, 2, none⟩ = some (.int .i64 lc) ∧ True)) (by kernel_rfl) ⟨a0, mm, y0, mq, q2, trivial⟩ (fun hHeld => ?_)
            refine wpAnyH_take (i := 0) (v := ?_) rfl (by kernel_rfl) (by kernel_rfl) (by kernel_rfl) (fun _ _ _ h => h) (Or.inl ⟨by rfl, ?_⟩) (by assumption) ?_
            rotate_left
            · intro w hSw; (try dsimp only at hSw); go_simp; (try with_reducible rfl)
            (try simp only [Act.put, List.getElem_toArray, List.getElem_cons_zero, List.getElem_cons_succ, Array.getInternal_eq_getElem, List.setIfInBounds_toArray, List.set_cons_zero, List.set_cons_succ])
            refine wpAnyH_take (i := 1) (v := ?_) rfl (by kernel_rfl) (by kernel_rfl) (by kernel_rfl) (fun _ _ _ h => h) (Or.inl ⟨by rfl, ?_⟩) (by assumption) ?_
            rotate_left
            · intro w hSw; (try dsimp only at hSw); go_simp; (try with_reducible rfl)
            (try simp only [Act.put, List.getElem_toArray, List.getElem_cons_zero, List.getElem_cons_succ, Array.getInternal_eq_getElem, List.setIfInBounds_toArray, List.set_cons_zero, List.set_cons_succ])
            refine wpAnyH_take (i := 2) (v := ?_) rfl (by kernel_rfl) (by kernel_rfl) (by kernel_rfl) (fun _ _ _ h => h) (Or.inl ⟨by rfl, ?_⟩) (by assumption) ?_
            rotate_left
            · intro w hSw; (try dsimp only at hSw); go_simp; (try with_reducible rfl)
            (try simp only [Act.put, List.getElem_toArray, List.getElem_cons_zero, List.getElem_cons_succ, Array.getInternal_eq_getElem, List.setIfInBounds_toArray, List.set_cons_zero, List.set_cons_succ])
            refine wpAnyH_take (i := 3) (v := ?_) rfl (by kernel_rfl) (by kernel_rfl) (by kernel_rfl) (fun _ _ _ h => h) (Or.inl ⟨by rfl, ?_⟩) (by assumption) ?_
            rotate_left
            · intro w hSw; (try dsimp only at hSw); go_simp; (try with_reducible rfl)
            (try simp only [Act.put, List.getElem_toArray, List.getElem_cons_zero, List.getElem_cons_succ, Array.getInternal_eq_getElem, List.setIfInBounds_toArray, List.set_cons_zero, List.set_cons_succ])
            refine wpAnyH_take (i := 4) (v := ?_) rfl (by kernel_rfl) (by kernel_rfl) (by kernel_rfl) (fun _ _ _ h => h) (Or.inl ⟨by rfl, ?_⟩) (by assumption) ?_
            rotate_left
            · intro w hSw; (try dsimp only at hSw); go_simp; (try with_reducible rfl)
            (try simp only [Act.put, List.getElem_toArray, List.getElem_cons_zero, List.getElem_cons_succ, Array.getInternal_eq_getElem, List.setIfInBounds_toArray, List.set_cons_zero, List.set_cons_succ])
            refine wpAnyH_take (i := 5) (v := ?_) rfl (by kernel_rfl) (by kernel_rfl) (by kernel_rfl) (fun _ _ _ h => h) (Or.inl ⟨by rfl, ?_⟩) (by assumption) ?_
            rotate_left
            · intro w hSw; (try dsimp only at hSw); go_simp; (try with_reducible rfl)
            (try simp only [Act.put, List.getElem_toArray, List.getElem_cons_zero, List.getElem_cons_succ, Array.getInternal_eq_getElem, List.setIfInBounds_toArray, List.set_cons_zero, List.set_cons_succ])
            refine wpAnyH_take (i := 6) (v := ?_) rfl (by kernel_rfl) (by kernel_rfl) (by kernel_rfl) (fun _ _ _ h => h) (Or.inl ⟨by rfl, ?_⟩) (by assumption) ?_
            rotate_left
            · intro w hSw; (try dsimp only at hSw); go_simp; (try with_reducible rfl)
            (try simp only [Act.put, List.getElem_toArray, List.getElem_cons_zero, List.getElem_cons_succ, Array.getInternal_eq_getElem, List.setIfInBounds_toArray, List.set_cons_zero, List.set_cons_succ])
            refine wpAnyH_take (i := 7) (v := ?_) rfl (by kernel_rfl) (by kernel_rfl) (by kernel_rfl) (fun _ _ _ h => h) (Or.inl ⟨by rfl, ?_⟩) (by assumption) ?_
            rotate_left
            · intro w hSw; (try dsimp only at hSw); go_simp; (try with_reducible rfl)
            (try simp only [Act.put, List.getElem_toArray, List.getElem_cons_zero, List.getElem_cons_succ, Array.getInternal_eq_getElem, List.setIfInBounds_toArray, List.set_cons_zero, List.set_cons_succ])
            refine wpAnyH_take (i := 8) (v := ?_) rfl (by kernel_rfl) (by kernel_rfl) (by kernel_rfl) (fun _ _ _ h => h) (Or.inl ⟨by rfl, ?_⟩) (by assumption) ?_
            rotate_left
            · intro w hSw; (try dsimp only at hSw); go_simp; (try with_reducible rfl)
            (try simp only [Act.put, List.getElem_toArray, List.getElem_cons_zero, List.getElem_cons_succ, Array.getInternal_eq_getElem, List.setIfInBounds_toArray, List.set_cons_zero, List.set_cons_succ])
            refine wpAnyH_take (i := 9) (v := ?_) rfl (by kernel_rfl) (by kernel_rfl) (by kernel_rfl) (fun _ _ _ h => h) (Or.inl ⟨by rfl, ?_⟩) (by assumption) ?_
            rotate_left
            · intro w hSw; (try dsimp only at hSw); go_simp; (try with_reducible rfl)
            (try simp only [Act.put, List.getElem_toArray, List.getElem_cons_zero, List.getElem_cons_succ, Array.getInternal_eq_getElem, List.setIfInBounds_toArray, List.set_cons_zero, List.set_cons_succ])
            refine wpAnyH_take (i := 10) (v := ?_) rfl (by kernel_rfl) (by kernel_rfl) (by kernel_rfl) (fun _ _ _ h => h) (Or.inl ⟨by rfl, ?_⟩) (by assumption) ?_
            rotate_left
            · intro w hSw; (try dsimp only at hSw); go_simp; (try with_reducible rfl)
            (try simp only [Act.put, List.getElem_toArray, List.getElem_cons_zero, List.getElem_cons_succ, Array.getInternal_eq_getElem, List.setIfInBounds_toArray, List.set_cons_zero, List.set_cons_succ])
            refine wpAnyH_take (i := 11) (v := ?_) rfl (by kernel_rfl) (by kernel_rfl) (by kernel_rfl) (fun _ _ _ h => h) (Or.inl ⟨by rfl, ?_⟩) (by assumption) ?_
            rotate_left
            · intro w hSw; (try dsimp only at hSw); go_simp; (try with_reducible rfl)
            (try simp only [Act.put, List.getElem_toArray, List.getElem_cons_zero, List.getElem_cons_succ, Array.getInternal_eq_getElem, List.setIfInBounds_toArray, List.set_cons_zero, List.set_cons_succ])
            refine wpAnyH_take (i := 12) (v := undef) rfl (by kernel_rfl) (by kernel_rfl) (by kernel_rfl) (fun _ _ _ h => h) (Or.inr ⟨by rfl, rfl⟩) (by assumption) ?_
            (try simp only [Act.put, List.getElem_toArray, List.getElem_cons_zero, List.getElem_cons_succ, Array.getInternal_eq_getElem, List.setIfInBounds_toArray, List.set_cons_zero, List.set_cons_succ])
            refine wpAnyH_take (i := 13) (v := undef) rfl (by kernel_rfl) (by kernel_rfl) (by kernel_rfl) (fun _ _ _ h => h) (Or.inr ⟨by rfl, rfl⟩) (by assumption) ?_
            (try simp only [Act.put, List.getElem_toArray, List.getElem_cons_zero, List.getElem_cons_succ, Array.getInternal_eq_getElem, List.setIfInBounds_toArray, List.set_cons_zero, List.set_cons_succ])
            refine wpAnyH_take (i := 14) (v := undef) rfl (by kernel_rfl) (by kernel_rfl) (by kernel_rfl) (fun _ _ _ h => h) (Or.inr ⟨by rfl, rfl⟩) (by assumption) ?_
            (try simp only [Act.put, List.getElem_toArray, List.getElem_cons_zero, List.getElem_cons_succ, Array.getInternal_eq_getElem, List.setIfInBounds_toArray, List.set_cons_zero, List.set_cons_succ])
            refine wpAnyH_take (i := 15) (v := undef) rfl (by kernel_rfl) (by kernel_rfl) (by kernel_rfl) (fun _ _ _ h => h) (Or.inr ⟨by rfl, rfl⟩) (by assumption) ?_
            (try simp only [Act.put, List.getElem_toArray, List.getElem_cons_zero, List.getElem_cons_succ, Array.getInternal_eq_getElem, List.setIfInBounds_toArray, List.set_cons_zero, List.set_cons_succ])
            refine wpAnyH_take (i := 16) (v := undef) rfl (by kernel_rfl) (by kernel_rfl) (by kernel_rfl) (fun _ _ _ h => h) (Or.inr ⟨by rfl, rfl⟩) (by assumption) ?_
            (try simp only [Act.put, List.getElem_toArray, List.getElem_cons_zero, List.getElem_cons_succ, Array.getInternal_eq_getElem, List.setIfInBounds_toArray, List.set_cons_zero, List.set_cons_succ])
            refine wpAnyH_take (i := 17) (v := undef) rfl (by kernel_rfl) (by kernel_rfl) (by kernel_rfl) (fun _ _ _ h => h) (Or.inr ⟨by rfl, rfl⟩) (by assumption) ?_
            (try simp only [Act.put, List.getElem_toArray, List.getElem_cons_zero, List.getElem_cons_succ, Array.getInternal_eq_getElem, List.setIfInBounds_toArray, List.set_cons_zero, List.set_cons_succ])
            refine wpAnyH_take (i := 18) (v := undef) rfl (by kernel_rfl) (by kernel_rfl) (by kernel_rfl) (fun _ _ _ h => h) (Or.inr ⟨by rfl, rfl⟩) (by assumption) ?_
            (try simp only [Act.put, List.getElem_toArray, List.getElem_cons_zero, List.getElem_cons_succ, Array.getInternal_eq_getElem, List.setIfInBounds_toArray, List.set_cons_zero, List.set_cons_succ])
            refine wpAnyH_take (i := 19) (v := undef) rfl (by kernel_rfl) (by kernel_rfl) (by kernel_rfl) (fun _ _ _ h => h) (Or.inr ⟨by rfl, rfl⟩) (by assumption) ?_
            (try simp only [Act.put, List.getElem_toArray, List.getElem_cons_zero, List.getElem_cons_succ, Array.getInternal_eq_getElem, List.setIfInBounds_toArray, List.set_cons_zero, List.set_cons_succ])
            refine wpAnyH_take (i := 20) (v := ?_) rfl (by kernel_rfl) (by kernel_rfl) (by kernel_rfl) (fun _ _ _ h => h) (Or.inl ⟨by rfl, ?_⟩) (by assumption) ?_
            rotate_left
            · intro w hSw; (try dsimp only at hSw); go_simp; (try with_reducible rfl)
            (try simp only [Act.put, List.getElem_toArray, List.getElem_cons_zero, List.getElem_cons_succ, Array.getInternal_eq_getElem, List.setIfInBounds_toArray, List.set_cons_zero, List.set_cons_succ])
            refine wpAnyH_done (by kernel_rfl) ?_ _
            clear hHeld hne a0 mm y0 mq q2
            go_wp2_with fail
            go_roundw
            case rel => exact ⟨q + 1, by omega, by go_num, HB.out.drew⟩
            case measure => simp [intOf]; omega
          have hw : (op = 3 ∨ op = 4 ∨ op = 5) ∧ lc.toNat = q := by
            have h := HV8.out
            by_cases e : lc.toNat = q
            · refine ⟨?_, e⟩
              rw [if_pos e] at h
              by_cases o : op = 3 ∨ op = 5
              · rcases o with o | o
                · exact Or.inl o
                · exact Or.inr (Or.inr o)
              · rw [if_neg o] at h
                by_cases o4 : op = 4
                · exact Or.inr (Or.inl o4)
                · rw [if_neg o4] at h; exact absurd h hzz
            · rw [if_neg e] at h; exact absurd h hzz
          have hwt : wv = true := by
            rw [HWV.out]
            rcases hw.1 with o | o | o <;> simp [o]
          have hlc : lc = (q : Int) := by
            have h := HX8.out.loc (by show CodM.hLoc op = true; rcases hw.1 with o | o | o <;> (rw [o]; rfl))
            dsimp only at h
            have := hw.2
            omega
          have hne : (z8 != zq) = true := by rw [bne_iff_ne]; exact hzz
          subst hwt
          rw [hlc] at q2
          have hqq : ((q : Int) != (q : Int)) = false := by rw [bne_eq_false_iff_eq]
          clear hw hlc hzz
          go_upto_region 19 with fail
          refine wp_region_held_drew (S := (fun w' => w'.cell? ⟨g8, 0, none⟩ = some (.slice (some ⟨gm8, 0, none⟩) s.mem.length c8) ∧ w'.cell? ⟨gm8, q, none⟩ = some (.int .i64 z8) ∧ w'.cell? ⟨gs, 0, none⟩ = some (.slice (some ⟨bm, fm, none⟩) s.mem.length c7) ∧ w'.cell? ⟨bm, fm + q, none⟩ = some (.int .i64 zq) ∧ w'.cell? ⟨g10, 2, none⟩ = some (.int .i64 (q : Int)) ∧ True)) (by kernel_rfl) ⟨a0, mm, y0, mq, q2, trivial⟩ (fun hHeld => ?_)
          refine wpAnyH_take (i := 0) (v := ?_) rfl (by kernel_rfl) (by kernel_rfl) (by kernel_rfl) (fun _ _ _ h => h) (Or.inl ⟨by rfl, ?_⟩) (by assumption) ?_
          rotate_left
          · intro w hSw; (try dsimp only at hSw); go_simp; (try with_reducible rfl)
          (try simp only [Act.put, List.getElem_toArray, List.getElem_cons_zero, List.getElem_cons_succ, Array.getInternal_eq_getElem, List.setIfInBounds_toArray, List.set_cons_zero, List.set_cons_succ])
          refine wpAnyH_take (i := 1) (v := ?_) rfl (by kernel_rfl) (by kernel_rfl) (by kernel_rfl) (fun _ _ _ h => h) (Or.inl ⟨by rfl, ?_⟩) (by assumption) ?_
          rotate_left
          · intro w hSw; (try dsimp only at hSw); go_simp; (try with_reducible rfl)
          (try simp only [Act.put, List.getElem_toArray, List.getElem_cons_zero, List.getElem_cons_succ, Array.getInternal_eq_getElem, List.setIfInBounds_toArray, List.set_cons_zero, List.set_cons_succ])
          refine wpAnyH_take (i := 2) (v := ?_) rfl (by kernel_rfl) (by kernel_rfl) (by kernel_rfl) (fun _ _ _ h => h) (Or.inl ⟨by rfl, ?_⟩) (by assumption) ?_
          rotate_left
          · intro w hSw; (try dsimp only at hSw); go_simp; (try with_reducible rfl)
          (try simp only [Act.put, List.getElem_toArray, List.getElem_cons_zero, List.getElem_cons_succ, Array.getInternal_eq_getElem, List.setIfInBounds_toArray, List.set_cons_zero, List.set_cons_succ])
          refine wpAnyH_take (i := 3) (v := ?_) rfl (by kernel_rfl) (by kernel_rfl) (by kernel_rfl) (fun _ _ _ h => h) (Or.inl ⟨by rfl, ?_⟩) (by assumption) ?_
          rotate_left
          · intro w hSw; (try dsimp only at hSw); go_simp; (try with_reducible rfl)
          (try simp only [Act.put, List.getElem_toArray, List.getElem_cons_zero, List.getElem_cons_succ, Array.getInternal_eq_getElem, List.setIfInBounds_toArray, List.set_cons_zero, List.set_cons_succ])
          refine wpAnyH_take (i := 4) (v := ?_) rfl (by kernel_rfl) (by kernel_rfl) (by kernel_rfl) (fun _ _ _ h => h) (Or.inl ⟨by rfl, ?_⟩) (by assumption) ?_
          rotate_left
          · intro w hSw; (try dsimp only at hSw); go_simp; (try with_reducible rfl)
          (try simp only [Act.put, List.getElem_toArray, List.getElem_cons_zero, List.getElem_cons_succ, Array.getInternal_eq_getElem, List.setIfInBounds_toArray, List.set_cons_zero, List.set_cons_succ])
          refine wpAnyH_take (i := 5) (v := ?_) rfl (by kernel_rfl) (by kernel_rfl) (by kernel_rfl) (fun _ _ _ h => h) (Or.inl ⟨by rfl, ?_⟩) (by assumption) ?_
          rotate_left
          · intro w hSw; (try dsimp only at hSw); go_simp; (try with_reducible rfl)
          (try simp only [Act.put, List.getElem_toArray, List.getElem_cons_zero, List.getElem_cons_succ, Array.getInternal_eq_getElem, List.setIfInBounds_toArray, List.set_cons_zero, List.set_cons_succ])
          refine wpAnyH_take (i := 6) (v := ?_) rfl (by kernel_rfl) (by kernel_rfl) (by kernel_rfl) (fun _ _ _ h => h) (Or.inl ⟨by rfl, ?_⟩) (by assumption) ?_
          rotate_left
          · intro w hSw; (try dsimp only at hSw); go_simp; (try with_reducible rfl)
          (try simp only [Act.put, List.getElem_toArray, List.getElem_cons_zero, List.getElem_cons_succ, Array.getInternal_eq_getElem, List.setIfInBounds_toArray, List.set_cons_zero, List.set_cons_succ])
          refine wpAnyH_take (i := 7) (v := ?_) rfl (by kernel_rfl) (by kernel_rfl) (by kernel_rfl) (fun _ _ _ h => h) (Or.inl ⟨by rfl, ?_⟩) (by assumption) ?_
          rotate_left
          · intro w hSw; (try dsimp only at hSw); go_simp; (try with_reducible rfl)
          (try simp only [Act.put, List.getElem_toArray, List.getElem_cons_zero, List.getElem_cons_succ, Array.getInternal_eq_getElem, List.setIfInBounds_toArray, List.set_cons_zero, List.set_cons_succ])
          refine wpAnyH_take (i := 8) (v := ?_) rfl (by kernel_rfl) (by kernel_rfl) (by kernel_rfl) (fun _ _ _ h => h) (Or.inl ⟨by rfl, ?_⟩) (by assumption) ?_
          rotate_left
          · intro w hSw; (try dsimp only at hSw); go_simp; (try with_reducible rfl)
          (try simp only [Act.put, List.getElem_toArray, List.getElem_cons_zero, List.getElem_cons_succ, Array.getInternal_eq_getElem, List.setIfInBounds_toArray, List.set_cons_zero, List.set_cons_succ])
          refine wpAnyH_take (i := 9) (v := ?_) rfl (by kernel_rfl) (by kernel_rfl) (by kernel_rfl) (fun _ _ _ h => h) (Or.inl ⟨by rfl, ?_⟩) (by assumption) ?_
          rotate_left
          · intro w hSw; (try dsimp only at hSw); go_simp; (try with_reducible rfl)
          (try simp only [Act.put, List.getElem_toArray, List.getElem_cons_zero, List.getElem_cons_succ, Array.getInternal_eq_getElem, List.setIfInBounds_toArray, List.set_cons_zero, List.set_cons_succ])
          refine wpAnyH_take (i := 10) (v := ?_) rfl (by kernel_rfl) (by kernel_rfl) (by kernel_rfl) (fun _ _ _ h => h) (Or.inl ⟨by rfl, ?_⟩) (by assumption) ?_
          rotate_left
          · intro w hSw; (try dsimp only at hSw); go_simp; (try with_reducible rfl)
          (try simp only [Act.put, List.getElem_toArray, List.getElem_cons_zero, List.getElem_cons_succ, Array.getInternal_eq_getElem, List.setIfInBounds_toArray, List.set_cons_zero, List.set_cons_succ])
          refine wpAnyH_take (i := 11) (v := ?_) rfl (by kernel_rfl) (by kernel_rfl) (by kernel_rfl) (fun _ _ _ h => h) (Or.inl ⟨by rfl, ?_⟩) (by assumption) ?_
          rotate_left
          · intro w hSw; (try dsimp only at hSw); go_simp; (try with_reducible rfl)
          (try simp only [Act.put, List.getElem_toArray, List.getElem_cons_zero, List.getElem_cons_succ, Array.getInternal_eq_getElem, List.setIfInBounds_toArray, List.set_cons_zero, List.set_cons_succ])
          refine wpAnyH_take (i := 12) (v := ?_) rfl (by kernel_rfl) (by kernel_rfl) (by kernel_rfl) (fun _ _ _ h => h) (Or.inl ⟨by rfl, ?_⟩) (by assumption) ?_
          rotate_left
          · intro w hSw; (try dsimp only at hSw); go_simp; (try with_reducible rfl)
          (try simp only [Act.put, List.getElem_toArray, List.getElem_cons_zero, List.getElem_cons_succ, Array.getInternal_eq_getElem, List.setIfInBounds_toArray, List.set_cons_zero, List.set_cons_succ])
          refine wpAnyH_take (i := 13) (v := ?_) rfl (by kernel_rfl) (by kernel_rfl) (by kernel_rfl) (fun _ _ _ h => h) (Or.inl ⟨by rfl, ?_⟩) (by assumption) ?_
          rotate_left
          · intro w hSw; (try dsimp only at hSw); go_simp; (try with_reducible rfl)
          (try simp only [Act.put, List.getElem_toArray, List.getElem_cons_zero, List.getElem_cons_succ, Array.getInternal_eq_getElem, List.setIfInBounds_toArray, List.set_cons_zero, List.set_cons_succ])
          refine wpAnyH_take (i := 14) (v := ?_) rfl (by kernel_rfl) (by kernel_rfl) (by kernel_rfl) (fun _ _ _ h => h) (Or.inl ⟨by rfl, ?_⟩) (by assumption) ?_
          rotate_left
          · intro w hSw; (try dsimp only at hSw); go_simp; (try with_reducible rfl)
          (try simp only [Act.put, List.getElem_toArray, List.getElem_cons_zero, List.getElem_cons_succ, Array.getInternal_eq_getElem, List.setIfInBounds_toArray, List.set_cons_zero, List.set_cons_succ])
          refine wpAnyH_take (i := 15) (v := ?_) rfl (by kernel_rfl) (by kernel_rfl) (by kernel_rfl) (fun _ _ _ h => h) (Or.inl ⟨by rfl, ?_⟩) (by assumption) ?_
          rotate_left
          · intro w hSw; (try dsimp only at hSw); go_simp; (try with_reducible rfl)
          (try simp only [Act.put, List.getElem_toArray, List.getElem_cons_zero, List.getElem_cons_succ, Array.getInternal_eq_getElem, List.setIfInBounds_toArray, List.set_cons_zero, List.set_cons_succ])
          refine wpAnyH_take (i := 16) (v := ?_) rfl (by kernel_rfl) (by kernel_rfl) (by kernel_rfl) (fun _ _ _ h => h) (Or.inl ⟨by rfl, ?_⟩) (by assumption) ?_
          rotate_left
          · intro w hSw; (try dsimp only at hSw); go_simp; (try with_reducible rfl)
          (try simp only [Act.put, List.getElem_toArray, List.getElem_cons_zero, List.getElem_cons_succ, Array.getInternal_eq_getElem, List.setIfInBounds_toArray, List.set_cons_zero, List.set_cons_succ])
          refine wpAnyH_take (i := 17) (v := ?_) rfl (by kernel_rfl) (by kernel_rfl) (by kernel_rfl) (fun _ _ _ h => h) (Or.inl ⟨by rfl, ?_⟩) (by assumption) ?_
          rotate_left
          · intro w hSw; (try dsimp only at hSw); go_simp; (try with_reducible rfl)
          (try simp only [Act.put, List.getElem_toArray, List.getElem_cons_zero, List.getElem_cons_succ, Array.getInternal_eq_getElem, List.setIfInBounds_toArray, List.set_cons_zero, List.set_cons_succ])
          refine wpAnyH_take (i := 18) (v := ?_) rfl (by kernel_rfl) (by kernel_rfl) (by kernel_rfl) (fun _ _ _ h => h) (Or.inl ⟨by rfl, ?_⟩) (by assumption) ?_
          rotate_left
          · intro w hSw; (try dsimp only at hSw); go_simp; (try with_reducible rfl)
          (try simp only [Act.put, List.getElem_toArray, List.getElem_cons_zero, List.getElem_cons_succ, Array.getInternal_eq_getElem, List.setIfInBounds_toArray, List.set_cons_zero, List.set_cons_succ])
          refine wpAnyH_take (i := 19) (v := ?_) rfl (by kernel_rfl) (by kernel_rfl) (by kernel_rfl) (fun _ _ _ h => h) (Or.inl ⟨by rfl, ?_⟩) (by assumption) ?_
          rotate_left
          · intro w hSw; (try dsimp only at hSw); go_simp; (try with_reducible rfl)
          (try simp only [Act.put, List.getElem_toArray, List.getElem_cons_zero, List.getElem_cons_succ, Array.getInternal_eq_getElem, List.setIfInBounds_toArray, List.set_cons_zero, List.set_cons_succ])
          refine wpAnyH_take (i := 20) (v := ?_) rfl (by kernel_rfl) (by kernel_rfl) (by kernel_rfl) (fun _ _ _ h => h) (Or.inl ⟨by rfl, ?_⟩) (by assumption) ?_
          rotate_left
          · intro w hSw; (try dsimp only at hSw); go_simp; (try with_reducible rfl)
          (try simp only [Act.put, List.getElem_toArray, List.getElem_cons_zero, List.getElem_cons_succ, Array.getInternal_eq_getElem, List.setIfInBounds_toArray, List.set_cons_zero, List.set_cons_succ])
          refine wpAnyH_done (by kernel_rfl) ?_ _
          clear hHeld hne hqq a0 mm y0 mq q2
          go_wp2_with fail
          go_roundw
          case rel => exact ⟨q + 1, by omega, by go_num, HB.out.drew⟩
          case measure => simp [intOf]; omega
        have hge : ¬ q < s.mem.length := hlt
        obtain ⟨gv', cvv, curv, hev, -, -, t0, t1, t2, t3⟩ := HO8w.out.row HP8.out
        rw [show (⟨stM (⟨op, rg, lc, nn, tn⟩ : St) s.mem xr, s.ths.set k (stT (⟨op, rg, lc, nn, tn⟩ : St) s.mem ⟨(n : Int), xr, xe, xb⟩)⟩ : Sta).ths.length = s.ths.length from List.length_set] at hev
        injection hev with hev1 hev3 hev2
        injection hev1 with hev1
        injection hev1 with hev1
        clear hev3
        subst hev1 hev2
        obtain ⟨e1, e2, -⟩ := HO8w.out.each _ (List.getElem_mem HP8.out)
        rw [HT8.out] at e1 e2 t0 t2
        obtain ⟨vr9, hv1⟩ : ∃ v, v = (ps8[k]'HP8.out).vr := ⟨_, rfl⟩
        obtain ⟨vb9, hv2⟩ : ∃ v, v = (ps8[k]'HP8.out).vb := ⟨_, rfl⟩
        rw [← hv1] at e1 t1
        rw [← hv2] at e2 t3
        clear hv1 hv2
        have htb : (stT (⟨op, rg, lc, nn, tn⟩ : St) s.mem ⟨(n : Int), xr, xe, xb⟩).buf = xb := rfl
        rw [htb] at e2
        have HTBF := Lib.hid htb
        clear htb HT8
        generalize stT (⟨op, rg, lc, nn, tn⟩ : St) s.mem ⟨(n : Int), xr, xe, xb⟩ = tt at *
        obtain ⟨ta, tr, te, tb⟩ := tt
        obtain rfl : tb = xb := HTBF.out
        dsimp only at e1 e2 t0 t2
        have HV1 := Lib.hid (show ThV wr.heap.size wr (.agg #[.int .i64 ta, vr9, .bool te, vb9]) ⟨ta, tr, te, tb⟩ from ⟨_, _, rfl, Rw.own e1 (Nat.le_refl _), Rw.own e2 (Nat.le_refl _)⟩)
        have HV2 := Lib.hid (show ThV wr.heap.size wr (.agg #[.int .i64 ta, vr9, .bool te, .slice Ab tb.length cb]) ⟨ta, tr, te, tb⟩ from ⟨_, _, rfl, Rw.own e1 (Nat.le_refl _), (HWI.out.below (HTB.out _ HL.out)).more (Nat.le_trans HBW.out HL.out.size)⟩)
        obtain ⟨Ae, ce, rfl⟩ := own_slice e1
        obtain ⟨Af, cf, rfl⟩ := own_slice e2
        have HT0' := Lib.hid t0
        have HT1' := Lib.hid t1
        have HT2' := Lib.hid t2
        have HT3' := Lib.hid t3
        have a1 := HQ8w.out.cell 1 _ rfl
        clear a0 q2 e1 e2
        go_upto_region 22 with fail
        obtain ⟨X15, hX⟩ : ∃ W, W = wr.alloc (.cells #[.int .i64 ta, .slice Ae tr.length ce, .bool te, .slice Af tb.length cf] 45) := ⟨_, rfl⟩
        obtain ⟨g15, hg⟩ : ∃ g, g = wr.heap.size := ⟨_, rfl⟩
        have HS1 := Lib.hid (show Below wr.heap.size wr X15 from by rw [hX]; exact below_al (Below.refl _ _) _)
        have HQ15 := Lib.hid (show BoxC X15 g15 45 #[.int .i64 ta, .slice Ae tr.length ce, .bool te, .slice Af tb.length cf] from by rw [hX, hg]; exact BoxC.new wr _ _)
        have HG15 := Lib.hid (show wr.heap.size ≤ g15 from by omega)
        rw [← hX]
        (try rw [← hg])
        clear hX hg t0 t1 t2 t3 a1 y0 hge
        have HLa := Lib.hid (chain HL.out HS1.out)
        have y1 := (HY.out.below HLa.out HY.out.lt).cell 1 _ rfl
        have c3 := HC3.out _ HLa.out
        have z3 := HQ15.out.cell 3 _ rfl
        have w3 := HQ15.out.frozen 3
        go_upto_region 23 with fail
        obtain ⟨X16, hX⟩ : ∃ W, W = X15.setCell ⟨g15, 3, none⟩ (.slice Ab tb.length cb) := ⟨_, rfl⟩
        have HS2 := Lib.hid (show Below wr.heap.size wr X16 from by rw [hX]; exact HS1.out.setCell (p := ⟨g15, 3, none⟩) HG15.out _)
        have HQ16 := Lib.hid (show BoxC X16 g15 45 #[.int .i64 ta, .slice Ae tr.length ce, .bool te, .slice Ab tb.length cb] from by rw [hX]; exact HQ15.out.set 3 _)
        rw [← hX]
        clear hX y1 c3 z3 w3
        have HLb := Lib.hid (chain HL.out HS2.out)
        have a1 := (HQ8w.out.below HS2.out HQ8w.out.lt).cell 1 _ rfl
        have t0 := kc HS2.out HT0'.out
        have t1 := kc HS2.out HT1'.out
        have t2 := kc HS2.out HT2'.out
        have t3 := kc HS2.out HT3'.out
        have z0 := HQ16.out.cell 0 _ rfl
        have z1 := HQ16.out.cell 1 _ rfl
        have z2 := HQ16.out.cell 2 _ rfl
        have z3 := HQ16.out.cell 3 _ rfl
        refine wp_region_held_drew (S := (fun w' => (w'.cell? ⟨g8, 1, none⟩ = some (.slice (some ⟨gv, 0, none⟩) s.ths.length e8) ∧ w'.cell? ⟨gv, k * 4, none⟩ = some (.int .i64 ta) ∧ w'.cell? ⟨gv, k * 4 + 1, none⟩ = some (.slice Ae tr.length ce) ∧ w'.cell? ⟨gv, k * 4 + 2, none⟩ = some (.bool te) ∧ w'.cell? ⟨gv, k * 4 + 3, none⟩ = some (.slice Af tb.length cf) ∧ w'.cell? ⟨g15, 0, none⟩ = some (.int .i64 ta) ∧ w'.cell? ⟨g15, 1, none⟩ = some (.slice Ae tr.length ce) ∧ w'.cell? ⟨g15, 2, none⟩ = some (.bool te) ∧ w'.cell? ⟨g15, 3, none⟩ = some (.slice Ab tb.length cb) ∧ True) ∧ Below X16.heap.size X16 w')) (by kernel_rfl) ⟨⟨a1, t0, t1, t2, t3, z0, z1, z2, z3, trivial⟩, below_drewN (Below.refl _ _) 1⟩ (fun hHeld => ?_)
        refine wpAnyH_take (i := 0) (v := ?_) rfl (by kernel_rfl) (by kernel_rfl) (by kernel_rfl) (fun _ _ _ h => h) (Or.inl ⟨by rfl, ?_⟩) (by assumption) ?_
        rotate_left
        · intro w hSw; (try dsimp only at hSw); go_simp; (try with_reducible rfl)
        (try simp only [Act.put, List.getElem_toArray, List.getElem_cons_zero, List.getElem_cons_succ, Array.getInternal_eq_getElem, List.setIfInBounds_toArray, List.set_cons_zero, List.set_cons_succ])
        refine wpAnyH_take (i := 1) (v := ?_) rfl (by kernel_rfl) (by kernel_rfl) (by kernel_rfl) (fun _ _ _ h => h) (Or.inl ⟨by rfl, ?_⟩) (by assumption) ?_
        rotate_left
        · intro w hSw; (try dsimp only at hSw); go_simp; (try with_reducible rfl)
        (try simp only [Act.put, List.getElem_toArray, List.getElem_cons_zero, List.getElem_cons_succ, Array.getInternal_eq_getElem, List.setIfInBounds_toArray, List.set_cons_zero, List.set_cons_succ])
        refine wpAnyH_take (i := 2) (v := ?_) rfl (by kernel_rfl) (by kernel_rfl) (by kernel_rfl) (fun _ _ _ h => h) (Or.inl ⟨by rfl, ?_⟩) (by assumption) ?_
        rotate_left
        · intro w hSw; (try dsimp only at hSw); go_simp; (try with_reducible rfl)
        (try simp only [Act.put, List.getElem_toArray, List.getElem_cons_zero, List.getElem_cons_succ, Array.getInternal_eq_getElem, List.setIfInBounds_toArray, List.set_cons_zero, List.set_cons_succ])
        refine wpAnyH_take (i := 3) (v := ?_) rfl (by kernel_rfl) (by kernel_rfl) (by kernel_rfl) (fun _ _ _ h => h) (Or.inl ⟨by rfl, ?_⟩) (by assumption) ?_
        rotate_left
        · intro w hSw; (try dsimp only at hSw); go_simp; (try with_reducible rfl)
        (try simp only [Act.put, List.getElem_toArray, List.getElem_cons_zero, List.getElem_cons_succ, Array.getInternal_eq_getElem, List.setIfInBounds_toArray, List.set_cons_zero, List.set_cons_succ])
        refine wpAnyH_take (i := 4) (v := ?_) rfl (by kernel_rfl) (by kernel_rfl) (by kernel_rfl) (fun _ _ _ h => h) (Or.inl ⟨by rfl, ?_⟩) (by assumption) ?_
        rotate_left
        · intro w hSw; (try dsimp only at hSw); go_simp; (try with_reducible rfl)
        (try simp only [Act.put, List.getElem_toArray, List.getElem_cons_zero, List.getElem_cons_succ, Array.getInternal_eq_getElem, List.setIfInBounds_toArray, List.set_cons_zero, List.set_cons_succ])
        refine wpAnyH_take (i := 5) (v := ?_) rfl (by kernel_rfl) (by kernel_rfl) (by kernel_rfl) (fun _ _ _ h => h) (Or.inl ⟨by rfl, ?_⟩) (by assumption) ?_
        rotate_left
        · intro w hSw; (try dsimp only at hSw); go_simp; (try with_reducible rfl)
        (try simp only [Act.put, List.getElem_toArray, List.getElem_cons_zero, List.getElem_cons_succ, Array.getInternal_eq_getElem, List.setIfInBounds_toArray, List.set_cons_zero, List.set_cons_succ])
        refine wpAnyH_take (i := 6) (v := ?_) rfl (by kernel_rfl) (by kernel_rfl) (by kernel_rfl) (fun _ _ _ h => h) (Or.inl ⟨by rfl, ?_⟩) (by assumption) ?_
        rotate_left
        · intro w hSw; (try dsimp only at hSw); go_simp; (try with_reducible rfl)
        (try simp only [Act.put, List.getElem_toArray, List.getElem_cons_zero, List.getElem_cons_succ, Array.getInternal_eq_getElem, List.setIfInBounds_toArray, List.set_cons_zero, List.set_cons_succ])
        refine wpAnyH_take (i := 7) (v := ?_) rfl (by kernel_rfl) (by kernel_rfl) (by kernel_rfl) (fun _ _ _ h => h) (Or.inl ⟨by rfl, ?_⟩) (by assumption) ?_
        rotate_left
        · intro w hSw; (try dsimp only at hSw); go_simp; (try with_reducible rfl)
        (try simp only [Act.put, List.getElem_toArray, List.getElem_cons_zero, List.getElem_cons_succ, Array.getInternal_eq_getElem, List.setIfInBounds_toArray, List.set_cons_zero, List.set_cons_succ])
        refine wpAnyH_ready (rs := [8]) (by kernel_rfl) (by simp) ?_
        refine AllReadyH.cons rfl (fun K hK => ?_) AllReadyH.nil
        have HBE := Lib.hid (chain HS2.out hHeld.2)
        go_simp
        refine (sameth_any _ ((HV1.out.below HBE.out).more HBE.out.size) ((HV2.out.below HBE.out).more HBE.out.size) (Nat.le_refl _)).mono ?_
        rintro e V70 ⟨rfl, hb⟩
        have HBQ := Lib.hid (chain hHeld.2 hb)
        refine hK.out _ _ ⟨⟨kc HBQ.out a1, kc HBQ.out t0, kc HBQ.out t1, kc HBQ.out t2, kc HBQ.out t3, kc HBQ.out z0, kc HBQ.out z1, kc HBQ.out z2, kc HBQ.out z3, trivial⟩, HBQ.out⟩ (fun hHeld => ?_)
        clear hK K
        (try simp only [Act.put, List.getElem_toArray, List.getElem_cons_zero, List.getElem_cons_succ, Array.getInternal_eq_getElem, List.setIfInBounds_toArray, List.set_cons_zero, List.set_cons_succ])
        clear hb
        refine wpAnyH_take (i := 9) (v := ?_) rfl (by kernel_rfl) (by kernel_rfl) (by kernel_rfl) (fun _ _ _ h => h) (Or.inl ⟨by rfl, ?_⟩) (by assumption) ?_
        rotate_left
        · intro w hSw; (try dsimp only at hSw); go_simp; (try with_reducible rfl)
        (try simp only [Act.put, List.getElem_toArray, List.getElem_cons_zero, List.getElem_cons_succ, Array.getInternal_eq_getElem, List.setIfInBounds_toArray, List.set_cons_zero, List.set_cons_succ])
        refine wpAnyH_ready (rs := [10]) (by kernel_rfl) (by simp) ?_
        refine AllReadyH.cons rfl (fun K hK => ?_) AllReadyH.nil
        go_simp
        refine hK.out _ _ hHeld (fun hHeld => ?_)
        clear hK K
        (try simp only [Act.put, List.getElem_toArray, List.getElem_cons_zero, List.getElem_cons_succ, Array.getInternal_eq_getElem, List.setIfInBounds_toArray, List.set_cons_zero, List.set_cons_succ])
        refine wpAnyH_done (by kernel_rfl) ?_ _
        clear hHeld a1 t0 t1 t2 t3 z0 z1 z2 z3
        go_wp2
        go_ret
        exact ⟨rfl, chain HB2.out (chain HLb.out HBQ.out)⟩
end Go.Proofs.Ytoeginglmgjojaa
