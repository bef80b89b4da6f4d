/-
  LAYER 14: the walk of CrossWithin.
-/
import Derived.Test.YtlpjgaeelnlipaaCri
import Derived.Test.YtlpjgaeelnlipaaK32
import Derived.Test.YtlpjgaeelnlipaaK10
import Derived.Deep.RegionHeld3
import Derived.Deep.DeepCutAuto
namespace Go.Proofs.Ytlpjgaeelnlipaa
open Go.RowKit
set_option linter.unusedVariables false
set_option linter.unusedSimpArgs false
open CodM (St Pg rightP)
open BfM (Wr plc)
open ScM
open SlM
open CrM

theorem within_ks {P : Pg} (hr : rightP P = true) {l : List (Int × Bool)} {ks : List Int} (h : RisF (crF (wysS P (beg P) l)) ks) : ∀ j (hj : j < ks.length), ∃ t k, ∃ (ht : t < P.ths.length) (hk : k < P.ths[t].length), ks[j] = ((ahd anyS P.ths t + k : Nat) : Int) ∧ P.ths[t][k].op ≠ 6 ∧ P.ths[t][k].op ≠ 5 := fun j hj => by
  have h1 := (h.2 ks[j]).1 (List.getElem_mem hj)
  unfold crF at h1
  obtain ⟨y, hy, hc⟩ := List.any_eq_true.1 h1
  simp only [Bool.and_eq_true, decide_eq_true_eq] at hc
  obtain ⟨t, k, ht, hk, e, h6, h5⟩ := crossed_step hr l (beg_ok P) y hy hc.1
  exact ⟨t, k, ht, hk, hc.2.trans e, h6, h5⟩
set_option maxHeartbeats 16000000 in
set_option maxRecDepth 100000 in
theorem crosswithin_any {B : Nat} {v vl : Value} {P : Pg} {l : List (Int × Bool)}  (w : World) (hv : PgZ B w v P) (hl : KiR B w vl l) (hBB : B ≤ w.heap.size) :
    Calls Try.prog 3 #[v, vl] w fun e w' => e = .returned (.bool true) ∧ Below w.heap.size w w' := by
  have HPZ := Lib.hid (fun W (hW : Below w.heap.size w W) => (show PgZ W.heap.size W v P from (hv.below (hW.mono hBB)).more (Nat.le_trans hBB hW.size)))
  have HKL := Lib.hid (fun W (hW : Below w.heap.size w W) => (show KiR W.heap.size W vl l from (hl.below (hW.mono hBB)).more (Nat.le_trans hBB hW.size)))
  skip
  obtain ⟨pi, pt, rfl, hpm, -⟩ := hv
  obtain ⟨⟨P0, d0, rfl, -⟩, ⟨P1, d1, rfl, l1, l2, l3⟩⟩ := hpm
  obtain ⟨Al, cl, rfl, q1, q2, q0, q3⟩ := hl
  unfold maxLen at l2 q2
  skip
  skip
  have HL3 := Lib.hid l3
  clear l3 q3 q0
  obtain ⟨W2, hW2⟩ : ∃ W, W = w.alloc (.cells #[.slice P0 P.init.length d0, .slice P1 P.ths.length d1] 25) := ⟨_, rfl⟩
  obtain ⟨gp, hgp⟩ : ∃ g, g = w.heap.size := ⟨_, rfl⟩
  have HX := Lib.hid (show BoxC W2 gp 25 #[.slice P0 P.init.length d0, .slice P1 P.ths.length d1] from by rw [hW2, hgp]; exact BoxC.new w _ _)
  have HB := Lib.hid (show Below w.heap.size w W2 from by rw [hW2]; exact below_al (Below.refl _ _) _)
  go_enter Try.func3, Try.ntmps3
  go_upto_region 1 with fail
  rw [← hW2]
  (try rw [← hgp])
  clear hW2 hgp
  go_wp2_with fail
  refine (head14_any _).mono ?_
  rintro e V1 ⟨rfl, hb⟩
  have HST := Lib.hid hb
  clear hb
  replace HX := Lib.hid (HX.out.below HST.out HX.out.lt)
  replace HB := Lib.hid (chain HB.out HST.out)
  have x0 := HX.out.cell 0 _ rfl
  have x1 := HX.out.cell 1 _ rfl
  go_wp2_with fail
  refine (great14_any _ (HPZ.out _ HB.out).v (HKL.out _ HB.out) (ints_nil _ _) (Nat.le_refl _)).mono ?_
  rintro e V2 ⟨gb, rfl, hg, hb⟩
  replace HST := Lib.hid hb
  clear hb x0 x1
  replace HX := Lib.hid (HX.out.below HST.out HX.out.lt)
  replace HB := Lib.hid (chain HB.out HST.out)
  cases gb
  case true =>
    go_wp2
    go_ret
    exact ⟨rfl, HB.out⟩
  have HSC := Lib.hid (hg rfl).1
  have HRP := Lib.hid (hg rfl).1.r
  have HLE := Lib.hid (hg rfl).2.1
  have HGE := Lib.hid (hg rfl).2.2
  have HN5 := Lib.hid (show l.length ≤ 50000 from Nat.le_trans (hg rfl).2.1 (by decide))
  clear hg
  have x0 := HX.out.cell 0 _ rfl
  have x1 := HX.out.cell 1 _ rfl
  go_wp2_with fail
  refine (crcross_any _ (HPZ.out _ HB.out) (HKL.out _ HB.out) (Nat.le_refl _) HRP.out HN5.out).mono ?_
  rintro e V4 ⟨A4, n4, c4, ks, rfl, hks, ho, hkl, hb⟩
  obtain ⟨Ae, ce, hAe⟩ := own_slice ho
  injection hAe with e1 e2 e3
  subst e1 e3
  obtain ⟨a6, ha6⟩ : ∃ a, a = (runS P true (beg P) l).2.2 := ⟨_, rfl⟩
  have HA6 := Lib.hid ha6
  rw [← ha6] at hks ⊢
  have HKS := Lib.hid hks
  have HK4 := Lib.hid e2
  have HKN := Lib.hid (show n4 ≤ 120 from by rw [e2]; exact Nat.le_trans hkl HLE.out)
  have HW4 := Lib.hid (show V4.ownsRow 0 3 1 (.slice A4 n4 c4) n4 (ks.flatMap nuC) from by have h := own_base ho (Nat.zero_le _); unfold OwnI at h; rwa [← e2] at h)
  replace HST := Lib.hid hb
  clear hks ho hkl hb ha6 x0 x1 e2
  replace HX := Lib.hid (HX.out.below HST.out HX.out.lt)
  replace HB := Lib.hid (chain HB.out HST.out)
  go_upto_region 5 with fail
  have x0 := HX.out.cell 0 _ rfl
  have x1 := HX.out.cell 1 _ rfl
  go_wp2_with fail
  refine (rrun13_any (l := l) true _ (HPZ.out _ HB.out) (HKL.out _ HB.out) (Nat.le_refl _) HRP.out HN5.out).mono ?_
  rintro e V8 ⟨vm, vt, ps8, rfl, hos, hb⟩
  obtain ⟨⟨s8, n8, a8⟩, hr8⟩ : ∃ r, r = runS P true (beg P) (l) := ⟨_, rfl⟩
  have HR8 := Lib.hid hr8.symm
  rw [← hr8] at hos ⊢
  clear hr8
  dsimp only at hos ⊢
  obtain ⟨A8, c8, rfl⟩ := own_slice hos.mem
  obtain ⟨B8, e8, rfl⟩ := own_slice hos.ths
  obtain ⟨m8, hm8⟩ : ∃ m, m = s8.mem.length := ⟨_, rfl⟩
  obtain ⟨k8, hk8⟩ : ∃ m, m = s8.ths.length := ⟨_, rfl⟩
  have HM8 := Lib.hid hm8
  have HK8 := Lib.hid hk8
  rw [← hm8, ← hk8] at hos ⊢
  have HO8 := Lib.hid (show OwnSt 0 V8 (.slice A8 m8 c8) (.slice B8 k8 e8) s8 ps8 from hos.base (Nat.zero_le _))
  replace HST := Lib.hid hb
  clear hos hb hm8 hk8 x0 x1
  replace HX := Lib.hid (HX.out.below HST.out HX.out.lt)
  replace HW4 := Lib.hid (own_below HW4.out HST.out)
  replace HB := Lib.hid (chain HB.out HST.out)
  go_upto_region 6 with fail
  obtain ⟨Z8, hZ⟩ : ∃ W, W = V8.alloc (.cells #[.slice A8 m8 c8, .slice B8 k8 e8] 33) := ⟨_, rfl⟩
  obtain ⟨g8, hg⟩ : ∃ g, g = V8.heap.size := ⟨_, rfl⟩
  have HQ8 := Lib.hid (show BoxC Z8 g8 33 #[.slice A8 m8 c8, .slice B8 k8 e8] from by rw [hZ, hg]; exact BoxC.new V8 _ _)
  replace HST := Lib.hid (show Below V8.heap.size V8 Z8 from by rw [hZ]; exact below_al (Below.refl _ _) _)
  rw [← hZ]
  (try rw [← hg])
  clear hZ hg
  replace HX := Lib.hid (HX.out.below HST.out HX.out.lt)
  replace HW4 := Lib.hid (own_below HW4.out HST.out)
  replace HO8 := Lib.hid (HO8.out.below HST.out)
  replace HB := Lib.hid (chain HB.out HST.out)
  have HAE := Lib.hid (show a6 = a8 from by rw [HA6.out, HR8.out])
  have hae := HAE.out
  subst hae
  clear HAE
  cases a6
  case false =>
    have hn4 : n4 = 0 := by rw [HK4.out, show ks = [] from HKS.out]; rfl
    subst hn4
    go_wp2
    go_loopw [11] (fun i wr => i = .int .i64 0 ∧ Below w.heap.size w wr) (fun i _ => 0)
    case atStart => exact ⟨rfl, HB.out⟩
    case round =>
      obtain ⟨rfl, hB⟩ := hrel
      go_wp2
      go_ret
      exact ⟨rfl, hB⟩
  have HRI := Lib.hid (show RisF (crF (wysS P (beg P) l)) ks from HKS.out)
  have HWI := Lib.hid (within_ks HRP.out HRI.out)
  have HUP := Lib.hid (fun (i : Nat) (hi : i + 1 < ks.length) => (List.pairwise_iff_getElem.1 HRI.out.1) i (i + 1) (by omega) hi (by omega))
  have HOF := Lib.hid (fun (n : Int) W (hW : Below w.heap.size w W) (hn : n ≤ 9223372036854775807) => rof_any n W (HPZ.out W hW).v (Nat.le_refl _) (right_small HRP.out).1 (right_small HRP.out).2 hn)
  have hn4 := HKN.out
  go_wp2
  go_loopw [11] (fun i wr => ∃ k : Nat, k ≤ n4 ∧ i = .int .i64 k ∧ BoxC wr gp 25 #[.slice P0 P.init.length d0, .slice P1 P.ths.length d1] ∧ wr.ownsRow 0 3 1 (.slice A4 n4 c4) n4 (ks.flatMap nuC) ∧ Below w.heap.size w wr) (fun i _ => n4 - (intOf i).toNat)
  case atStart => exact ⟨0, Nat.zero_le _, rfl, HX.out, HW4.out, HB.out⟩
  case round =>
    clear HX HW4 HB HQ8 HO8
    obtain ⟨k, hk, rfl, hx, hw, hB⟩ := hrel
    have HX := Lib.hid hx
    have HW4 := Lib.hid hw
    have HB := Lib.hid hB
    clear hx hw hB
    by_cases hlt : k < n4
    case neg =>
      obtain rfl : n4 = k := by omega
      go_wp2
      go_ret
      exact ⟨rfl, HB.out⟩
    have hlt2 : k < ks.length := by have := HK4.out; omega
    obtain ⟨A5, c5, hA5, r1, r2, -, r3⟩ := Rw.own (one := nuC) (l := ks) (v := .slice A4 n4 c4) (base := 0) (T := 3) (by have h := HW4.out; rw [HK4.out] at h; rw [HK4.out]; exact h) (Nat.le_refl wr.heap.size)
    injection hA5 with e1 e2 e3
    subst e1 e3
    obtain ⟨b1, f1, rfl, hb1, hcl⟩ := nu_at (c := 0) r3 (by omega)
    unfold maxLen at r2
    rw [← e2] at r1
    have HCL := Lib.hid hcl
    clear r3 hcl e2
    obtain ⟨tt, kk, htt, hkk, hke, h6, h5⟩ := HWI.out k hlt2
    have HC0 := Lib.hid (HCL.out k hlt2)
    obtain ⟨x, hx⟩ : ∃ x, x = ks[k] := ⟨_, rfl⟩
    rw [← hx] at HC0 hke
    have HXE := Lib.hid hx
    have HIS := Lib.hid (show IsOf P.ths x ⟨tt, kk, true⟩ from .inr ⟨tt, kk, htt, hkk, hke.symm, rfl⟩)
    have hxs : x ≤ 9223372036854775807 := by
      have h1 := sl_many anyS P.ths htt (k := kk) (by omega)
      rw [sl_any P.ths htt (by omega)] at h1
      have := many_small HRP.out
      omega
    have HXS := Lib.hid hxs
    have H65 := Lib.hid (And.intro h6 h5)
    clear hx hke hxs h6 h5
    have e0 := HC0.out
    have x0 := HX.out.cell 0 _ rfl
    have x1 := HX.out.cell 1 _ rfl
    go_upto_region 11 with fail
    go_cut [12, 13, 14] (fun va vb vc wx => va = .int .i64 (tt : Nat) ∧ vb = .int .i64 (kk : Nat) ∧ vc = .bool true ∧ Below wr.heap.size wr wx)
    case first =>
      refine wp_region_held_drew (S := (fun w' => (w'.cell? ⟨gp, 0, none⟩ = some (.slice P0 P.init.length d0) ∧ w'.cell? ⟨gp, 1, none⟩ = some (.slice P1 P.ths.length d1) ∧ w'.cell? ⟨b1, f1 + k, none⟩ = some (.int .i64 x) ∧ True) ∧ Below wr.heap.size wr w')) (by kernel_rfl) ⟨⟨x0, x1, e0, trivial⟩, below_drewN (Below.refl _ _) 1⟩ (fun hHeld => ?_)
      refine wpAnyH_take (i := 0) (v := ?_) rfl (by kernel_rfl) (by kernel_rfl) (by kernel_rfl) (fun _ _ _ h => h) (Or.inl ⟨by rfl, ?_⟩) (by assumption) ?_
      rotate_left
      · intro w hSw; (try dsimp only at hSw); go_simp; (try with_reducible rfl)
      (try simp only [Act.put, pt8])
      refine wpAnyH_take (i := 1) (v := ?_) rfl (by kernel_rfl) (by kernel_rfl) (by kernel_rfl) (fun _ _ _ h => h) (Or.inl ⟨by rfl, ?_⟩) (by assumption) ?_
      rotate_left
      · intro w hSw; (try dsimp only at hSw); go_simp; (try with_reducible rfl)
      (try simp only [Act.put, pt8])
      refine wpAnyH_take (i := 2) (v := ?_) rfl (by kernel_rfl) (by kernel_rfl) (by kernel_rfl) (fun _ _ _ h => h) (Or.inl ⟨by rfl, ?_⟩) (by assumption) ?_
      rotate_left
      · intro w hSw; (try dsimp only at hSw); go_simp; (try with_reducible rfl)
      (try simp only [Act.put, pt8])
      refine wpAnyH_take (i := 3) (v := ?_) rfl (by kernel_rfl) (by kernel_rfl) (by kernel_rfl) (fun _ _ _ h => h) (Or.inl ⟨by rfl, ?_⟩) (by assumption) ?_
      rotate_left
      · intro w hSw; (try dsimp only at hSw); go_simp; (try with_reducible rfl)
      (try simp only [Act.put, pt8])
      refine wpAnyH_take (i := 4) (v := ?_) rfl (by kernel_rfl) (by kernel_rfl) (by kernel_rfl) (fun _ _ _ h => h) (Or.inl ⟨by rfl, ?_⟩) (by assumption) ?_
      rotate_left
      · intro w hSw; (try dsimp only at hSw); go_simp; (try with_reducible rfl)
      (try simp only [Act.put, pt8])
      refine wpAnyH_ready (rs := [5]) (by kernel_rfl) (by simp) ?_
      refine AllReadyH.cons rfl (fun K hK => ?_) AllReadyH.nil
      go_simp
      refine (HOF.out x _ (chain HB.out hHeld.2) HXS.out).mono ?_
      rintro e Xc ⟨⟨r, rfl, hr⟩, hb⟩
      have hr2 := hr.one HIS.out
      subst hr2
      have HBC := Lib.hid (chain hHeld.2 hb)
      refine hK.out _ _ ⟨⟨kc HBC.out x0, kc HBC.out x1, kc HBC.out e0, trivial⟩, HBC.out⟩ (fun hHeld => ?_)
      clear hK K
      (try simp only [Act.put, pt8])
      clear hb hr
      refine wpAnyH_take (i := 6) (v := ?_) rfl (by kernel_rfl) (by kernel_rfl) (by kernel_rfl) (fun _ _ _ h => h) (Or.inl ⟨by rfl, ?_⟩) (by assumption) ?_
      rotate_left
      · intro w hSw; (try dsimp only at hSw); go_simp; (try with_reducible rfl)
      (try simp only [Act.put, pt8])
      refine wpAnyH_take (i := 7) (v := ?_) rfl (by kernel_rfl) (by kernel_rfl) (by kernel_rfl) (fun _ _ _ h => h) (Or.inl ⟨by rfl, ?_⟩) (by assumption) ?_
      rotate_left
      · intro w hSw; (try dsimp only at hSw); go_simp; (try with_reducible rfl)
      (try simp only [Act.put, pt8])
      refine wpAnyH_take (i := 8) (v := ?_) rfl (by kernel_rfl) (by kernel_rfl) (by kernel_rfl) (fun _ _ _ h => h) (Or.inl ⟨by rfl, ?_⟩) (by assumption) ?_
      rotate_left
      · intro w hSw; (try dsimp only at hSw); go_simp; (try with_reducible rfl)
      (try simp only [Act.put, pt8])
      refine wpAnyH_take (i := 9) (v := ?_) rfl (by kernel_rfl) (by kernel_rfl) (by kernel_rfl) (fun _ _ _ h => h) (Or.inl ⟨by rfl, ?_⟩) (by assumption) ?_
      rotate_left
      · intro w hSw; (try dsimp only at hSw); go_simp; (try with_reducible rfl)
      (try simp only [Act.put, pt8])
      refine wpAnyH_ready (rs := [10]) (by kernel_rfl) (by simp) ?_
      refine AllReadyH.cons rfl (fun K hK => ?_) AllReadyH.nil
      go_simp
      refine hK.out _ _ hHeld (fun hHeld => ?_)
      clear hK K
      (try simp only [Act.put, pt8])
      refine wpAnyH_ready (rs := [11]) (by kernel_rfl) (by simp) ?_
      refine AllReadyH.cons rfl (fun K hK => ?_) AllReadyH.nil
      go_simp
      refine hK.out _ _ hHeld (fun hHeld => ?_)
      clear hK K
      (try simp only [Act.put, pt8])
      refine wpAnyH_ready (rs := [12]) (by kernel_rfl) (by simp) ?_
      refine AllReadyH.cons rfl (fun K hK => ?_) AllReadyH.nil
      go_simp
      refine hK.out _ _ hHeld (fun hHeld => ?_)
      clear hK K
      (try simp only [Act.put, pt8])
      refine wpAnyH_done (by kernel_rfl) ?_ _
      clear hHeld
      go_wp2_with fail
      go_meet
      exact ⟨rfl, rfl, rfl, HBC.out⟩
    case rest =>
    obtain ⟨rfl, rfl, rfl, hb⟩ := hcut
    obtain ⟨Y1, hY1⟩ : ∃ W, W = wc := ⟨_, rfl⟩
    rw [← hY1] at hb ⊢
    clear hY1
    have HY := Lib.hid hb
    clear hb e0 x0 x1
    have HCY := Lib.hid (fun W (hW : Below wr.heap.size wr W) (j : Nat) (hj : j < ks.length) => (hW.cell (p := ⟨b1, f1 + j, none⟩) hb1).trans (HCL.out j hj))
    have HXY := Lib.hid (fun W (hW : Below wr.heap.size wr W) => HX.out.below hW HX.out.lt)
    have HWY := Lib.hid (fun W (hW : Below wr.heap.size wr W) => own_below HW4.out hW)
    by_cases hk0 : k = 0
    · skip
      go_upto_region 12 with fail
      have x1 := (HXY.out _ HY.out).cell 1 _ rfl
      refine wp_region_held_drew (S := (fun w' => (w'.cell? ⟨gp, 1, none⟩ = some (.slice P1 P.ths.length d1) ∧ True) ∧ Below Y1.heap.size Y1 w')) (by kernel_rfl) ⟨⟨x1, trivial⟩, below_drewN (Below.refl _ _) 1⟩ (fun hHeld => ?_)
      obtain ⟨W7, hW7⟩ : ∃ W, W = Y1.drew := ⟨_, rfl⟩
      have HX7 := Lib.hid (show Below Y1.heap.size Y1 W7 from by rw [hW7]; exact below_drewN (Below.refl _ _) 1)
      rw [← hW7] at hHeld ⊢
      clear hW7
      refine wpAnyH_take (i := 0) (v := ?_) rfl (by kernel_rfl) (by kernel_rfl) (by kernel_rfl) (fun _ _ _ h => h) (Or.inl ⟨by rfl, ?_⟩) (by assumption) ?_
      rotate_left
      · intro w hSw; (try dsimp only at hSw); go_simp; (try with_reducible rfl)
      (try simp only [Act.put, pt8])
      refine wpAnyH_take (i := 1) (v := ?_) rfl (by kernel_rfl) (by kernel_rfl) (by kernel_rfl) (fun _ _ _ h => h) (Or.inl ⟨by rfl, ?_⟩) (by assumption) ?_
      rotate_left
      · intro w hSw; (try dsimp only at hSw); go_simp; (try with_reducible rfl)
      (try simp only [Act.put, pt8])
      refine wpAnyH_take (i := 2) (v := ?_) rfl (by kernel_rfl) (by kernel_rfl) (by kernel_rfl) (fun _ _ _ h => h) (Or.inl ⟨by rfl, ?_⟩) (by assumption) ?_
      rotate_left
      · intro w hSw; (try dsimp only at hSw); go_simp; (try with_reducible rfl)
      (try simp only [Act.put, pt8])
      refine wpAnyH_take (i := 3) (v := ?_) rfl (by kernel_rfl) (by kernel_rfl) (by kernel_rfl) (fun _ _ _ h => h) (Or.inl ⟨by rfl, ?_⟩) (by assumption) ?_
      rotate_left
      · intro w hSw; (try dsimp only at hSw); go_simp; (try with_reducible rfl)
      (try simp only [Act.put, pt8])
      refine wpAnyH_take (i := 4) (v := ?_) rfl (by kernel_rfl) (by kernel_rfl) (by kernel_rfl) (fun _ _ _ h => h) (Or.inl ⟨by rfl, ?_⟩) (by assumption) ?_
      rotate_left
      · intro w hSw; (try dsimp only at hSw); go_simp; (try with_reducible rfl)
      (try simp only [Act.put, pt8])
      refine wpAnyH_take (i := 5) (v := ?_) rfl (by kernel_rfl) (by kernel_rfl) (by kernel_rfl) (fun _ _ _ h => h) (Or.inl ⟨by rfl, ?_⟩) (by assumption) ?_
      rotate_left
      · intro w hSw; (try dsimp only at hSw); go_simp; (try with_reducible rfl)
      (try simp only [Act.put, pt8])
      refine wpAnyH_take (i := 6) (v := undef) rfl (by kernel_rfl) (by kernel_rfl) (by kernel_rfl) (fun _ _ _ h => h) (Or.inr ⟨by rfl, rfl⟩) (by assumption) ?_
      (try simp only [Act.put, pt8])
      refine wpAnyH_take (i := 7) (v := undef) rfl (by kernel_rfl) (by kernel_rfl) (by kernel_rfl) (fun _ _ _ h => h) (Or.inr ⟨by rfl, rfl⟩) (by assumption) ?_
      (try simp only [Act.put, pt8])
      refine wpAnyH_take (i := 8) (v := undef) rfl (by kernel_rfl) (by kernel_rfl) (by kernel_rfl) (fun _ _ _ h => h) (Or.inr ⟨by rfl, rfl⟩) (by assumption) ?_
      (try simp only [Act.put, pt8])
      refine wpAnyH_take (i := 9) (v := undef) rfl (by kernel_rfl) (by kernel_rfl) (by kernel_rfl) (fun _ _ _ h => h) (Or.inr ⟨by rfl, rfl⟩) (by assumption) ?_
      (try simp only [Act.put, pt8])
      refine wpAnyH_take (i := 10) (v := undef) rfl (by kernel_rfl) (by kernel_rfl) (by kernel_rfl) (fun _ _ _ h => h) (Or.inr ⟨by rfl, rfl⟩) (by assumption) ?_
      (try simp only [Act.put, pt8])
      refine wpAnyH_take (i := 11) (v := undef) rfl (by kernel_rfl) (by kernel_rfl) (by kernel_rfl) (fun _ _ _ h => h) (Or.inr ⟨by rfl, rfl⟩) (by assumption) ?_
      (try simp only [Act.put, pt8])
      refine wpAnyH_take (i := 12) (v := undef) rfl (by kernel_rfl) (by kernel_rfl) (by kernel_rfl) (fun _ _ _ h => h) (Or.inr ⟨by rfl, rfl⟩) (by assumption) ?_
      (try simp only [Act.put, pt8])
      refine wpAnyH_take (i := 13) (v := undef) rfl (by kernel_rfl) (by kernel_rfl) (by kernel_rfl) (fun _ _ _ h => h) (Or.inr ⟨by rfl, rfl⟩) (by assumption) ?_
      (try simp only [Act.put, pt8])
      refine wpAnyH_take (i := 14) (v := undef) rfl (by kernel_rfl) (by kernel_rfl) (by kernel_rfl) (fun _ _ _ h => h) (Or.inr ⟨by rfl, rfl⟩) (by assumption) ?_
      (try simp only [Act.put, pt8])
      refine wpAnyH_take (i := 15) (v := undef) rfl (by kernel_rfl) (by kernel_rfl) (by kernel_rfl) (fun _ _ _ h => h) (Or.inr ⟨by rfl, rfl⟩) (by assumption) ?_
      (try simp only [Act.put, pt8])
      refine wpAnyH_take (i := 16) (v := ?_) rfl (by kernel_rfl) (by kernel_rfl) (by kernel_rfl) (fun _ _ _ h => h) (Or.inl ⟨by rfl, ?_⟩) (by assumption) ?_
      rotate_left
      · intro w hSw; (try dsimp only at hSw); go_simp; (try with_reducible rfl)
      (try simp only [Act.put, pt8])
      refine wpAnyH_take (i := 17) (v := ?_) rfl (by kernel_rfl) (by kernel_rfl) (by kernel_rfl) (fun _ _ _ h => h) (Or.inl ⟨by rfl, ?_⟩) (by assumption) ?_
      rotate_left
      · intro w hSw; (try dsimp only at hSw); go_simp; (try with_reducible rfl)
      (try simp only [Act.put, pt8])
      refine wpAnyH_done (by kernel_rfl) ?_ _
      clear hHeld x1
      have HB7 := Lib.hid (chain HY.out HX7.out)
      have HB9 := Lib.hid (chain HB.out HB7.out)
      have x1 := (HXY.out _ HB7.out).cell 1 _ rfl
      obtain ⟨b2, f2, rfl, hb2, hc2⟩ := HL3.out (by omega)
      obtain ⟨vs, s0, A5, c5, rfl, k1, k2, k3⟩ := hc2 tt htt
      unfold maxLen at k2
      have s0' := (HB9.out.cell (p := ⟨b2, f2 + tt, none⟩) (Nat.lt_of_lt_of_le hb2 hBB)).trans s0
      obtain ⟨b5, f5, rfl, hb5, hst⟩ := k3 (by omega)
      obtain ⟨u0, u1, u2, u3, u4⟩ := hst kk hkk
      have u0' := (HB9.out.cell (p := ⟨b5, f5 + kk * 5, none⟩) (Nat.lt_of_lt_of_le hb5 hBB)).trans u0
      obtain ⟨h6, h5⟩ := H65.out
      have d6 : (P.ths[tt][kk].op == 6) = false := beq_eq_false_iff_ne.2 h6
      have d5 : (P.ths[tt][kk].op == 5) = false := beq_eq_false_iff_ne.2 h5
      have H9X := Lib.hid (HXY.out _ HB7.out)
      have H9W := Lib.hid (HWY.out _ HB7.out)
      clear hc2 k3 s0 u0 u1 u2 u3 u4 h6 h5 hst HOF HCL HC0
      obtain ⟨op, hop⟩ : ∃ o, o = P.ths[tt][kk].op := ⟨_, rfl⟩
      obtain ⟨sl, hsl⟩ : ∃ o, o = P.ths[tt].length := ⟨_, rfl⟩
      have hkk2 : kk < sl := by omega
      rw [← hop] at u0' d6 d5
      rw [← hsl] at s0' k1
      clear hop hsl
      go_wp2
      go_roundw
      case rel => exact ⟨k + 1, by omega, by go_num, H9X.out, H9W.out, HB9.out⟩
      case measure => simp [intOf]; omega
    · skip
      go_upto_region 12 with fail
      obtain ⟨p, hp⟩ : ∃ p, k = p + 1 := ⟨k - 1, by omega⟩
      have e0 := HCY.out Y1 HY.out k hlt2
      have e1 := HCY.out Y1 HY.out p (by omega)
      rw [← HXE.out] at e0
      obtain ⟨y, hy⟩ : ∃ y, y = ks[p]'(by omega) := ⟨_, rfl⟩
      rw [← hy] at e1
      have hyx : ¬ x ≤ y := by have h := HUP.out p (by omega); rw [HXE.out, hy]; have : ks[k]'hlt2 = ks[p + 1]'(by omega) := by congr
                               omega
      have hgt : (0 : Int) < (k : Int) := by omega
      have hgn : 0 < k := by omega
      have hgd : decide (0 < k) = true := decide_eq_true hgn
      have hwp : IntKind.i64.wrap ((k : Int) - 1) = (p : Int) := by rw [hp, show (((p + 1 : Nat) : Int) - 1) = (p : Int) from by omega]; exact IntWalk.i64_in _ (by omega)
      have hpn : p < n4 := by omega
      clear hp hy
      refine wp_region_held_drew (S := (fun w' => (w'.cell? ⟨b1, f1 + k, none⟩ = some (.int .i64 x) ∧ w'.cell? ⟨b1, f1 + p, none⟩ = some (.int .i64 y) ∧ True) ∧ Below Y1.heap.size Y1 w')) (by kernel_rfl) ⟨⟨e0, e1, trivial⟩, below_drewN (Below.refl _ _) 1⟩ (fun hHeld => ?_)
      obtain ⟨W7, hW7⟩ : ∃ W, W = Y1.drew := ⟨_, rfl⟩
      have HX7 := Lib.hid (show Below Y1.heap.size Y1 W7 from by rw [hW7]; exact below_drewN (Below.refl _ _) 1)
      rw [← hW7] at hHeld ⊢
      clear hW7
      refine wpAnyH_take (i := 0) (v := ?_) rfl (by kernel_rfl) (by kernel_rfl) (by kernel_rfl) (fun _ _ _ h => h) (Or.inl ⟨by rfl, ?_⟩) (by assumption) ?_
      rotate_left
      · intro w hSw; (try dsimp only at hSw); go_simp; (try with_reducible rfl)
      (try simp only [Act.put, pt8])
      refine wpAnyH_take (i := 1) (v := ?_) rfl (by kernel_rfl) (by kernel_rfl) (by kernel_rfl) (fun _ _ _ h => h) (Or.inl ⟨by rfl, ?_⟩) (by assumption) ?_
      rotate_left
      · intro w hSw; (try dsimp only at hSw); go_simp; (try with_reducible rfl)
      (try simp only [Act.put, pt8])
      refine wpAnyH_take (i := 2) (v := ?_) rfl (by kernel_rfl) (by kernel_rfl) (by kernel_rfl) (fun _ _ _ h => h) (Or.inl ⟨by rfl, ?_⟩) (by assumption) ?_
      rotate_left
      · intro w hSw; (try dsimp only at hSw); go_simp; (try with_reducible rfl)
      (try simp only [Act.put, pt8])
      refine wpAnyH_take (i := 3) (v := ?_) rfl (by kernel_rfl) (by kernel_rfl) (by kernel_rfl) (fun _ _ _ h => h) (Or.inl ⟨by rfl, ?_⟩) (by assumption) ?_
      rotate_left
      · intro w hSw; (try dsimp only at hSw); go_simp; (try with_reducible rfl)
      (try simp only [Act.put, pt8])
      refine wpAnyH_take (i := 4) (v := ?_) rfl (by kernel_rfl) (by kernel_rfl) (by kernel_rfl) (fun _ _ _ h => h) (Or.inl ⟨by rfl, ?_⟩) (by assumption) ?_
      rotate_left
      · intro w hSw; (try dsimp only at hSw); go_simp; (try with_reducible rfl)
      (try simp only [Act.put, pt8])
      refine wpAnyH_take (i := 5) (v := ?_) rfl (by kernel_rfl) (by kernel_rfl) (by kernel_rfl) (fun _ _ _ h => h) (Or.inl ⟨by rfl, ?_⟩) (by assumption) ?_
      rotate_left
      · intro w hSw; (try dsimp only at hSw); go_simp; (try with_reducible rfl)
      (try simp only [Act.put, pt8])
      refine wpAnyH_take (i := 6) (v := ?_) rfl (by kernel_rfl) (by kernel_rfl) (by kernel_rfl) (fun _ _ _ h => h) (Or.inl ⟨by rfl, ?_⟩) (by assumption) ?_
      rotate_left
      · intro w hSw; (try dsimp only at hSw); go_simp; (try with_reducible rfl)
      (try simp only [Act.put, pt8])
      refine wpAnyH_take (i := 7) (v := ?_) rfl (by kernel_rfl) (by kernel_rfl) (by kernel_rfl) (fun _ _ _ h => h) (Or.inl ⟨by rfl, ?_⟩) (by assumption) ?_
      rotate_left
      · intro w hSw; (try dsimp only at hSw); go_simp; (try with_reducible rfl)
      (try simp only [Act.put, pt8])
      refine wpAnyH_take (i := 8) (v := ?_) rfl (by kernel_rfl) (by kernel_rfl) (by kernel_rfl) (fun _ _ _ h => h) (Or.inl ⟨by rfl, ?_⟩) (by assumption) ?_
      rotate_left
      · intro w hSw; (try dsimp only at hSw); go_simp; (try with_reducible rfl)
      (try simp only [Act.put, pt8])
      refine wpAnyH_take (i := 9) (v := ?_) rfl (by kernel_rfl) (by kernel_rfl) (by kernel_rfl) (fun _ _ _ h => h) (Or.inl ⟨by rfl, ?_⟩) (by assumption) ?_
      rotate_left
      · intro w hSw; (try dsimp only at hSw); go_simp; (try with_reducible rfl)
      (try simp only [Act.put, pt8])
      refine wpAnyH_take (i := 10) (v := ?_) rfl (by kernel_rfl) (by kernel_rfl) (by kernel_rfl) (fun _ _ _ h => h) (Or.inl ⟨by rfl, ?_⟩) (by assumption) ?_
      rotate_left
      · intro w hSw; (try dsimp only at hSw); go_simp; (try with_reducible rfl)
      (try simp only [Act.put, pt8])
      refine wpAnyH_take (i := 11) (v := ?_) rfl (by kernel_rfl) (by kernel_rfl) (by kernel_rfl) (fun _ _ _ h => h) (Or.inl ⟨by rfl, ?_⟩) (by assumption) ?_
      rotate_left
      · intro w hSw; (try dsimp only at hSw); go_simp; (try with_reducible rfl)
      (try simp only [Act.put, pt8])
      refine wpAnyH_take (i := 12) (v := ?_) rfl (by kernel_rfl) (by kernel_rfl) (by kernel_rfl) (fun _ _ _ h => h) (Or.inl ⟨by rfl, ?_⟩) (by assumption) ?_
      rotate_left
      · intro w hSw; (try dsimp only at hSw); go_simp; (try with_reducible rfl)
      (try simp only [Act.put, pt8])
      refine wpAnyH_take (i := 13) (v := ?_) rfl (by kernel_rfl) (by kernel_rfl) (by kernel_rfl) (fun _ _ _ h => h) (Or.inl ⟨by rfl, ?_⟩) (by assumption) ?_
      rotate_left
      · intro w hSw; (try dsimp only at hSw); go_simp; (try with_reducible rfl)
      (try simp only [Act.put, pt8])
      refine wpAnyH_take (i := 14) (v := ?_) rfl (by kernel_rfl) (by kernel_rfl) (by kernel_rfl) (fun _ _ _ h => h) (Or.inl ⟨by rfl, ?_⟩) (by assumption) ?_
      rotate_left
      · intro w hSw; (try dsimp only at hSw); go_simp; (try with_reducible rfl)
      (try simp only [Act.put, pt8])
      refine wpAnyH_take (i := 15) (v := ?_) rfl (by kernel_rfl) (by kernel_rfl) (by kernel_rfl) (fun _ _ _ h => h) (Or.inl ⟨by rfl, ?_⟩) (by assumption) ?_
      rotate_left
      · intro w hSw; (try dsimp only at hSw); go_simp; (try with_reducible rfl)
      (try simp only [Act.put, pt8])
      refine wpAnyH_take (i := 16) (v := ?_) rfl (by kernel_rfl) (by kernel_rfl) (by kernel_rfl) (fun _ _ _ h => h) (Or.inl ⟨by rfl, ?_⟩) (by assumption) ?_
      rotate_left
      · intro w hSw; (try dsimp only at hSw); go_simp; (try with_reducible rfl)
      (try simp only [Act.put, pt8])
      refine wpAnyH_take (i := 17) (v := ?_) rfl (by kernel_rfl) (by kernel_rfl) (by kernel_rfl) (fun _ _ _ h => h) (Or.inl ⟨by rfl, ?_⟩) (by assumption) ?_
      rotate_left
      · intro w hSw; (try dsimp only at hSw); go_simp; (try with_reducible rfl)
      (try simp only [Act.put, pt8])
      refine wpAnyH_done (by kernel_rfl) ?_ _
      clear hHeld e0 e1
      have HB7 := Lib.hid (chain HY.out HX7.out)
      have HB9 := Lib.hid (chain HB.out HB7.out)
      have x1 := (HXY.out _ HB7.out).cell 1 _ rfl
      obtain ⟨b2, f2, rfl, hb2, hc2⟩ := HL3.out (by omega)
      obtain ⟨vs, s0, A5, c5, rfl, k1, k2, k3⟩ := hc2 tt htt
      unfold maxLen at k2
      have s0' := (HB9.out.cell (p := ⟨b2, f2 + tt, none⟩) (Nat.lt_of_lt_of_le hb2 hBB)).trans s0
      obtain ⟨b5, f5, rfl, hb5, hst⟩ := k3 (by omega)
      obtain ⟨u0, u1, u2, u3, u4⟩ := hst kk hkk
      have u0' := (HB9.out.cell (p := ⟨b5, f5 + kk * 5, none⟩) (Nat.lt_of_lt_of_le hb5 hBB)).trans u0
      obtain ⟨h6, h5⟩ := H65.out
      have d6 : (P.ths[tt][kk].op == 6) = false := beq_eq_false_iff_ne.2 h6
      have d5 : (P.ths[tt][kk].op == 5) = false := beq_eq_false_iff_ne.2 h5
      have H9X := Lib.hid (HXY.out _ HB7.out)
      have H9W := Lib.hid (HWY.out _ HB7.out)
      clear hc2 k3 s0 u0 u1 u2 u3 u4 h6 h5 hst HOF HCL HC0
      obtain ⟨op, hop⟩ : ∃ o, o = P.ths[tt][kk].op := ⟨_, rfl⟩
      obtain ⟨sl, hsl⟩ : ∃ o, o = P.ths[tt].length := ⟨_, rfl⟩
      have hkk2 : kk < sl := by omega
      rw [← hop] at u0' d6 d5
      rw [← hsl] at s0' k1
      clear hop hsl
      go_wp2
      go_roundw
      case rel => exact ⟨k + 1, by omega, by go_num, H9X.out, H9W.out, HB9.out⟩
      case measure => simp [intOf]; omega
end Go.Proofs.Ytlpjgaeelnlipaa
