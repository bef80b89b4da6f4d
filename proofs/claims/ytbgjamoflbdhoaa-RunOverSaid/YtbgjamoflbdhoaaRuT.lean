/-
  LAYER 13: head: a live question whose answer is fixed.
-/
import Derived.Test.YtbgjamoflbdhoaaK26
import Derived.Deep.RegionHeld3
import Derived.Deep.DeepCutAuto
namespace Go.Proofs.Ytbgjamoflbdhoaa
open Go.RowKit
set_option linter.unusedVariables false
set_option linter.unusedSimpArgs false
open CodM (St Pg rightP)
open BfM (Wr plc)
open ScM

set_option maxHeartbeats 16000000 in
set_option maxRecDepth 100000 in
theorem head13_any (w : World) : Calls Try.prog 9 #[] w fun e w' => e = .returned (.bool true) ∧ Below w.heap.size w w' := by
  go_enter Try.func9, Try.ntmps9
  go_wp2_with fail
  refine (buf7_any _).mono ?_
  rintro e Y0 ⟨vi, vt, rfl, hpm, hnz, hb⟩
  have HL0 := Lib.hid hb
  have HPZ := Lib.hid (show PgZ Y0.heap.size Y0 (.agg #[vi, vt]) bufP from PgV.z ⟨_, _, rfl, hpm⟩ (fun a b e => by injection e with e; injection e with e; injection e with e1 _; subst e1; exact hnz))
  clear hb hnz
  obtain ⟨⟨P0, d0, rfl, -⟩, ⟨P1, d1, rfl, -⟩⟩ := hpm
  obtain ⟨n0, hn0⟩ : ∃ n, n = bufP.init.length := ⟨_, rfl⟩
  obtain ⟨n1, hn1⟩ : ∃ n, n = bufP.ths.length := ⟨_, rfl⟩
  rw [← hn0, ← hn1] at HPZ ⊢
  clear hn0 hn1
  go_upto_region 2 with fail
  obtain ⟨Y1, hY1⟩ : ∃ W, W = Y0.alloc (.cells #[.slice P0 n0 d0, .slice P1 n1 d1] 25) := ⟨_, rfl⟩
  obtain ⟨gp, hgp⟩ : ∃ g, g = Y0.heap.size := ⟨_, rfl⟩
  have HX := Lib.hid (show BoxC Y1 gp 25 #[.slice P0 n0 d0, .slice P1 n1 d1] from by rw [hY1, hgp]; exact BoxC.new Y0 _ _)
  have HA1 := Lib.hid (show Below Y0.heap.size Y0 Y1 from by rw [hY1]; exact below_al (Below.refl _ _) _)
  rw [← hY1]
  (try rw [← hgp])
  clear hY1 hgp
  have HL := Lib.hid (chain HL0.out HA1.out)
  have HPW := Lib.hid (fun W (hW : Below Y1.heap.size Y1 W) => show PgZ W.heap.size W (.agg #[.slice P0 n0 d0, .slice P1 n1 d1]) bufP from (HPZ.out.below (HA1.out.trans (hW.mono HA1.out.size))).more (Nat.le_trans HA1.out.size hW.size))
  have HB := Lib.hid (Below.refl Y1.heap.size Y1)
  clear HPZ HA1 HL0
  have x0 := HX.out.cell 0 _ rfl
  have x1 := HX.out.cell 1 _ rfl
  go_cut [2, 3] (fun vb vi wx => ∃ g A n c D m k, vb = .pointer (some ⟨g, 0, none⟩) ∧ vi = .bool false ∧ n = 0 ∧ m = 0 ∧ BoxC wx g 35 #[.slice A n c, .slice D m k] ∧ OwnI 0 wx (.slice A n c) [] ∧ OwnI 0 wx (.slice D m k) [] ∧ Below Y1.heap.size Y1 wx)
  case first =>
    refine wp_region_held_drew (S := (fun w' => (w'.cell? ⟨gp, 0, none⟩ = some (.slice P0 n0 d0) ∧ w'.cell? ⟨gp, 1, none⟩ = some (.slice P1 n1 d1) ∧ True) ∧ Below Y1.heap.size Y1 w')) (by kernel_rfl) ⟨⟨x0, x1, trivial⟩, below_drewN (Below.refl _ _) 1⟩ (fun hHeld => ?_)
    obtain ⟨Xs, hXs⟩ : ∃ W, W = Y1.drew := ⟨_, rfl⟩
    have HXs := Lib.hid (show Below Y1.heap.size Y1 Xs from by rw [hXs]; exact below_drewN (Below.refl _ _) 1)
    rw [← hXs] at hHeld ⊢
    clear hXs
    refine wpAnyH_take (i := 0) (v := ?_) rfl (by kernel_rfl) (by kernel_rfl) (by kernel_rfl) (fun _ _ _ h => h) (Or.inl ⟨by rfl, ?_⟩) (by assumption) ?_
    rotate_left
    · intro w hSw; (try dsimp only at hSw); go_simp; (try with_reducible rfl)
    (try simp only [Act.put, pt8])
    refine wpAnyH_ready (rs := [1, 7]) (by kernel_rfl) (by simp) ?_
    refine AllReadyH.cons rfl (fun K hK => ?_) (AllReadyH.cons rfl (fun K hK => ?_) (AllReadyH.nil))
    · -- 1 first
      go_simp
      refine (loose_any _).mono ?_
      rintro e Xl ⟨gl, rfl, hlq, hb⟩
      have HLQ := Lib.hid hlq
      have HBl := Lib.hid (chain hHeld.2 hb)
      refine hK.out _ _ ⟨⟨kc HBl.out x0, kc HBl.out x1, trivial⟩, HBl.out⟩ (fun hHeld => ?_)
      clear hK K
      (try simp only [Act.put, pt8])
      clear hb hlq
      refine wpAnyH_take (i := 2) (v := ?_) rfl (by kernel_rfl) (by kernel_rfl) (by kernel_rfl) (fun _ _ _ h => h) (Or.inl ⟨by rfl, ?_⟩) (by assumption) ?_
      rotate_left
      · intro w hSw; (try dsimp only at hSw); go_simp; (try with_reducible rfl)
      (try simp only [Act.put, pt8])
      refine wpAnyH_ready (rs := [3, 7]) (by kernel_rfl) (by simp) ?_
      refine AllReadyH.cons rfl (fun K hK => ?_) (AllReadyH.cons rfl (fun K hK => ?_) (AllReadyH.nil))
      · -- 3 first
        go_simp
        refine (ends_any true _ (HPW.out _ hHeld.2) (loose_3 HLQ.out) (Nat.le_refl _) buf_rp (by decide)).mono ?_
        rintro e Xc ⟨Ad, nd, cd, Dd, md, qd, rfl, hm, hn, ho1, ho2, hb⟩
        rw [h1_b]
        rw [h1_o] at hm hn ho1 ho2
        have HM := Lib.hid (show nd = 0 from hm)
        have HN := Lib.hid (show md = 0 from hn)
        have HO1 := Lib.hid ho1
        have HO2 := Lib.hid ho2
        have HBC := Lib.hid (chain hHeld.2 hb)
        refine hK.out _ _ ⟨⟨kc HBC.out x0, kc HBC.out x1, trivial⟩, HBC.out⟩ (fun hHeld => ?_)
        clear hK K
        (try simp only [Act.put, pt8])
        clear hb ho1 ho2 hm hn
        refine wpAnyH_take (i := 4) (v := ?_) rfl (by kernel_rfl) (by kernel_rfl) (by kernel_rfl) (fun _ _ _ h => h) (Or.inl ⟨by rfl, ?_⟩) (by assumption) ?_
        rotate_left
        · intro w hSw; (try dsimp only at hSw); go_simp; (try with_reducible rfl)
        (try simp only [Act.put, pt8])
        refine wpAnyH_take (i := 5) (v := ?_) rfl (by kernel_rfl) (by kernel_rfl) (by kernel_rfl) (fun _ _ _ h => h) (Or.inl ⟨by rfl, ?_⟩) (by assumption) ?_
        rotate_left
        · intro w hSw; (try dsimp only at hSw); go_simp; (try with_reducible rfl)
        (try simp only [Act.put, pt8])
        refine wpAnyH_take (i := 6) (v := ?_) rfl (by kernel_rfl) (by kernel_rfl) (by kernel_rfl) (fun _ _ _ h => h) (Or.inl ⟨by rfl, ?_⟩) (by assumption) ?_
        rotate_left
        · intro w hSw; (try dsimp only at hSw); go_simp; (try with_reducible rfl)
        (try simp only [Act.put, pt8])
        refine wpAnyH_ready (rs := [7]) (by kernel_rfl) (by simp) ?_
        refine AllReadyH.cons rfl (fun K hK => ?_) AllReadyH.nil
        have HBA := Lib.hid (below_al hHeld.2 (.cells #[.slice none 0 0, .slice none 0 0] 35))
        go_simp
        refine hK.out _ _ ⟨⟨kc HBA.out x0, kc HBA.out x1, trivial⟩, HBA.out⟩ (fun hHeld => ?_)
        clear hK K
        (try simp only [Act.put, pt8])
        have HBa := Lib.hid (below_al (Below.refl Xc.heap.size Xc) (.cells #[.slice none 0 0, .slice none 0 0] 35))
        obtain ⟨Xa, hXa⟩ : ∃ W, W = Xc.alloc (.cells #[.slice none 0 0, .slice none 0 0] 35) := ⟨_, rfl⟩
        obtain ⟨ga, hga⟩ : ∃ g, g = Xc.heap.size := ⟨_, rfl⟩
        have HGa := Lib.hid (show Y1.heap.size ≤ ga from by rw [hga]; exact HBC.out.size)
        have HQa := Lib.hid (show BoxC Xa ga 35 #[.slice none 0 0, .slice none 0 0] from by rw [hXa, hga]; exact BoxC.new Xc _ _)
        rw [← hXa] at hHeld HBA HBa ⊢
        (try rw [← hga])
        replace HO1 := Lib.hid (own_below HO1.out HBa.out)
        replace HO2 := Lib.hid (own_below HO2.out HBa.out)
        clear hXa hga HBa
        refine wpAnyH_ready (rs := [8]) (by kernel_rfl) (by simp) ?_
        refine AllReadyH.cons rfl (fun K hK => ?_) AllReadyH.nil
        have q0 := HQa.out.cell 0 _ rfl
        have q1 := HQa.out.cell 1 _ rfl
        have u0 := HQa.out.frozen 0
        have u1 := HQa.out.frozen 1
        have HBS2 := Lib.hid (show Below Y1.heap.size Y1 ((Xa.setCell ⟨ga, 0, none⟩ (.slice Ad nd cd)).setCell ⟨ga, 1, none⟩ (.slice Dd md qd)) from (hHeld.2.setCell (p := ⟨ga, 0, none⟩) HGa.out _).setCell (p := ⟨ga, 1, none⟩) HGa.out _)
        have HQS := Lib.hid (show BoxC ((Xa.setCell ⟨ga, 0, none⟩ (.slice Ad nd cd)).setCell ⟨ga, 1, none⟩ (.slice Dd md qd)) ga 35 #[(.slice Ad nd cd), (.slice Dd md qd)] from (HQa.out.set 0 _).set 1 _)
        have HP1 := Lib.hid (show OwnI 0 ((Xa.setCell ⟨ga, 0, none⟩ (.slice Ad nd cd)).setCell ⟨ga, 1, none⟩ (.slice Dd md qd)) (.slice Ad nd cd) _ from own_base (own_box (own_box HO1.out HQa.out (by decide) 0 _) (HQa.out.set 0 _) (by decide) 1 _) (Nat.zero_le _))
        have HP2 := Lib.hid (show OwnI 0 ((Xa.setCell ⟨ga, 0, none⟩ (.slice Ad nd cd)).setCell ⟨ga, 1, none⟩ (.slice Dd md qd)) (.slice Dd md qd) _ from own_base (own_box (own_box HO2.out HQa.out (by decide) 0 _) (HQa.out.set 0 _) (by decide) 1 _) (Nat.zero_le _))
        go_simp
        refine hK.out _ _ ⟨⟨kc HBS2.out x0, kc HBS2.out x1, trivial⟩, HBS2.out⟩ (fun hHeld => ?_)
        clear q0 q1 u0 u1
        clear hK K
        (try simp only [Act.put, pt8])
        refine wpAnyH_ready (rs := [9]) (by kernel_rfl) (by simp) ?_
        refine AllReadyH.cons rfl (fun K hK => ?_) AllReadyH.nil
        go_simp
        refine hK.out _ _ hHeld (fun hHeld => ?_)
        clear hK K
        (try simp only [Act.put, pt8])
        refine wpAnyH_done (by kernel_rfl) ?_ _
        clear hHeld
        go_wp2_with fail
        go_meet
        exact ⟨ga, Ad, nd, cd, Dd, md, qd, rfl, rfl, HM.out, HN.out, HQS.out, HP1.out, HP2.out, HBS2.out⟩
      · -- 7 first
        have HBA := Lib.hid (below_al hHeld.2 (.cells #[.slice none 0 0, .slice none 0 0] 35))
        go_simp
        refine hK.out _ _ ⟨⟨kc HBA.out x0, kc HBA.out x1, trivial⟩, HBA.out⟩ (fun hHeld => ?_)
        clear hK K
        (try simp only [Act.put, pt8])
        have HBa := Lib.hid (below_al (Below.refl Xl.heap.size Xl) (.cells #[.slice none 0 0, .slice none 0 0] 35))
        obtain ⟨Xa, hXa⟩ : ∃ W, W = Xl.alloc (.cells #[.slice none 0 0, .slice none 0 0] 35) := ⟨_, rfl⟩
        obtain ⟨ga, hga⟩ : ∃ g, g = Xl.heap.size := ⟨_, rfl⟩
        have HGa := Lib.hid (show Y1.heap.size ≤ ga from by rw [hga]; exact HBl.out.size)
        have HQa := Lib.hid (show BoxC Xa ga 35 #[.slice none 0 0, .slice none 0 0] from by rw [hXa, hga]; exact BoxC.new Xl _ _)
        rw [← hXa] at hHeld HBA HBa ⊢
        (try rw [← hga])
        replace HLQ := Lib.hid (HLQ.out.below HBa.out HLQ.out.lt)
        clear hXa hga HBa
        refine wpAnyH_ready (rs := [3]) (by kernel_rfl) (by simp) ?_
        refine AllReadyH.cons rfl (fun K hK => ?_) AllReadyH.nil
        go_simp
        refine (ends_any true _ (HPW.out _ hHeld.2) (loose_3 HLQ.out) (Nat.le_refl _) buf_rp (by decide)).mono ?_
        rintro e Xc ⟨Ad, nd, cd, Dd, md, qd, rfl, hm, hn, ho1, ho2, hb⟩
        rw [h1_b]
        rw [h1_o] at hm hn ho1 ho2
        have HM := Lib.hid (show nd = 0 from hm)
        have HN := Lib.hid (show md = 0 from hn)
        have HO1 := Lib.hid ho1
        have HO2 := Lib.hid ho2
        have HBC := Lib.hid (chain hHeld.2 hb)
        replace HQa := Lib.hid (HQa.out.below hb HQa.out.lt)
        refine hK.out _ _ ⟨⟨kc HBC.out x0, kc HBC.out x1, trivial⟩, HBC.out⟩ (fun hHeld => ?_)
        clear hK K
        (try simp only [Act.put, pt8])
        clear hb ho1 ho2 hm hn
        refine wpAnyH_take (i := 4) (v := ?_) rfl (by kernel_rfl) (by kernel_rfl) (by kernel_rfl) (fun _ _ _ h => h) (Or.inl ⟨by rfl, ?_⟩) (by assumption) ?_
        rotate_left
        · intro w hSw; (try dsimp only at hSw); go_simp; (try with_reducible rfl)
        (try simp only [Act.put, pt8])
        refine wpAnyH_take (i := 5) (v := ?_) rfl (by kernel_rfl) (by kernel_rfl) (by kernel_rfl) (fun _ _ _ h => h) (Or.inl ⟨by rfl, ?_⟩) (by assumption) ?_
        rotate_left
        · intro w hSw; (try dsimp only at hSw); go_simp; (try with_reducible rfl)
        (try simp only [Act.put, pt8])
        refine wpAnyH_take (i := 6) (v := ?_) rfl (by kernel_rfl) (by kernel_rfl) (by kernel_rfl) (fun _ _ _ h => h) (Or.inl ⟨by rfl, ?_⟩) (by assumption) ?_
        rotate_left
        · intro w hSw; (try dsimp only at hSw); go_simp; (try with_reducible rfl)
        (try simp only [Act.put, pt8])
        refine wpAnyH_ready (rs := [8]) (by kernel_rfl) (by simp) ?_
        refine AllReadyH.cons rfl (fun K hK => ?_) AllReadyH.nil
        have q0 := HQa.out.cell 0 _ rfl
        have q1 := HQa.out.cell 1 _ rfl
        have u0 := HQa.out.frozen 0
        have u1 := HQa.out.frozen 1
        have HBS2 := Lib.hid (show Below Y1.heap.size Y1 ((Xc.setCell ⟨ga, 0, none⟩ (.slice Ad nd cd)).setCell ⟨ga, 1, none⟩ (.slice Dd md qd)) from (hHeld.2.setCell (p := ⟨ga, 0, none⟩) HGa.out _).setCell (p := ⟨ga, 1, none⟩) HGa.out _)
        have HQS := Lib.hid (show BoxC ((Xc.setCell ⟨ga, 0, none⟩ (.slice Ad nd cd)).setCell ⟨ga, 1, none⟩ (.slice Dd md qd)) ga 35 #[(.slice Ad nd cd), (.slice Dd md qd)] from (HQa.out.set 0 _).set 1 _)
        have HP1 := Lib.hid (show OwnI 0 ((Xc.setCell ⟨ga, 0, none⟩ (.slice Ad nd cd)).setCell ⟨ga, 1, none⟩ (.slice Dd md qd)) (.slice Ad nd cd) _ from own_base (own_box (own_box HO1.out HQa.out (by decide) 0 _) (HQa.out.set 0 _) (by decide) 1 _) (Nat.zero_le _))
        have HP2 := Lib.hid (show OwnI 0 ((Xc.setCell ⟨ga, 0, none⟩ (.slice Ad nd cd)).setCell ⟨ga, 1, none⟩ (.slice Dd md qd)) (.slice Dd md qd) _ from own_base (own_box (own_box HO2.out HQa.out (by decide) 0 _) (HQa.out.set 0 _) (by decide) 1 _) (Nat.zero_le _))
        go_simp
        refine hK.out _ _ ⟨⟨kc HBS2.out x0, kc HBS2.out x1, trivial⟩, HBS2.out⟩ (fun hHeld => ?_)
        clear q0 q1 u0 u1
        clear hK K
        (try simp only [Act.put, pt8])
        refine wpAnyH_ready (rs := [9]) (by kernel_rfl) (by simp) ?_
        refine AllReadyH.cons rfl (fun K hK => ?_) AllReadyH.nil
        go_simp
        refine hK.out _ _ hHeld (fun hHeld => ?_)
        clear hK K
        (try simp only [Act.put, pt8])
        refine wpAnyH_done (by kernel_rfl) ?_ _
        clear hHeld
        go_wp2_with fail
        go_meet
        exact ⟨ga, Ad, nd, cd, Dd, md, qd, rfl, rfl, HM.out, HN.out, HQS.out, HP1.out, HP2.out, HBS2.out⟩
    · -- 7 first
      have HBA := Lib.hid (below_al hHeld.2 (.cells #[.slice none 0 0, .slice none 0 0] 35))
      go_simp
      refine hK.out _ _ ⟨⟨kc HBA.out x0, kc HBA.out x1, trivial⟩, HBA.out⟩ (fun hHeld => ?_)
      clear hK K
      (try simp only [Act.put, pt8])
      have HBa := Lib.hid (below_al (Below.refl Xs.heap.size Xs) (.cells #[.slice none 0 0, .slice none 0 0] 35))
      obtain ⟨Xa, hXa⟩ : ∃ W, W = Xs.alloc (.cells #[.slice none 0 0, .slice none 0 0] 35) := ⟨_, rfl⟩
      obtain ⟨ga, hga⟩ : ∃ g, g = Xs.heap.size := ⟨_, rfl⟩
      have HGa := Lib.hid (show Y1.heap.size ≤ ga from by rw [hga]; exact HXs.out.size)
      have HQa := Lib.hid (show BoxC Xa ga 35 #[.slice none 0 0, .slice none 0 0] from by rw [hXa, hga]; exact BoxC.new Xs _ _)
      rw [← hXa] at hHeld HBA HBa ⊢
      (try rw [← hga])
      clear hXa hga HBa
      refine wpAnyH_ready (rs := [1]) (by kernel_rfl) (by simp) ?_
      refine AllReadyH.cons rfl (fun K hK => ?_) AllReadyH.nil
      go_simp
      refine (loose_any _).mono ?_
      rintro e Xl ⟨gl, rfl, hlq, hb⟩
      have HLQ := Lib.hid hlq
      have HBl := Lib.hid (chain hHeld.2 hb)
      replace HQa := Lib.hid (HQa.out.below hb HQa.out.lt)
      refine hK.out _ _ ⟨⟨kc HBl.out x0, kc HBl.out x1, trivial⟩, HBl.out⟩ (fun hHeld => ?_)
      clear hK K
      (try simp only [Act.put, pt8])
      clear hb hlq
      refine wpAnyH_take (i := 2) (v := ?_) rfl (by kernel_rfl) (by kernel_rfl) (by kernel_rfl) (fun _ _ _ h => h) (Or.inl ⟨by rfl, ?_⟩) (by assumption) ?_
      rotate_left
      · intro w hSw; (try dsimp only at hSw); go_simp; (try with_reducible rfl)
      (try simp only [Act.put, pt8])
      refine wpAnyH_ready (rs := [3]) (by kernel_rfl) (by simp) ?_
      refine AllReadyH.cons rfl (fun K hK => ?_) AllReadyH.nil
      go_simp
      refine (ends_any true _ (HPW.out _ hHeld.2) (loose_3 HLQ.out) (Nat.le_refl _) buf_rp (by decide)).mono ?_
      rintro e Xc ⟨Ad, nd, cd, Dd, md, qd, rfl, hm, hn, ho1, ho2, hb⟩
      rw [h1_b]
      rw [h1_o] at hm hn ho1 ho2
      have HM := Lib.hid (show nd = 0 from hm)
      have HN := Lib.hid (show md = 0 from hn)
      have HO1 := Lib.hid ho1
      have HO2 := Lib.hid ho2
      have HBC := Lib.hid (chain hHeld.2 hb)
      replace HQa := Lib.hid (HQa.out.below hb HQa.out.lt)
      refine hK.out _ _ ⟨⟨kc HBC.out x0, kc HBC.out x1, trivial⟩, HBC.out⟩ (fun hHeld => ?_)
      clear hK K
      (try simp only [Act.put, pt8])
      clear hb ho1 ho2 hm hn
      refine wpAnyH_take (i := 4) (v := ?_) rfl (by kernel_rfl) (by kernel_rfl) (by kernel_rfl) (fun _ _ _ h => h) (Or.inl ⟨by rfl, ?_⟩) (by assumption) ?_
      rotate_left
      · intro w hSw; (try dsimp only at hSw); go_simp; (try with_reducible rfl)
      (try simp only [Act.put, pt8])
      refine wpAnyH_take (i := 5) (v := ?_) rfl (by kernel_rfl) (by kernel_rfl) (by kernel_rfl) (fun _ _ _ h => h) (Or.inl ⟨by rfl, ?_⟩) (by assumption) ?_
      rotate_left
      · intro w hSw; (try dsimp only at hSw); go_simp; (try with_reducible rfl)
      (try simp only [Act.put, pt8])
      refine wpAnyH_take (i := 6) (v := ?_) rfl (by kernel_rfl) (by kernel_rfl) (by kernel_rfl) (fun _ _ _ h => h) (Or.inl ⟨by rfl, ?_⟩) (by assumption) ?_
      rotate_left
      · intro w hSw; (try dsimp only at hSw); go_simp; (try with_reducible rfl)
      (try simp only [Act.put, pt8])
      refine wpAnyH_ready (rs := [8]) (by kernel_rfl) (by simp) ?_
      refine AllReadyH.cons rfl (fun K hK => ?_) AllReadyH.nil
      have q0 := HQa.out.cell 0 _ rfl
      have q1 := HQa.out.cell 1 _ rfl
      have u0 := HQa.out.frozen 0
      have u1 := HQa.out.frozen 1
      have HBS2 := Lib.hid (show Below Y1.heap.size Y1 ((Xc.setCell ⟨ga, 0, none⟩ (.slice Ad nd cd)).setCell ⟨ga, 1, none⟩ (.slice Dd md qd)) from (hHeld.2.setCell (p := ⟨ga, 0, none⟩) HGa.out _).setCell (p := ⟨ga, 1, none⟩) HGa.out _)
      have HQS := Lib.hid (show BoxC ((Xc.setCell ⟨ga, 0, none⟩ (.slice Ad nd cd)).setCell ⟨ga, 1, none⟩ (.slice Dd md qd)) ga 35 #[(.slice Ad nd cd), (.slice Dd md qd)] from (HQa.out.set 0 _).set 1 _)
      have HP1 := Lib.hid (show OwnI 0 ((Xc.setCell ⟨ga, 0, none⟩ (.slice Ad nd cd)).setCell ⟨ga, 1, none⟩ (.slice Dd md qd)) (.slice Ad nd cd) _ from own_base (own_box (own_box HO1.out HQa.out (by decide) 0 _) (HQa.out.set 0 _) (by decide) 1 _) (Nat.zero_le _))
      have HP2 := Lib.hid (show OwnI 0 ((Xc.setCell ⟨ga, 0, none⟩ (.slice Ad nd cd)).setCell ⟨ga, 1, none⟩ (.slice Dd md qd)) (.slice Dd md qd) _ from own_base (own_box (own_box HO2.out HQa.out (by decide) 0 _) (HQa.out.set 0 _) (by decide) 1 _) (Nat.zero_le _))
      go_simp
      refine hK.out _ _ ⟨⟨kc HBS2.out x0, kc HBS2.out x1, trivial⟩, HBS2.out⟩ (fun hHeld => ?_)
      clear q0 q1 u0 u1
      clear hK K
      (try simp only [Act.put, pt8])
      refine wpAnyH_ready (rs := [9]) (by kernel_rfl) (by simp) ?_
      refine AllReadyH.cons rfl (fun K hK => ?_) AllReadyH.nil
      go_simp
      refine hK.out _ _ hHeld (fun hHeld => ?_)
      clear hK K
      (try simp only [Act.put, pt8])
      refine wpAnyH_done (by kernel_rfl) ?_ _
      clear hHeld
      go_wp2_with fail
      go_meet
      exact ⟨ga, Ad, nd, cd, Dd, md, qd, rfl, rfl, HM.out, HN.out, HQS.out, HP1.out, HP2.out, HBS2.out⟩
  case rest =>
  obtain ⟨g2, A2, m2, c2, B2, k2, e2, rfl, rfl, rfl, rfl, hq, ho1, ho2, hb⟩ := hcut
  obtain ⟨Z2, hZ⟩ : ∃ W, W = wc := ⟨_, rfl⟩
  rw [← hZ] at hq ho1 ho2 hb ⊢
  clear hZ
  have HQ2 := Lib.hid hq
  have HU2 := Lib.hid ho1
  have HV2 := Lib.hid ho2
  have HST := Lib.hid hb
  clear hq ho1 ho2 hb x0 x1
  replace HX := Lib.hid (HX.out.below HST.out HX.out.lt)
  replace HB := Lib.hid (chain HB.out HST.out)
  have x0 := HX.out.cell 0 _ rfl
  have x1 := HX.out.cell 1 _ rfl
  go_wp2_with fail
  obtain ⟨Z3, hZ3⟩ : ∃ W, W = Z2.alloc (.cells #[.int .i64 0, .bool false, .int .i64 0, .bool false, .int .i64 1, .bool false, .int .i64 1, .bool false] 47) := ⟨_, rfl⟩
  have HST := Lib.hid (show Below Z2.heap.size Z2 Z3 from by rw [hZ3]; exact below_al (Below.refl _ _) _)
  have HLT := Lib.hid (show BoxC Z3 Z2.heap.size 47 #[.int .i64 0, .bool false, .int .i64 0, .bool false, .int .i64 1, .bool false, .int .i64 1, .bool false] from by rw [hZ3]; exact BoxC.new Z2 _ _)
  rw [← hZ3]
  clear hZ3
  clear x0 x1
  replace HX := Lib.hid (HX.out.below HST.out HX.out.lt)
  replace HQ2 := Lib.hid (HQ2.out.below HST.out HQ2.out.lt)
  replace HU2 := Lib.hid (own_below HU2.out HST.out)
  replace HV2 := Lib.hid (own_below HV2.out HST.out)
  replace HB := Lib.hid (chain HB.out HST.out)
  refine (ends_any (l := hl2) false _ (HPW.out _ HB.out) (rw_box HLT.out hl2 4 4 (fun j u hu => by simpa [hl2, kiC] using hu) rfl (by decide) (by decide)) (Nat.le_refl _) buf_rp (by decide)).mono ?_
  rintro e V3 ⟨A4, m4, c4, B4, k4, e4, rfl, hm, hn, ho1, ho2, hb⟩
  rw [h2_b]
  rw [h2_o] at hm hn ho1 ho2
  obtain rfl : m4 = 2 := hm
  obtain rfl : k4 = 8 := hn
  have HU4 := Lib.hid (show OwnI 0 V3 _ [1, 1] from own_base ho1 (Nat.zero_le _))
  have HV4 := Lib.hid (show OwnI 0 V3 _ [0, 0, 0, 0, 1, 0, 0, 0] from own_base ho2 (Nat.zero_le _))
  replace HST := Lib.hid hb
  clear ho1 ho2 hb HLT
  (try clear hm)
  (try clear hn)
  replace HX := Lib.hid (HX.out.below HST.out HX.out.lt)
  replace HQ2 := Lib.hid (HQ2.out.below HST.out HQ2.out.lt)
  replace HU2 := Lib.hid (own_below HU2.out HST.out)
  replace HV2 := Lib.hid (own_below HV2.out HST.out)
  replace HB := Lib.hid (chain HB.out HST.out)
  go_upto_region 4 with fail
  obtain ⟨Z4, hZ⟩ : ∃ W, W = V3.alloc (.cells #[.slice A4 2 c4, .slice B4 8 e4] 35) := ⟨_, rfl⟩
  obtain ⟨g4, hg⟩ : ∃ g, g = V3.heap.size := ⟨_, rfl⟩
  have HQ4 := Lib.hid (show BoxC Z4 g4 35 #[.slice A4 2 c4, .slice B4 8 e4] from by rw [hZ, hg]; exact BoxC.new V3 _ _)
  replace HST := Lib.hid (show Below V3.heap.size V3 Z4 from by rw [hZ]; exact below_al (Below.refl _ _) _)
  rw [← hZ]
  (try rw [← hg])
  clear hZ hg
  replace HX := Lib.hid (HX.out.below HST.out HX.out.lt)
  replace HQ2 := Lib.hid (HQ2.out.below HST.out HQ2.out.lt)
  replace HU2 := Lib.hid (own_below HU2.out HST.out)
  replace HV2 := Lib.hid (own_below HV2.out HST.out)
  replace HU4 := Lib.hid (own_below HU4.out HST.out)
  replace HV4 := Lib.hid (own_below HV4.out HST.out)
  replace HB := Lib.hid (chain HB.out HST.out)
  have x0 := HX.out.cell 0 _ rfl
  have x1 := HX.out.cell 1 _ rfl
  go_wp2_with fail
  obtain ⟨Z5, hZ5⟩ : ∃ W, W = Z4.alloc (.cells #[.int .i64 0, .bool false, .int .i64 0, .bool true] 47) := ⟨_, rfl⟩
  have HST := Lib.hid (show Below Z4.heap.size Z4 Z5 from by rw [hZ5]; exact below_al (Below.refl _ _) _)
  have HLT := Lib.hid (show BoxC Z5 Z4.heap.size 47 #[.int .i64 0, .bool false, .int .i64 0, .bool true] from by rw [hZ5]; exact BoxC.new Z4 _ _)
  rw [← hZ5]
  clear hZ5
  clear x0 x1
  replace HX := Lib.hid (HX.out.below HST.out HX.out.lt)
  replace HQ2 := Lib.hid (HQ2.out.below HST.out HQ2.out.lt)
  replace HQ4 := Lib.hid (HQ4.out.below HST.out HQ4.out.lt)
  replace HU2 := Lib.hid (own_below HU2.out HST.out)
  replace HV2 := Lib.hid (own_below HV2.out HST.out)
  replace HU4 := Lib.hid (own_below HU4.out HST.out)
  replace HV4 := Lib.hid (own_below HV4.out HST.out)
  replace HB := Lib.hid (chain HB.out HST.out)
  refine (run_any (l := hl3) false _ (HPW.out _ HB.out) (rw_box HLT.out hl3 2 2 (fun j u hu => by simpa [hl3, kiC] using hu) rfl (by decide) (by decide)) (Nat.le_refl _) buf_rp (by decide)).mono ?_
  rintro e V5 ⟨vm, vt, ps6, rfl, hos, hb⟩
  rw [h3_r] at hos ⊢
  obtain ⟨A6, c6, rfl⟩ := own_slice (n := 2) hos.mem
  obtain ⟨B6, e6, rfl⟩ := own_slice (n := 2) hos.ths
  have HS6 := Lib.hid (show OwnSt 0 V5 (.slice A6 2 c6) (.slice B6 2 e6) hs3 ps6 from hos.base (Nat.zero_le _))
  replace HST := Lib.hid hb
  clear hos hb HLT
  replace HX := Lib.hid (HX.out.below HST.out HX.out.lt)
  replace HQ2 := Lib.hid (HQ2.out.below HST.out HQ2.out.lt)
  replace HQ4 := Lib.hid (HQ4.out.below HST.out HQ4.out.lt)
  replace HU2 := Lib.hid (own_below HU2.out HST.out)
  replace HV2 := Lib.hid (own_below HV2.out HST.out)
  replace HU4 := Lib.hid (own_below HU4.out HST.out)
  replace HV4 := Lib.hid (own_below HV4.out HST.out)
  replace HB := Lib.hid (chain HB.out HST.out)
  go_upto_region 5 with fail
  obtain ⟨Z6, hZ⟩ : ∃ W, W = V5.alloc (.cells #[.slice A6 2 c6, .slice B6 2 e6] 31) := ⟨_, rfl⟩
  obtain ⟨g6, hg⟩ : ∃ g, g = V5.heap.size := ⟨_, rfl⟩
  have HQ6 := Lib.hid (show BoxC Z6 g6 31 #[.slice A6 2 c6, .slice B6 2 e6] from by rw [hZ, hg]; exact BoxC.new V5 _ _)
  replace HST := Lib.hid (show Below V5.heap.size V5 Z6 from by rw [hZ]; exact below_al (Below.refl _ _) _)
  rw [← hZ]
  (try rw [← hg])
  clear hZ hg
  replace HX := Lib.hid (HX.out.below HST.out HX.out.lt)
  replace HQ2 := Lib.hid (HQ2.out.below HST.out HQ2.out.lt)
  replace HQ4 := Lib.hid (HQ4.out.below HST.out HQ4.out.lt)
  replace HU2 := Lib.hid (own_below HU2.out HST.out)
  replace HV2 := Lib.hid (own_below HV2.out HST.out)
  replace HU4 := Lib.hid (own_below HU4.out HST.out)
  replace HV4 := Lib.hid (own_below HV4.out HST.out)
  replace HB := Lib.hid (chain HB.out HST.out)
  replace HS6 := Lib.hid (HS6.out.below HST.out)
  have x0 := HX.out.cell 0 _ rfl
  have x1 := HX.out.cell 1 _ rfl
  go_wp2_with fail
  obtain ⟨Z7, hZ7⟩ : ∃ W, W = Z6.alloc (.cells #[.int .i64 0, .bool false, .int .i64 1, .bool false] 47) := ⟨_, rfl⟩
  have HST := Lib.hid (show Below Z6.heap.size Z6 Z7 from by rw [hZ7]; exact below_al (Below.refl _ _) _)
  have HLT := Lib.hid (show BoxC Z7 Z6.heap.size 47 #[.int .i64 0, .bool false, .int .i64 1, .bool false] from by rw [hZ7]; exact BoxC.new Z6 _ _)
  rw [← hZ7]
  clear hZ7
  clear x0 x1
  replace HX := Lib.hid (HX.out.below HST.out HX.out.lt)
  replace HQ2 := Lib.hid (HQ2.out.below HST.out HQ2.out.lt)
  replace HQ4 := Lib.hid (HQ4.out.below HST.out HQ4.out.lt)
  replace HQ6 := Lib.hid (HQ6.out.below HST.out HQ6.out.lt)
  replace HU2 := Lib.hid (own_below HU2.out HST.out)
  replace HV2 := Lib.hid (own_below HV2.out HST.out)
  replace HU4 := Lib.hid (own_below HU4.out HST.out)
  replace HV4 := Lib.hid (own_below HV4.out HST.out)
  replace HB := Lib.hid (chain HB.out HST.out)
  replace HS6 := Lib.hid (HS6.out.below HST.out)
  refine (strict_run_any (l := hl4) _ (HPW.out _ HB.out) (rw_box HLT.out hl4 2 2 (fun j u hu => by simpa [hl4, kiC] using hu) rfl (by decide) (by decide)) (Nat.le_refl _) buf_rp (by decide)).mono ?_
  rintro e V7 ⟨A9, m9, c9, rfl, hm, ho, hb⟩
  rw [h4_b]
  rw [h4_s] at hm ho
  replace HST := Lib.hid hb
  obtain rfl : m9 = 4 := hm
  have HK9 := Lib.hid (show OwnKi 0 V7 (.slice A9 4 c9) [(0, false), (0, true), (1, false), (1, true)] from own_base ho (Nat.zero_le _))
  clear ho hb HLT
  (try clear hm)
  replace HX := Lib.hid (HX.out.below HST.out HX.out.lt)
  replace HQ2 := Lib.hid (HQ2.out.below HST.out HQ2.out.lt)
  replace HQ4 := Lib.hid (HQ4.out.below HST.out HQ4.out.lt)
  replace HQ6 := Lib.hid (HQ6.out.below HST.out HQ6.out.lt)
  replace HU2 := Lib.hid (own_below HU2.out HST.out)
  replace HV2 := Lib.hid (own_below HV2.out HST.out)
  replace HU4 := Lib.hid (own_below HU4.out HST.out)
  replace HV4 := Lib.hid (own_below HV4.out HST.out)
  replace HB := Lib.hid (chain HB.out HST.out)
  replace HS6 := Lib.hid (HS6.out.below HST.out)
  go_upto_region 6 with fail
  have x0 := HX.out.cell 0 _ rfl
  have x1 := HX.out.cell 1 _ rfl
  go_wp2_with fail
  obtain ⟨Z8, hZ8⟩ : ∃ W, W = V7.alloc (.cells #[.int .i64 2, .bool false] 47) := ⟨_, rfl⟩
  have HST := Lib.hid (show Below V7.heap.size V7 Z8 from by rw [hZ8]; exact below_al (Below.refl _ _) _)
  have HLT := Lib.hid (show BoxC Z8 V7.heap.size 47 #[.int .i64 2, .bool false] from by rw [hZ8]; exact BoxC.new V7 _ _)
  rw [← hZ8]
  clear hZ8
  clear x0 x1
  replace HX := Lib.hid (HX.out.below HST.out HX.out.lt)
  replace HQ2 := Lib.hid (HQ2.out.below HST.out HQ2.out.lt)
  replace HQ4 := Lib.hid (HQ4.out.below HST.out HQ4.out.lt)
  replace HQ6 := Lib.hid (HQ6.out.below HST.out HQ6.out.lt)
  replace HU2 := Lib.hid (own_below HU2.out HST.out)
  replace HV2 := Lib.hid (own_below HV2.out HST.out)
  replace HU4 := Lib.hid (own_below HU4.out HST.out)
  replace HV4 := Lib.hid (own_below HV4.out HST.out)
  replace HK9 := Lib.hid (own_below HK9.out HST.out)
  replace HB := Lib.hid (chain HB.out HST.out)
  replace HS6 := Lib.hid (HS6.out.below HST.out)
  refine (strict_run_any (l := hl5) _ (HPW.out _ HB.out) (rw_box HLT.out hl5 1 1 (fun j u hu => by simpa [hl5, kiC] using hu) rfl (by decide) (by decide)) (Nat.le_refl _) buf_rp (by decide)).mono ?_
  rintro e V8 ⟨A11, m11, c11, rfl, hm, ho, hb⟩
  rw [h5_b]
  rw [h5_s] at hm ho
  replace HST := Lib.hid hb
  clear ho hb HLT
  (try clear hm)
  replace HX := Lib.hid (HX.out.below HST.out HX.out.lt)
  replace HQ2 := Lib.hid (HQ2.out.below HST.out HQ2.out.lt)
  replace HQ4 := Lib.hid (HQ4.out.below HST.out HQ4.out.lt)
  replace HQ6 := Lib.hid (HQ6.out.below HST.out HQ6.out.lt)
  replace HU2 := Lib.hid (own_below HU2.out HST.out)
  replace HV2 := Lib.hid (own_below HV2.out HST.out)
  replace HU4 := Lib.hid (own_below HU4.out HST.out)
  replace HV4 := Lib.hid (own_below HV4.out HST.out)
  replace HK9 := Lib.hid (own_below HK9.out HST.out)
  replace HB := Lib.hid (chain HB.out HST.out)
  replace HS6 := Lib.hid (HS6.out.below HST.out)
  go_upto_region 7 with fail
  have x0 := HX.out.cell 0 _ rfl
  have x1 := HX.out.cell 1 _ rfl
  go_cut [13, 14] (fun vb vi wx => ∃ g A n c D m k, vb = .pointer (some ⟨g, 0, none⟩) ∧ vi = .bool true ∧ n = 2 ∧ m = 8 ∧ BoxC wx g 35 #[.slice A n c, .slice D m k] ∧ OwnI 0 wx (.slice A n c) [1, 1] ∧ OwnI 0 wx (.slice D m k) [0, 0, 0, 0, 0, 0, 0, 0] ∧ Below V8.heap.size V8 wx)
  case first =>
    refine wp_region_held_drew (S := (fun w' => (w'.cell? ⟨gp, 0, none⟩ = some (.slice P0 n0 d0) ∧ w'.cell? ⟨gp, 1, none⟩ = some (.slice P1 n1 d1) ∧ True) ∧ Below V8.heap.size V8 w')) (by kernel_rfl) ⟨⟨x0, x1, trivial⟩, below_drewN (Below.refl _ _) 1⟩ (fun hHeld => ?_)
    obtain ⟨Xs, hXs⟩ : ∃ W, W = V8.drew := ⟨_, rfl⟩
    have HXs := Lib.hid (show Below V8.heap.size V8 Xs from by rw [hXs]; exact below_drewN (Below.refl _ _) 1)
    rw [← hXs] at hHeld ⊢
    clear hXs
    refine wpAnyH_take (i := 0) (v := ?_) rfl (by kernel_rfl) (by kernel_rfl) (by kernel_rfl) (fun _ _ _ h => h) (Or.inl ⟨by rfl, ?_⟩) (by assumption) ?_
    rotate_left
    · intro w hSw; (try dsimp only at hSw); go_simp; (try with_reducible rfl)
    (try simp only [Act.put, pt8])
    refine wpAnyH_ready (rs := [1, 6]) (by kernel_rfl) (by simp) ?_
    refine AllReadyH.cons rfl (fun K hK => ?_) (AllReadyH.cons rfl (fun K hK => ?_) (AllReadyH.nil))
    · -- 1 first
      go_simp
      refine (loose_any _).mono ?_
      rintro e Xl ⟨gl, rfl, hlq, hb⟩
      have HLQ := Lib.hid hlq
      have HBl := Lib.hid (chain hHeld.2 hb)
      refine hK.out _ _ ⟨⟨kc HBl.out x0, kc HBl.out x1, trivial⟩, HBl.out⟩ (fun hHeld => ?_)
      clear hK K
      (try simp only [Act.put, pt8])
      clear hb hlq
      refine wpAnyH_ready (rs := [2, 6]) (by kernel_rfl) (by simp) ?_
      refine AllReadyH.cons rfl (fun K hK => ?_) (AllReadyH.cons rfl (fun K hK => ?_) (AllReadyH.nil))
      · -- 2 first
        go_simp
        refine (ends_any true _ (HPW.out _ (chain HB.out hHeld.2)) (loose_at HLQ.out) (Nat.le_refl _) buf_rp (by decide)).mono ?_
        rintro e Xc ⟨Ad, nd, cd, Dd, md, qd, rfl, hm, hn, ho1, ho2, hb⟩
        rw [h6_b]
        rw [h6_o] at hm hn ho1 ho2
        have HM := Lib.hid (show nd = 2 from hm)
        have HN := Lib.hid (show md = 8 from hn)
        have HO1 := Lib.hid ho1
        have HO2 := Lib.hid ho2
        have HBC := Lib.hid (chain hHeld.2 hb)
        refine hK.out _ _ ⟨⟨kc HBC.out x0, kc HBC.out x1, trivial⟩, HBC.out⟩ (fun hHeld => ?_)
        clear hK K
        (try simp only [Act.put, pt8])
        clear hb ho1 ho2 hm hn
        refine wpAnyH_take (i := 3) (v := ?_) rfl (by kernel_rfl) (by kernel_rfl) (by kernel_rfl) (fun _ _ _ h => h) (Or.inl ⟨by rfl, ?_⟩) (by assumption) ?_
        rotate_left
        · intro w hSw; (try dsimp only at hSw); go_simp; (try with_reducible rfl)
        (try simp only [Act.put, pt8])
        refine wpAnyH_take (i := 4) (v := ?_) rfl (by kernel_rfl) (by kernel_rfl) (by kernel_rfl) (fun _ _ _ h => h) (Or.inl ⟨by rfl, ?_⟩) (by assumption) ?_
        rotate_left
        · intro w hSw; (try dsimp only at hSw); go_simp; (try with_reducible rfl)
        (try simp only [Act.put, pt8])
        refine wpAnyH_take (i := 5) (v := ?_) rfl (by kernel_rfl) (by kernel_rfl) (by kernel_rfl) (fun _ _ _ h => h) (Or.inl ⟨by rfl, ?_⟩) (by assumption) ?_
        rotate_left
        · intro w hSw; (try dsimp only at hSw); go_simp; (try with_reducible rfl)
        (try simp only [Act.put, pt8])
        refine wpAnyH_ready (rs := [6]) (by kernel_rfl) (by simp) ?_
        refine AllReadyH.cons rfl (fun K hK => ?_) AllReadyH.nil
        have HBA := Lib.hid (below_al hHeld.2 (.cells #[.slice none 0 0, .slice none 0 0] 35))
        go_simp
        refine hK.out _ _ ⟨⟨kc HBA.out x0, kc HBA.out x1, trivial⟩, HBA.out⟩ (fun hHeld => ?_)
        clear hK K
        (try simp only [Act.put, pt8])
        have HBa := Lib.hid (below_al (Below.refl Xc.heap.size Xc) (.cells #[.slice none 0 0, .slice none 0 0] 35))
        obtain ⟨Xa, hXa⟩ : ∃ W, W = Xc.alloc (.cells #[.slice none 0 0, .slice none 0 0] 35) := ⟨_, rfl⟩
        obtain ⟨ga, hga⟩ : ∃ g, g = Xc.heap.size := ⟨_, rfl⟩
        have HGa := Lib.hid (show V8.heap.size ≤ ga from by rw [hga]; exact HBC.out.size)
        have HQa := Lib.hid (show BoxC Xa ga 35 #[.slice none 0 0, .slice none 0 0] from by rw [hXa, hga]; exact BoxC.new Xc _ _)
        rw [← hXa] at hHeld HBA HBa ⊢
        (try rw [← hga])
        replace HO1 := Lib.hid (own_below HO1.out HBa.out)
        replace HO2 := Lib.hid (own_below HO2.out HBa.out)
        clear hXa hga HBa
        refine wpAnyH_ready (rs := [7]) (by kernel_rfl) (by simp) ?_
        refine AllReadyH.cons rfl (fun K hK => ?_) AllReadyH.nil
        have q0 := HQa.out.cell 0 _ rfl
        have q1 := HQa.out.cell 1 _ rfl
        have u0 := HQa.out.frozen 0
        have u1 := HQa.out.frozen 1
        have HBS2 := Lib.hid (show Below V8.heap.size V8 ((Xa.setCell ⟨ga, 0, none⟩ (.slice Ad nd cd)).setCell ⟨ga, 1, none⟩ (.slice Dd md qd)) from (hHeld.2.setCell (p := ⟨ga, 0, none⟩) HGa.out _).setCell (p := ⟨ga, 1, none⟩) HGa.out _)
        have HQS := Lib.hid (show BoxC ((Xa.setCell ⟨ga, 0, none⟩ (.slice Ad nd cd)).setCell ⟨ga, 1, none⟩ (.slice Dd md qd)) ga 35 #[(.slice Ad nd cd), (.slice Dd md qd)] from (HQa.out.set 0 _).set 1 _)
        have HP1 := Lib.hid (show OwnI 0 ((Xa.setCell ⟨ga, 0, none⟩ (.slice Ad nd cd)).setCell ⟨ga, 1, none⟩ (.slice Dd md qd)) (.slice Ad nd cd) _ from own_base (own_box (own_box HO1.out HQa.out (by decide) 0 _) (HQa.out.set 0 _) (by decide) 1 _) (Nat.zero_le _))
        have HP2 := Lib.hid (show OwnI 0 ((Xa.setCell ⟨ga, 0, none⟩ (.slice Ad nd cd)).setCell ⟨ga, 1, none⟩ (.slice Dd md qd)) (.slice Dd md qd) _ from own_base (own_box (own_box HO2.out HQa.out (by decide) 0 _) (HQa.out.set 0 _) (by decide) 1 _) (Nat.zero_le _))
        go_simp
        refine hK.out _ _ ⟨⟨kc HBS2.out x0, kc HBS2.out x1, trivial⟩, HBS2.out⟩ (fun hHeld => ?_)
        clear q0 q1 u0 u1
        clear hK K
        (try simp only [Act.put, pt8])
        refine wpAnyH_ready (rs := [8]) (by kernel_rfl) (by simp) ?_
        refine AllReadyH.cons rfl (fun K hK => ?_) AllReadyH.nil
        go_simp
        refine hK.out _ _ hHeld (fun hHeld => ?_)
        clear hK K
        (try simp only [Act.put, pt8])
        refine wpAnyH_done (by kernel_rfl) ?_ _
        clear hHeld
        go_wp2_with fail
        go_meet
        exact ⟨ga, Ad, nd, cd, Dd, md, qd, rfl, rfl, HM.out, HN.out, HQS.out, HP1.out, HP2.out, HBS2.out⟩
      · -- 6 first
        have HBA := Lib.hid (below_al hHeld.2 (.cells #[.slice none 0 0, .slice none 0 0] 35))
        go_simp
        refine hK.out _ _ ⟨⟨kc HBA.out x0, kc HBA.out x1, trivial⟩, HBA.out⟩ (fun hHeld => ?_)
        clear hK K
        (try simp only [Act.put, pt8])
        have HBa := Lib.hid (below_al (Below.refl Xl.heap.size Xl) (.cells #[.slice none 0 0, .slice none 0 0] 35))
        obtain ⟨Xa, hXa⟩ : ∃ W, W = Xl.alloc (.cells #[.slice none 0 0, .slice none 0 0] 35) := ⟨_, rfl⟩
        obtain ⟨ga, hga⟩ : ∃ g, g = Xl.heap.size := ⟨_, rfl⟩
        have HGa := Lib.hid (show V8.heap.size ≤ ga from by rw [hga]; exact HBl.out.size)
        have HQa := Lib.hid (show BoxC Xa ga 35 #[.slice none 0 0, .slice none 0 0] from by rw [hXa, hga]; exact BoxC.new Xl _ _)
        rw [← hXa] at hHeld HBA HBa ⊢
        (try rw [← hga])
        replace HLQ := Lib.hid (HLQ.out.below HBa.out HLQ.out.lt)
        clear hXa hga HBa
        refine wpAnyH_ready (rs := [2]) (by kernel_rfl) (by simp) ?_
        refine AllReadyH.cons rfl (fun K hK => ?_) AllReadyH.nil
        go_simp
        refine (ends_any true _ (HPW.out _ (chain HB.out hHeld.2)) (loose_at HLQ.out) (Nat.le_refl _) buf_rp (by decide)).mono ?_
        rintro e Xc ⟨Ad, nd, cd, Dd, md, qd, rfl, hm, hn, ho1, ho2, hb⟩
        rw [h6_b]
        rw [h6_o] at hm hn ho1 ho2
        have HM := Lib.hid (show nd = 2 from hm)
        have HN := Lib.hid (show md = 8 from hn)
        have HO1 := Lib.hid ho1
        have HO2 := Lib.hid ho2
        have HBC := Lib.hid (chain hHeld.2 hb)
        replace HQa := Lib.hid (HQa.out.below hb HQa.out.lt)
        refine hK.out _ _ ⟨⟨kc HBC.out x0, kc HBC.out x1, trivial⟩, HBC.out⟩ (fun hHeld => ?_)
        clear hK K
        (try simp only [Act.put, pt8])
        clear hb ho1 ho2 hm hn
        refine wpAnyH_take (i := 3) (v := ?_) rfl (by kernel_rfl) (by kernel_rfl) (by kernel_rfl) (fun _ _ _ h => h) (Or.inl ⟨by rfl, ?_⟩) (by assumption) ?_
        rotate_left
        · intro w hSw; (try dsimp only at hSw); go_simp; (try with_reducible rfl)
        (try simp only [Act.put, pt8])
        refine wpAnyH_take (i := 4) (v := ?_) rfl (by kernel_rfl) (by kernel_rfl) (by kernel_rfl) (fun _ _ _ h => h) (Or.inl ⟨by rfl, ?_⟩) (by assumption) ?_
        rotate_left
        · intro w hSw; (try dsimp only at hSw); go_simp; (try with_reducible rfl)
        (try simp only [Act.put, pt8])
        refine wpAnyH_take (i := 5) (v := ?_) rfl (by kernel_rfl) (by kernel_rfl) (by kernel_rfl) (fun _ _ _ h => h) (Or.inl ⟨by rfl, ?_⟩) (by assumption) ?_
        rotate_left
        · intro w hSw; (try dsimp only at hSw); go_simp; (try with_reducible rfl)
        (try simp only [Act.put, pt8])
        refine wpAnyH_ready (rs := [7]) (by kernel_rfl) (by simp) ?_
        refine AllReadyH.cons rfl (fun K hK => ?_) AllReadyH.nil
        have q0 := HQa.out.cell 0 _ rfl
        have q1 := HQa.out.cell 1 _ rfl
        have u0 := HQa.out.frozen 0
        have u1 := HQa.out.frozen 1
        have HBS2 := Lib.hid (show Below V8.heap.size V8 ((Xc.setCell ⟨ga, 0, none⟩ (.slice Ad nd cd)).setCell ⟨ga, 1, none⟩ (.slice Dd md qd)) from (hHeld.2.setCell (p := ⟨ga, 0, none⟩) HGa.out _).setCell (p := ⟨ga, 1, none⟩) HGa.out _)
        have HQS := Lib.hid (show BoxC ((Xc.setCell ⟨ga, 0, none⟩ (.slice Ad nd cd)).setCell ⟨ga, 1, none⟩ (.slice Dd md qd)) ga 35 #[(.slice Ad nd cd), (.slice Dd md qd)] from (HQa.out.set 0 _).set 1 _)
        have HP1 := Lib.hid (show OwnI 0 ((Xc.setCell ⟨ga, 0, none⟩ (.slice Ad nd cd)).setCell ⟨ga, 1, none⟩ (.slice Dd md qd)) (.slice Ad nd cd) _ from own_base (own_box (own_box HO1.out HQa.out (by decide) 0 _) (HQa.out.set 0 _) (by decide) 1 _) (Nat.zero_le _))
        have HP2 := Lib.hid (show OwnI 0 ((Xc.setCell ⟨ga, 0, none⟩ (.slice Ad nd cd)).setCell ⟨ga, 1, none⟩ (.slice Dd md qd)) (.slice Dd md qd) _ from own_base (own_box (own_box HO2.out HQa.out (by decide) 0 _) (HQa.out.set 0 _) (by decide) 1 _) (Nat.zero_le _))
        go_simp
        refine hK.out _ _ ⟨⟨kc HBS2.out x0, kc HBS2.out x1, trivial⟩, HBS2.out⟩ (fun hHeld => ?_)
        clear q0 q1 u0 u1
        clear hK K
        (try simp only [Act.put, pt8])
        refine wpAnyH_ready (rs := [8]) (by kernel_rfl) (by simp) ?_
        refine AllReadyH.cons rfl (fun K hK => ?_) AllReadyH.nil
        go_simp
        refine hK.out _ _ hHeld (fun hHeld => ?_)
        clear hK K
        (try simp only [Act.put, pt8])
        refine wpAnyH_done (by kernel_rfl) ?_ _
        clear hHeld
        go_wp2_with fail
        go_meet
        exact ⟨ga, Ad, nd, cd, Dd, md, qd, rfl, rfl, HM.out, HN.out, HQS.out, HP1.out, HP2.out, HBS2.out⟩
    · -- 6 first
      have HBA := Lib.hid (below_al hHeld.2 (.cells #[.slice none 0 0, .slice none 0 0] 35))
      go_simp
      refine hK.out _ _ ⟨⟨kc HBA.out x0, kc HBA.out x1, trivial⟩, HBA.out⟩ (fun hHeld => ?_)
      clear hK K
      (try simp only [Act.put, pt8])
      have HBa := Lib.hid (below_al (Below.refl Xs.heap.size Xs) (.cells #[.slice none 0 0, .slice none 0 0] 35))
      obtain ⟨Xa, hXa⟩ : ∃ W, W = Xs.alloc (.cells #[.slice none 0 0, .slice none 0 0] 35) := ⟨_, rfl⟩
      obtain ⟨ga, hga⟩ : ∃ g, g = Xs.heap.size := ⟨_, rfl⟩
      have HGa := Lib.hid (show V8.heap.size ≤ ga from by rw [hga]; exact HXs.out.size)
      have HQa := Lib.hid (show BoxC Xa ga 35 #[.slice none 0 0, .slice none 0 0] from by rw [hXa, hga]; exact BoxC.new Xs _ _)
      rw [← hXa] at hHeld HBA HBa ⊢
      (try rw [← hga])
      clear hXa hga HBa
      refine wpAnyH_ready (rs := [1]) (by kernel_rfl) (by simp) ?_
      refine AllReadyH.cons rfl (fun K hK => ?_) AllReadyH.nil
      go_simp
      refine (loose_any _).mono ?_
      rintro e Xl ⟨gl, rfl, hlq, hb⟩
      have HLQ := Lib.hid hlq
      have HBl := Lib.hid (chain hHeld.2 hb)
      replace HQa := Lib.hid (HQa.out.below hb HQa.out.lt)
      refine hK.out _ _ ⟨⟨kc HBl.out x0, kc HBl.out x1, trivial⟩, HBl.out⟩ (fun hHeld => ?_)
      clear hK K
      (try simp only [Act.put, pt8])
      clear hb hlq
      refine wpAnyH_ready (rs := [2]) (by kernel_rfl) (by simp) ?_
      refine AllReadyH.cons rfl (fun K hK => ?_) AllReadyH.nil
      go_simp
      refine (ends_any true _ (HPW.out _ (chain HB.out hHeld.2)) (loose_at HLQ.out) (Nat.le_refl _) buf_rp (by decide)).mono ?_
      rintro e Xc ⟨Ad, nd, cd, Dd, md, qd, rfl, hm, hn, ho1, ho2, hb⟩
      rw [h6_b]
      rw [h6_o] at hm hn ho1 ho2
      have HM := Lib.hid (show nd = 2 from hm)
      have HN := Lib.hid (show md = 8 from hn)
      have HO1 := Lib.hid ho1
      have HO2 := Lib.hid ho2
      have HBC := Lib.hid (chain hHeld.2 hb)
      replace HQa := Lib.hid (HQa.out.below hb HQa.out.lt)
      refine hK.out _ _ ⟨⟨kc HBC.out x0, kc HBC.out x1, trivial⟩, HBC.out⟩ (fun hHeld => ?_)
      clear hK K
      (try simp only [Act.put, pt8])
      clear hb ho1 ho2 hm hn
      refine wpAnyH_take (i := 3) (v := ?_) rfl (by kernel_rfl) (by kernel_rfl) (by kernel_rfl) (fun _ _ _ h => h) (Or.inl ⟨by rfl, ?_⟩) (by assumption) ?_
      rotate_left
      · intro w hSw; (try dsimp only at hSw); go_simp; (try with_reducible rfl)
      (try simp only [Act.put, pt8])
      refine wpAnyH_take (i := 4) (v := ?_) rfl (by kernel_rfl) (by kernel_rfl) (by kernel_rfl) (fun _ _ _ h => h) (Or.inl ⟨by rfl, ?_⟩) (by assumption) ?_
      rotate_left
      · intro w hSw; (try dsimp only at hSw); go_simp; (try with_reducible rfl)
      (try simp only [Act.put, pt8])
      refine wpAnyH_take (i := 5) (v := ?_) rfl (by kernel_rfl) (by kernel_rfl) (by kernel_rfl) (fun _ _ _ h => h) (Or.inl ⟨by rfl, ?_⟩) (by assumption) ?_
      rotate_left
      · intro w hSw; (try dsimp only at hSw); go_simp; (try with_reducible rfl)
      (try simp only [Act.put, pt8])
      refine wpAnyH_ready (rs := [7]) (by kernel_rfl) (by simp) ?_
      refine AllReadyH.cons rfl (fun K hK => ?_) AllReadyH.nil
      have q0 := HQa.out.cell 0 _ rfl
      have q1 := HQa.out.cell 1 _ rfl
      have u0 := HQa.out.frozen 0
      have u1 := HQa.out.frozen 1
      have HBS2 := Lib.hid (show Below V8.heap.size V8 ((Xc.setCell ⟨ga, 0, none⟩ (.slice Ad nd cd)).setCell ⟨ga, 1, none⟩ (.slice Dd md qd)) from (hHeld.2.setCell (p := ⟨ga, 0, none⟩) HGa.out _).setCell (p := ⟨ga, 1, none⟩) HGa.out _)
      have HQS := Lib.hid (show BoxC ((Xc.setCell ⟨ga, 0, none⟩ (.slice Ad nd cd)).setCell ⟨ga, 1, none⟩ (.slice Dd md qd)) ga 35 #[(.slice Ad nd cd), (.slice Dd md qd)] from (HQa.out.set 0 _).set 1 _)
      have HP1 := Lib.hid (show OwnI 0 ((Xc.setCell ⟨ga, 0, none⟩ (.slice Ad nd cd)).setCell ⟨ga, 1, none⟩ (.slice Dd md qd)) (.slice Ad nd cd) _ from own_base (own_box (own_box HO1.out HQa.out (by decide) 0 _) (HQa.out.set 0 _) (by decide) 1 _) (Nat.zero_le _))
      have HP2 := Lib.hid (show OwnI 0 ((Xc.setCell ⟨ga, 0, none⟩ (.slice Ad nd cd)).setCell ⟨ga, 1, none⟩ (.slice Dd md qd)) (.slice Dd md qd) _ from own_base (own_box (own_box HO2.out HQa.out (by decide) 0 _) (HQa.out.set 0 _) (by decide) 1 _) (Nat.zero_le _))
      go_simp
      refine hK.out _ _ ⟨⟨kc HBS2.out x0, kc HBS2.out x1, trivial⟩, HBS2.out⟩ (fun hHeld => ?_)
      clear q0 q1 u0 u1
      clear hK K
      (try simp only [Act.put, pt8])
      refine wpAnyH_ready (rs := [8]) (by kernel_rfl) (by simp) ?_
      refine AllReadyH.cons rfl (fun K hK => ?_) AllReadyH.nil
      go_simp
      refine hK.out _ _ hHeld (fun hHeld => ?_)
      clear hK K
      (try simp only [Act.put, pt8])
      refine wpAnyH_done (by kernel_rfl) ?_ _
      clear hHeld
      go_wp2_with fail
      go_meet
      exact ⟨ga, Ad, nd, cd, Dd, md, qd, rfl, rfl, HM.out, HN.out, HQS.out, HP1.out, HP2.out, HBS2.out⟩
  case rest =>
  obtain ⟨g13, A13, m13, c13, B13, k13, e13, rfl, rfl, rfl, rfl, hq, ho1, ho2, hb⟩ := hcut
  obtain ⟨Z13, hZ⟩ : ∃ W, W = wc := ⟨_, rfl⟩
  rw [← hZ] at hq ho1 ho2 hb ⊢
  clear hZ
  have HQ13 := Lib.hid hq
  have HU13 := Lib.hid ho1
  have HV13 := Lib.hid ho2
  replace HST := Lib.hid hb
  clear hq ho1 ho2 hb x0 x1
  replace HX := Lib.hid (HX.out.below HST.out HX.out.lt)
  replace HQ2 := Lib.hid (HQ2.out.below HST.out HQ2.out.lt)
  replace HQ4 := Lib.hid (HQ4.out.below HST.out HQ4.out.lt)
  replace HQ6 := Lib.hid (HQ6.out.below HST.out HQ6.out.lt)
  replace HU2 := Lib.hid (own_below HU2.out HST.out)
  replace HV2 := Lib.hid (own_below HV2.out HST.out)
  replace HU4 := Lib.hid (own_below HU4.out HST.out)
  replace HV4 := Lib.hid (own_below HV4.out HST.out)
  replace HK9 := Lib.hid (own_below HK9.out HST.out)
  replace HB := Lib.hid (chain HB.out HST.out)
  replace HS6 := Lib.hid (HS6.out.below HST.out)
  have HST8 := Lib.hid True.intro
  have z0 := HQ2.out.cell 0 _ rfl
  have z4 := HQ4.out.cell 0 _ rfl
  go_wp2_with fail
  obtain ⟨Y14, hY14⟩ : ∃ W, W = Z13.alloc (.cells #[.int .i64 1, .int .i64 1] 3) := ⟨_, rfl⟩
  have HST := Lib.hid (show Below Z13.heap.size Z13 Y14 from by rw [hY14]; exact below_al (Below.refl _ _) _)
  have HLT := Lib.hid (show BoxC Y14 Z13.heap.size 3 #[.int .i64 1, .int .i64 1] from by rw [hY14]; exact BoxC.new Z13 _ _)
  rw [← hY14]
  clear hY14
  clear z0 z4
  replace HX := Lib.hid (HX.out.below HST.out HX.out.lt)
  replace HQ2 := Lib.hid (HQ2.out.below HST.out HQ2.out.lt)
  replace HQ4 := Lib.hid (HQ4.out.below HST.out HQ4.out.lt)
  replace HQ6 := Lib.hid (HQ6.out.below HST.out HQ6.out.lt)
  replace HQ13 := Lib.hid (HQ13.out.below HST.out HQ13.out.lt)
  replace HU2 := Lib.hid (own_below HU2.out HST.out)
  replace HV2 := Lib.hid (own_below HV2.out HST.out)
  replace HU4 := Lib.hid (own_below HU4.out HST.out)
  replace HV4 := Lib.hid (own_below HV4.out HST.out)
  replace HK9 := Lib.hid (own_below HK9.out HST.out)
  replace HU13 := Lib.hid (own_below HU13.out HST.out)
  replace HV13 := Lib.hid (own_below HV13.out HST.out)
  replace HB := Lib.hid (chain HB.out HST.out)
  replace HS6 := Lib.hid (HS6.out.below HST.out)
  refine (nsame_any (ns := [1, 1]) _ (Rw.own HU4.out (Nat.le_refl _)) (rw_box HLT.out [1, 1] 2 2 (fun j u hu => by simpa [nuC] using hu) rfl (by decide) (by decide)) (Nat.le_refl _)).mono ?_
  rintro e V14 ⟨rfl, hb⟩
  replace HST := Lib.hid hb
  clear hb HLT
  replace HX := Lib.hid (HX.out.below HST.out HX.out.lt)
  replace HQ2 := Lib.hid (HQ2.out.below HST.out HQ2.out.lt)
  replace HQ4 := Lib.hid (HQ4.out.below HST.out HQ4.out.lt)
  replace HQ6 := Lib.hid (HQ6.out.below HST.out HQ6.out.lt)
  replace HQ13 := Lib.hid (HQ13.out.below HST.out HQ13.out.lt)
  replace HU2 := Lib.hid (own_below HU2.out HST.out)
  replace HV2 := Lib.hid (own_below HV2.out HST.out)
  replace HU4 := Lib.hid (own_below HU4.out HST.out)
  replace HV4 := Lib.hid (own_below HV4.out HST.out)
  replace HK9 := Lib.hid (own_below HK9.out HST.out)
  replace HU13 := Lib.hid (own_below HU13.out HST.out)
  replace HV13 := Lib.hid (own_below HV13.out HST.out)
  replace HB := Lib.hid (chain HB.out HST.out)
  replace HS6 := Lib.hid (HS6.out.below HST.out)
  have z4 := HQ4.out.cell 1 _ rfl
  go_wp2_with fail
  obtain ⟨Y15, hY15⟩ : ∃ W, W = V14.alloc (.cells #[.int .i64 0, .int .i64 0, .int .i64 0, .int .i64 0, .int .i64 1, .int .i64 0, .int .i64 0, .int .i64 0] 3) := ⟨_, rfl⟩
  have HST := Lib.hid (show Below V14.heap.size V14 Y15 from by rw [hY15]; exact below_al (Below.refl _ _) _)
  have HLT := Lib.hid (show BoxC Y15 V14.heap.size 3 #[.int .i64 0, .int .i64 0, .int .i64 0, .int .i64 0, .int .i64 1, .int .i64 0, .int .i64 0, .int .i64 0] from by rw [hY15]; exact BoxC.new V14 _ _)
  rw [← hY15]
  clear hY15
  clear z4
  replace HX := Lib.hid (HX.out.below HST.out HX.out.lt)
  replace HQ2 := Lib.hid (HQ2.out.below HST.out HQ2.out.lt)
  replace HQ4 := Lib.hid (HQ4.out.below HST.out HQ4.out.lt)
  replace HQ6 := Lib.hid (HQ6.out.below HST.out HQ6.out.lt)
  replace HQ13 := Lib.hid (HQ13.out.below HST.out HQ13.out.lt)
  replace HU2 := Lib.hid (own_below HU2.out HST.out)
  replace HV2 := Lib.hid (own_below HV2.out HST.out)
  replace HU4 := Lib.hid (own_below HU4.out HST.out)
  replace HV4 := Lib.hid (own_below HV4.out HST.out)
  replace HK9 := Lib.hid (own_below HK9.out HST.out)
  replace HU13 := Lib.hid (own_below HU13.out HST.out)
  replace HV13 := Lib.hid (own_below HV13.out HST.out)
  replace HB := Lib.hid (chain HB.out HST.out)
  replace HS6 := Lib.hid (HS6.out.below HST.out)
  refine (nsame_any (ns := [0, 0, 0, 0, 1, 0, 0, 0]) _ (Rw.own HV4.out (Nat.le_refl _)) (rw_box HLT.out [0, 0, 0, 0, 1, 0, 0, 0] 8 8 (fun j u hu => by simpa [nuC] using hu) rfl (by decide) (by decide)) (Nat.le_refl _)).mono ?_
  rintro e V15 ⟨rfl, hb⟩
  replace HST := Lib.hid hb
  clear hb HLT
  replace HX := Lib.hid (HX.out.below HST.out HX.out.lt)
  replace HQ2 := Lib.hid (HQ2.out.below HST.out HQ2.out.lt)
  replace HQ4 := Lib.hid (HQ4.out.below HST.out HQ4.out.lt)
  replace HQ6 := Lib.hid (HQ6.out.below HST.out HQ6.out.lt)
  replace HQ13 := Lib.hid (HQ13.out.below HST.out HQ13.out.lt)
  replace HU2 := Lib.hid (own_below HU2.out HST.out)
  replace HV2 := Lib.hid (own_below HV2.out HST.out)
  replace HU4 := Lib.hid (own_below HU4.out HST.out)
  replace HV4 := Lib.hid (own_below HV4.out HST.out)
  replace HK9 := Lib.hid (own_below HK9.out HST.out)
  replace HU13 := Lib.hid (own_below HU13.out HST.out)
  replace HV13 := Lib.hid (own_below HV13.out HST.out)
  replace HB := Lib.hid (chain HB.out HST.out)
  replace HS6 := Lib.hid (HS6.out.below HST.out)
  have z6 := HQ6.out.cell 0 _ rfl
  go_wp2_with fail
  obtain ⟨Y16, hY16⟩ : ∃ W, W = V15.alloc (.cells #[.int .i64 1, .int .i64 0] 3) := ⟨_, rfl⟩
  have HST := Lib.hid (show Below V15.heap.size V15 Y16 from by rw [hY16]; exact below_al (Below.refl _ _) _)
  have HLT := Lib.hid (show BoxC Y16 V15.heap.size 3 #[.int .i64 1, .int .i64 0] from by rw [hY16]; exact BoxC.new V15 _ _)
  rw [← hY16]
  clear hY16
  clear z6
  replace HX := Lib.hid (HX.out.below HST.out HX.out.lt)
  replace HQ2 := Lib.hid (HQ2.out.below HST.out HQ2.out.lt)
  replace HQ4 := Lib.hid (HQ4.out.below HST.out HQ4.out.lt)
  replace HQ6 := Lib.hid (HQ6.out.below HST.out HQ6.out.lt)
  replace HQ13 := Lib.hid (HQ13.out.below HST.out HQ13.out.lt)
  replace HU2 := Lib.hid (own_below HU2.out HST.out)
  replace HV2 := Lib.hid (own_below HV2.out HST.out)
  replace HU4 := Lib.hid (own_below HU4.out HST.out)
  replace HV4 := Lib.hid (own_below HV4.out HST.out)
  replace HK9 := Lib.hid (own_below HK9.out HST.out)
  replace HU13 := Lib.hid (own_below HU13.out HST.out)
  replace HV13 := Lib.hid (own_below HV13.out HST.out)
  replace HB := Lib.hid (chain HB.out HST.out)
  replace HS6 := Lib.hid (HS6.out.below HST.out)
  refine (nsame_any (ns := [1, 0]) _ (Rw.own HS6.out.mem (Nat.le_refl _)) (rw_box HLT.out [1, 0] 2 2 (fun j u hu => by simpa [nuC] using hu) rfl (by decide) (by decide)) (Nat.le_refl _)).mono ?_
  rintro e V16 ⟨rfl, hb⟩
  replace HST := Lib.hid hb
  clear hb HLT
  replace HX := Lib.hid (HX.out.below HST.out HX.out.lt)
  replace HQ2 := Lib.hid (HQ2.out.below HST.out HQ2.out.lt)
  replace HQ4 := Lib.hid (HQ4.out.below HST.out HQ4.out.lt)
  replace HQ6 := Lib.hid (HQ6.out.below HST.out HQ6.out.lt)
  replace HQ13 := Lib.hid (HQ13.out.below HST.out HQ13.out.lt)
  replace HU2 := Lib.hid (own_below HU2.out HST.out)
  replace HV2 := Lib.hid (own_below HV2.out HST.out)
  replace HU4 := Lib.hid (own_below HU4.out HST.out)
  replace HV4 := Lib.hid (own_below HV4.out HST.out)
  replace HK9 := Lib.hid (own_below HK9.out HST.out)
  replace HU13 := Lib.hid (own_below HU13.out HST.out)
  replace HV13 := Lib.hid (own_below HV13.out HST.out)
  replace HB := Lib.hid (chain HB.out HST.out)
  replace HS6 := Lib.hid (HS6.out.below HST.out)
  have x0 := HX.out.cell 0 _ rfl
  have x1 := HX.out.cell 1 _ rfl
  have z6 := HQ6.out.cell 0 _ rfl
  have z7 := HQ6.out.cell 1 _ rfl
  go_wp2_with fail
  clear x0 x1 z6 z7
  refine (over_any _ (HPW.out _ HB.out).v HS6.out.sv (Nat.le_refl _) buf_rp h3_ok).mono ?_
  rintro e V17 ⟨rfl, hb⟩
  rw [h3_v]
  replace HST := Lib.hid hb
  clear hb
  replace HX := Lib.hid (HX.out.below HST.out HX.out.lt)
  replace HQ2 := Lib.hid (HQ2.out.below HST.out HQ2.out.lt)
  replace HQ4 := Lib.hid (HQ4.out.below HST.out HQ4.out.lt)
  replace HQ6 := Lib.hid (HQ6.out.below HST.out HQ6.out.lt)
  replace HQ13 := Lib.hid (HQ13.out.below HST.out HQ13.out.lt)
  replace HU2 := Lib.hid (own_below HU2.out HST.out)
  replace HV2 := Lib.hid (own_below HV2.out HST.out)
  replace HU4 := Lib.hid (own_below HU4.out HST.out)
  replace HV4 := Lib.hid (own_below HV4.out HST.out)
  replace HK9 := Lib.hid (own_below HK9.out HST.out)
  replace HU13 := Lib.hid (own_below HU13.out HST.out)
  replace HV13 := Lib.hid (own_below HV13.out HST.out)
  replace HB := Lib.hid (chain HB.out HST.out)
  replace HS6 := Lib.hid (HS6.out.below HST.out)
  go_wp2_with fail
  obtain ⟨Y18, hY18⟩ : ∃ W, W = V17.alloc (.cells #[.int .i64 0, .bool false, .int .i64 0, .bool true, .int .i64 1, .bool false, .int .i64 1, .bool true] 47) := ⟨_, rfl⟩
  have HST := Lib.hid (show Below V17.heap.size V17 Y18 from by rw [hY18]; exact below_al (Below.refl _ _) _)
  have HLT := Lib.hid (show BoxC Y18 V17.heap.size 47 #[.int .i64 0, .bool false, .int .i64 0, .bool true, .int .i64 1, .bool false, .int .i64 1, .bool true] from by rw [hY18]; exact BoxC.new V17 _ _)
  rw [← hY18]
  clear hY18
  replace HX := Lib.hid (HX.out.below HST.out HX.out.lt)
  replace HQ2 := Lib.hid (HQ2.out.below HST.out HQ2.out.lt)
  replace HQ4 := Lib.hid (HQ4.out.below HST.out HQ4.out.lt)
  replace HQ6 := Lib.hid (HQ6.out.below HST.out HQ6.out.lt)
  replace HQ13 := Lib.hid (HQ13.out.below HST.out HQ13.out.lt)
  replace HU2 := Lib.hid (own_below HU2.out HST.out)
  replace HV2 := Lib.hid (own_below HV2.out HST.out)
  replace HU4 := Lib.hid (own_below HU4.out HST.out)
  replace HV4 := Lib.hid (own_below HV4.out HST.out)
  replace HK9 := Lib.hid (own_below HK9.out HST.out)
  replace HU13 := Lib.hid (own_below HU13.out HST.out)
  replace HV13 := Lib.hid (own_below HV13.out HST.out)
  replace HB := Lib.hid (chain HB.out HST.out)
  replace HS6 := Lib.hid (HS6.out.below HST.out)
  refine (kisame_any (ns := [(0, false), (0, true), (1, false), (1, true)]) _ (Rw.own HK9.out (Nat.le_refl _)) (rw_box HLT.out [(0, false), (0, true), (1, false), (1, true)] 4 4 (fun j u hu => by simpa [kiC] using hu) rfl (by decide) (by decide)) (Nat.le_refl _)).mono ?_
  rintro e V18 ⟨rfl, hb⟩
  replace HST := Lib.hid hb
  clear hb HLT
  replace HX := Lib.hid (HX.out.below HST.out HX.out.lt)
  replace HQ2 := Lib.hid (HQ2.out.below HST.out HQ2.out.lt)
  replace HQ4 := Lib.hid (HQ4.out.below HST.out HQ4.out.lt)
  replace HQ6 := Lib.hid (HQ6.out.below HST.out HQ6.out.lt)
  replace HQ13 := Lib.hid (HQ13.out.below HST.out HQ13.out.lt)
  replace HU2 := Lib.hid (own_below HU2.out HST.out)
  replace HV2 := Lib.hid (own_below HV2.out HST.out)
  replace HU4 := Lib.hid (own_below HU4.out HST.out)
  replace HV4 := Lib.hid (own_below HV4.out HST.out)
  replace HK9 := Lib.hid (own_below HK9.out HST.out)
  replace HU13 := Lib.hid (own_below HU13.out HST.out)
  replace HV13 := Lib.hid (own_below HV13.out HST.out)
  replace HB := Lib.hid (chain HB.out HST.out)
  replace HS6 := Lib.hid (HS6.out.below HST.out)
  have z13 := HQ13.out.cell 1 _ rfl
  go_wp2_with fail
  obtain ⟨Y19, hY19⟩ : ∃ W, W = V18.alloc (.cells #[.int .i64 0, .int .i64 0, .int .i64 0, .int .i64 0, .int .i64 0, .int .i64 0, .int .i64 0, .int .i64 0] 3) := ⟨_, rfl⟩
  have HST := Lib.hid (show Below V18.heap.size V18 Y19 from by rw [hY19]; exact below_al (Below.refl _ _) _)
  have HLT := Lib.hid (show BoxC Y19 V18.heap.size 3 #[.int .i64 0, .int .i64 0, .int .i64 0, .int .i64 0, .int .i64 0, .int .i64 0, .int .i64 0, .int .i64 0] from by rw [hY19]; exact BoxC.new V18 _ _)
  rw [← hY19]
  clear hY19
  clear z13
  replace HX := Lib.hid (HX.out.below HST.out HX.out.lt)
  replace HQ2 := Lib.hid (HQ2.out.below HST.out HQ2.out.lt)
  replace HQ4 := Lib.hid (HQ4.out.below HST.out HQ4.out.lt)
  replace HQ6 := Lib.hid (HQ6.out.below HST.out HQ6.out.lt)
  replace HQ13 := Lib.hid (HQ13.out.below HST.out HQ13.out.lt)
  replace HU2 := Lib.hid (own_below HU2.out HST.out)
  replace HV2 := Lib.hid (own_below HV2.out HST.out)
  replace HU4 := Lib.hid (own_below HU4.out HST.out)
  replace HV4 := Lib.hid (own_below HV4.out HST.out)
  replace HK9 := Lib.hid (own_below HK9.out HST.out)
  replace HU13 := Lib.hid (own_below HU13.out HST.out)
  replace HV13 := Lib.hid (own_below HV13.out HST.out)
  replace HB := Lib.hid (chain HB.out HST.out)
  replace HS6 := Lib.hid (HS6.out.below HST.out)
  refine (nsame_any (ns := [0, 0, 0, 0, 0, 0, 0, 0]) _ (Rw.own HV13.out (Nat.le_refl _)) (rw_box HLT.out [0, 0, 0, 0, 0, 0, 0, 0] 8 8 (fun j u hu => by simpa [nuC] using hu) rfl (by decide) (by decide)) (Nat.le_refl _)).mono ?_
  rintro e V19 ⟨rfl, hb⟩
  replace HST := Lib.hid hb
  clear hb HLT
  replace HX := Lib.hid (HX.out.below HST.out HX.out.lt)
  replace HQ2 := Lib.hid (HQ2.out.below HST.out HQ2.out.lt)
  replace HQ4 := Lib.hid (HQ4.out.below HST.out HQ4.out.lt)
  replace HQ6 := Lib.hid (HQ6.out.below HST.out HQ6.out.lt)
  replace HQ13 := Lib.hid (HQ13.out.below HST.out HQ13.out.lt)
  replace HU2 := Lib.hid (own_below HU2.out HST.out)
  replace HV2 := Lib.hid (own_below HV2.out HST.out)
  replace HU4 := Lib.hid (own_below HU4.out HST.out)
  replace HV4 := Lib.hid (own_below HV4.out HST.out)
  replace HK9 := Lib.hid (own_below HK9.out HST.out)
  replace HU13 := Lib.hid (own_below HU13.out HST.out)
  replace HV13 := Lib.hid (own_below HV13.out HST.out)
  replace HB := Lib.hid (chain HB.out HST.out)
  replace HS6 := Lib.hid (HS6.out.below HST.out)
  have z6 := HQ6.out.cell 0 _ rfl
  have z7 := HQ6.out.cell 1 _ rfl
  go_wp2_with fail
  clear z6 z7
  refine (end_any _ HS6.out.sv (Nat.le_refl _) h3_w).mono ?_
  rintro e V20 ⟨A20, m20, c20, B20, k20, e20, rfl, hm, hn, ho1, ho2, hb⟩
  obtain rfl : m20 = 2 := hm
  have HU20 := Lib.hid (show OwnI 0 V20 (.slice A20 2 c20) [1, 0] from own_base ho1 (Nat.zero_le _))
  clear ho1 ho2
  (try clear hn)
  replace HST := Lib.hid hb
  clear hb
  replace HX := Lib.hid (HX.out.below HST.out HX.out.lt)
  replace HQ2 := Lib.hid (HQ2.out.below HST.out HQ2.out.lt)
  replace HQ4 := Lib.hid (HQ4.out.below HST.out HQ4.out.lt)
  replace HQ6 := Lib.hid (HQ6.out.below HST.out HQ6.out.lt)
  replace HQ13 := Lib.hid (HQ13.out.below HST.out HQ13.out.lt)
  replace HU2 := Lib.hid (own_below HU2.out HST.out)
  replace HV2 := Lib.hid (own_below HV2.out HST.out)
  replace HU4 := Lib.hid (own_below HU4.out HST.out)
  replace HV4 := Lib.hid (own_below HV4.out HST.out)
  replace HK9 := Lib.hid (own_below HK9.out HST.out)
  replace HU13 := Lib.hid (own_below HU13.out HST.out)
  replace HV13 := Lib.hid (own_below HV13.out HST.out)
  replace HB := Lib.hid (chain HB.out HST.out)
  replace HS6 := Lib.hid (HS6.out.below HST.out)
  have hfd : ∀ (W : World), (Instr.field 35 (.agg #[.slice A20 2 c20, .slice B20 k20 e20]) 0).run Try.prog W = .ok (.slice A20 2 c20) W := fun _ => by kernel_rfl
  go_wp2_with fail
  obtain ⟨Y21, hY21⟩ : ∃ W, W = V20.alloc (.cells #[.int .i64 1, .int .i64 0] 3) := ⟨_, rfl⟩
  have HST := Lib.hid (show Below V20.heap.size V20 Y21 from by rw [hY21]; exact below_al (Below.refl _ _) _)
  have HLT := Lib.hid (show BoxC Y21 V20.heap.size 3 #[.int .i64 1, .int .i64 0] from by rw [hY21]; exact BoxC.new V20 _ _)
  rw [← hY21]
  clear hY21
  replace HX := Lib.hid (HX.out.below HST.out HX.out.lt)
  replace HQ2 := Lib.hid (HQ2.out.below HST.out HQ2.out.lt)
  replace HQ4 := Lib.hid (HQ4.out.below HST.out HQ4.out.lt)
  replace HQ6 := Lib.hid (HQ6.out.below HST.out HQ6.out.lt)
  replace HQ13 := Lib.hid (HQ13.out.below HST.out HQ13.out.lt)
  replace HU2 := Lib.hid (own_below HU2.out HST.out)
  replace HV2 := Lib.hid (own_below HV2.out HST.out)
  replace HU4 := Lib.hid (own_below HU4.out HST.out)
  replace HV4 := Lib.hid (own_below HV4.out HST.out)
  replace HK9 := Lib.hid (own_below HK9.out HST.out)
  replace HU13 := Lib.hid (own_below HU13.out HST.out)
  replace HV13 := Lib.hid (own_below HV13.out HST.out)
  replace HU20 := Lib.hid (own_below HU20.out HST.out)
  replace HB := Lib.hid (chain HB.out HST.out)
  replace HS6 := Lib.hid (HS6.out.below HST.out)
  refine (nsame_any (ns := [1, 0]) _ (Rw.own HU20.out (Nat.le_refl _)) (rw_box HLT.out [1, 0] 2 2 (fun j u hu => by simpa [nuC] using hu) rfl (by decide) (by decide)) (Nat.le_refl _)).mono ?_
  rintro e V21 ⟨rfl, hb⟩
  replace HST := Lib.hid hb
  clear hb HLT
  replace HX := Lib.hid (HX.out.below HST.out HX.out.lt)
  replace HQ2 := Lib.hid (HQ2.out.below HST.out HQ2.out.lt)
  replace HQ4 := Lib.hid (HQ4.out.below HST.out HQ4.out.lt)
  replace HQ6 := Lib.hid (HQ6.out.below HST.out HQ6.out.lt)
  replace HQ13 := Lib.hid (HQ13.out.below HST.out HQ13.out.lt)
  replace HU2 := Lib.hid (own_below HU2.out HST.out)
  replace HV2 := Lib.hid (own_below HV2.out HST.out)
  replace HU4 := Lib.hid (own_below HU4.out HST.out)
  replace HV4 := Lib.hid (own_below HV4.out HST.out)
  replace HK9 := Lib.hid (own_below HK9.out HST.out)
  replace HU13 := Lib.hid (own_below HU13.out HST.out)
  replace HV13 := Lib.hid (own_below HV13.out HST.out)
  replace HU20 := Lib.hid (own_below HU20.out HST.out)
  replace HB := Lib.hid (chain HB.out HST.out)
  replace HS6 := Lib.hid (HS6.out.below HST.out)
  go_wp2
  go_ret
  exact ⟨rfl, HL.out.trans (HB.out.mono HL.out.size)⟩
end Go.Proofs.Ytbgjamoflbdhoaa
