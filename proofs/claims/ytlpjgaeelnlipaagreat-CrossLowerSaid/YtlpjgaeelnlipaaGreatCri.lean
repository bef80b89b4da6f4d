/-
  LAYER 14: the laws' Great, and their head: a live question whose answer is fixed.
-/
import Derived.Test.YtlpjgaeelnlipaaGreatK02
import Derived.Test.YtlpjgaeelnlipaaGreatK33
import Derived.Test.YtlpjgaeelnlipaaGreatScX
import Derived.Deep.RegionHeld3
import Derived.Deep.DeepCutAuto
namespace Go.Proofs.YtlpjgaeelnlipaaGreat
open Go.RowKit
set_option linter.unusedVariables false
set_option linter.unusedSimpArgs false
open CodM (St Pg rightP)
open BfM (Wr plc)
open ScM
open SlM
open CrM

/-- What Great tells. -/
def Gt14 (P : Pg) (l : List (Int × Bool)) (g : List Int) (w : World) (e : Ending) (w' : World) : Prop := ∃ b, e = .returned (.bool b) ∧ (b = false → SmallC P ∧ l.length ≤ 120 ∧ g.length ≤ 100) ∧ Below w.heap.size w w'
set_option maxHeartbeats 4000000 in
set_option maxRecDepth 100000 in
theorem great14_any {B : Nat} {v vl vg : Value} {P : Pg} {l : List (Int × Bool)} {g : List Int} (w : World) (hv : PgV B w v P) (hl : KiR B w vl l) (hg : Ints B w vg g) (hBB : B ≤ w.heap.size) :
    Calls Tryz.prog 7 #[v, vl, vg] w (Gt14 P l g w) := by
  have HC := Lib.hid (fun W (hW : Below w.heap.size w W) => sgreat_any W (hv.below (hW.mono hBB)) (Nat.le_trans hBB hW.size))
  obtain ⟨pi, pt, rfl, hpm⟩ := hv
  obtain ⟨⟨P0, d0, rfl, -⟩, ⟨P1, d1, rfl, -⟩⟩ := hpm
  obtain ⟨Al, cl, rfl, hl1, hl2, -⟩ := hl
  obtain ⟨Ag, cg, rfl, hg1, hg2, -⟩ := hg
  unfold maxLen at hl2 hg2
  obtain ⟨ln, hln⟩ : ∃ n, n = l.length := ⟨_, rfl⟩
  obtain ⟨gn, hgn⟩ : ∃ n, n = g.length := ⟨_, rfl⟩
  have HLN := Lib.hid hln
  rw [← hln] at hl1
  rw [← hgn] at hg1
  unfold Gt14
  rw [← hln, ← hgn]
  clear hln hgn
  have hB := below_al (Below.refl w.heap.size w) (.cells #[.slice P0 P.init.length d0, .slice P1 P.ths.length d1] 25)
  have HX := Lib.hid (BoxC.new w 25 #[.slice P0 P.init.length d0, .slice P1 P.ths.length d1])
  have x0 := HX.out.cell 0 _ rfl
  have x1 := HX.out.cell 1 _ rfl
  go_enter Tryz.func7, Tryz.ntmps7
  go_wp2_with fail
  refine (HC.out _ hB).mono ?_
  rintro e V1 ⟨b, rfl, hb, hb2⟩
  have HB := Lib.hid hb
  have hB2 := chain hB hb2
  clear hb hb2 x0 x1
  cases b
  · by_cases hg : ln ≤ 120
    · have hd1 : decide ((120 : Int) < (ln : Int)) = false := decide_eq_false (by omega)
      have hd2 : (ln : Int) ≤ 120 := by omega
      have hd3 : decide (120 < ln) = false := decide_eq_false (by omega)
      by_cases hq : gn ≤ 100
      · have hd4 : decide (100 < gn) = false := decide_eq_false (by omega)
        have hd5 : (gn : Int) ≤ 100 := by omega
        have hd6 : decide ((100 : Int) < (gn : Int)) = false := decide_eq_false (by omega)
        have HG := Lib.hid hg
        have HQ := Lib.hid hq
        clear hg hq
        go_wp2
        go_ret
        exact ⟨false, by first | rfl | simp [hd4] | (simp; omega), fun _ => ⟨HB.out (by first | rfl | trivial), HG.out, HQ.out⟩, hB2⟩
      · have hd4 : decide (100 < gn) = true := decide_eq_true (by omega)
        have hd5 : ¬ (gn : Int) ≤ 100 := by omega
        have hd6 : decide ((100 : Int) < (gn : Int)) = true := decide_eq_true (by omega)
        clear hg hq
        go_wp2
        go_ret
        exact ⟨true, by first | rfl | simp [hd4] | (simp; omega), fun e => (by cases e), hB2⟩
    · have hd1 : decide ((120 : Int) < (ln : Int)) = true := decide_eq_true (by omega)
      have hd2 : ¬ (ln : Int) ≤ 120 := by omega
      have hd3 : decide (120 < ln) = true := decide_eq_true (by omega)
      clear hg
      go_wp2
      go_ret
      exact ⟨true, by first | rfl | simp [hd3] | (simp; omega), fun e => (by cases e), hB2⟩
  · go_wp2
    go_ret
    exact ⟨true, rfl, fun e => (by cases e), hB2⟩
theorem ints_one {W : World} {g : Nat} {n : Int} (h : BoxC W g 3 #[.int .i64 n]) : Ints W.heap.size W (.slice (some ⟨g, 0, none⟩) 1 1) [n] :=
  ⟨_, 1, rfl, Nat.le_refl _, by decide, fun _ => ⟨g, 0, rfl, h.lt, fun j hj => by
    obtain rfl : j = 0 := by simp at hj; omega
    exact h.cell 0 _ rfl⟩⟩
theorem ints_two {W : World} {g : Nat} {n m : Int} (h : BoxC W g 3 #[.int .i64 n, .int .i64 m]) : Ints W.heap.size W (.slice (some ⟨g, 0, none⟩) 2 2) [n, m] :=
  ⟨_, 2, rfl, Nat.le_refl _, by decide, fun _ => ⟨g, 0, rfl, h.lt, fun j hj => by
    have hj : j < 2 := hj
    match j, hj with
    | 0, _ => exact h.cell 0 _ rfl
    | 1, _ => exact h.cell 1 _ rfl⟩⟩
set_option maxHeartbeats 16000000 in
set_option maxRecDepth 100000 in
theorem head14_any (w : World) : Calls Tryz.prog 6 #[] w fun e w' => e = .returned (.bool true) ∧ Below w.heap.size w w' := by
  go_enter Tryz.func6, Tryz.ntmps6
  go_wp2_with fail
  refine (buf7_any _).mono ?_
  rintro e Y0 ⟨vi, vt, rfl, hpm, hnz, hb⟩
  have HL0 := Lib.hid hb
  have HPZ := Lib.hid (show PgZ Y0.heap.size Y0 (.agg #[vi, vt]) bufP from PgV.z ⟨_, _, rfl, hpm⟩ (fun a b e => by injection e with e; injection e with e; injection e with e1 _; subst e1; exact hnz))
  clear hb hnz
  obtain ⟨⟨P0, d0, rfl, -⟩, ⟨P1, d1, rfl, -⟩⟩ := hpm
  obtain ⟨n0, hn0⟩ : ∃ n, n = bufP.init.length := ⟨_, rfl⟩
  obtain ⟨n1, hn1⟩ : ∃ n, n = bufP.ths.length := ⟨_, rfl⟩
  rw [← hn0, ← hn1] at HPZ ⊢
  clear hn0 hn1
  go_upto_region 2 with fail
  obtain ⟨Y1, hY1⟩ : ∃ W, W = Y0.alloc (.cells #[.slice P0 n0 d0, .slice P1 n1 d1] 25) := ⟨_, rfl⟩
  obtain ⟨gp, hgp⟩ : ∃ g, g = Y0.heap.size := ⟨_, rfl⟩
  have HX := Lib.hid (show BoxC Y1 gp 25 #[.slice P0 n0 d0, .slice P1 n1 d1] from by rw [hY1, hgp]; exact BoxC.new Y0 _ _)
  have HA1 := Lib.hid (show Below Y0.heap.size Y0 Y1 from by rw [hY1]; exact below_al (Below.refl _ _) _)
  rw [← hY1]
  (try rw [← hgp])
  clear hY1 hgp
  have HL := Lib.hid (chain HL0.out HA1.out)
  have HPW := Lib.hid (fun W (hW : Below Y1.heap.size Y1 W) => show PgZ W.heap.size W (.agg #[.slice P0 n0 d0, .slice P1 n1 d1]) bufP from (HPZ.out.below (HA1.out.trans (hW.mono HA1.out.size))).more (Nat.le_trans HA1.out.size hW.size))
  have HB := Lib.hid (Below.refl Y1.heap.size Y1)
  clear HPZ HA1 HL0
  have x0 := HX.out.cell 0 _ rfl
  have x1 := HX.out.cell 1 _ rfl
  go_cut [2, 3] (fun va vb wx => ∃ A c, va = .slice A 2 c ∧ vb = .bool true ∧ OwnI 0 wx (.slice A 2 c) [1, 3] ∧ Below Y1.heap.size Y1 wx)
  case first =>
    refine wp_region_held_drew (S := (fun w' => (w'.cell? ⟨gp, 0, none⟩ = some (.slice P0 n0 d0) ∧ w'.cell? ⟨gp, 1, none⟩ = some (.slice P1 n1 d1) ∧ True) ∧ Below Y1.heap.size Y1 w')) (by kernel_rfl) ⟨⟨x0, x1, trivial⟩, below_drewN (Below.refl _ _) 1⟩ (fun hHeld => ?_)
    obtain ⟨Xs, hXs⟩ : ∃ W, W = Y1.drew := ⟨_, rfl⟩
    have HXs := Lib.hid (show Below Y1.heap.size Y1 Xs from by rw [hXs]; exact below_drewN (Below.refl _ _) 1)
    rw [← hXs] at hHeld ⊢
    clear hXs
    refine wtk 0 ?_ ?_ ?_
    rotate_left
    · intro w hSw; (try dsimp only at hSw); go_simp; (try with_reducible rfl)
    (try simp only [Act.put, pt8])
    refine wpAnyH_ready (rs := [1]) (by kernel_rfl) (by simp) ?_
    refine AllReadyH.cons rfl (fun K hK => ?_) AllReadyH.nil
    go_simp
    refine (loose_any _).mono ?_
    rintro e Xl ⟨gl, rfl, hlq, hb⟩
    have HLQ := Lib.hid hlq
    have HBl := Lib.hid (chain HXs.out hb)
    refine hK.out _ _ ⟨⟨kc HBl.out x0, kc HBl.out x1, trivial⟩, HBl.out⟩ (fun hHeld => ?_)
    clear hK K
    (try simp only [Act.put, pt8])
    clear hb hlq
    refine wpAnyH_ready (rs := [2]) (by kernel_rfl) (by simp) ?_
    refine AllReadyH.cons rfl (fun K hK => ?_) AllReadyH.nil
    go_simp
    refine (crcross_any _ (HPW.out _ HBl.out) (loose_at HLQ.out) (Nat.le_refl _) buf_rp (by decide)).mono ?_
    rintro e Xc ⟨Ad, nd, cd, ks, rfl, hks, ho, -, hb⟩
    rw [h14_cb] at hks
    have hks2 := ris_one hks h14_ck
    subst hks2
    obtain ⟨Ae, ce, hAe⟩ := own_slice ho
    injection hAe with e1 e2 e3
    subst e1 e2 e3
    rw [h14_cb]
    have HO := Lib.hid (show OwnI 0 Xc (.slice Ad 2 cd) [1, 3] from own_base ho (Nat.zero_le _))
    clear ho hks
    have HBC := Lib.hid (chain HBl.out hb)
    refine hK.out _ _ ⟨⟨kc HBC.out x0, kc HBC.out x1, trivial⟩, HBC.out⟩ (fun hHeld => ?_)
    clear hK K
    (try simp only [Act.put, pt8])
    clear hb
    refine wtk 3 ?_ ?_ ?_
    rotate_left
    · intro w hSw; (try dsimp only at hSw); go_simp; (try with_reducible rfl)
    (try simp only [Act.put, pt8])
    refine wtk 4 ?_ ?_ ?_
    rotate_left
    · intro w hSw; (try dsimp only at hSw); go_simp; (try with_reducible rfl)
    (try simp only [Act.put, pt8])
    refine wtk 5 ?_ ?_ ?_
    rotate_left
    · intro w hSw; (try dsimp only at hSw); go_simp; (try with_reducible rfl)
    (try simp only [Act.put, pt8])
    refine wpAnyH_ready (rs := [6]) (by kernel_rfl) (by simp) ?_
    refine AllReadyH.cons rfl (fun K hK => ?_) AllReadyH.nil
    go_simp
    refine hK.out _ _ hHeld (fun hHeld => ?_)
    clear hK K
    (try simp only [Act.put, pt8])
    refine wpAnyH_ready (rs := [7]) (by kernel_rfl) (by simp) ?_
    refine AllReadyH.cons rfl (fun K hK => ?_) AllReadyH.nil
    go_simp
    refine hK.out _ _ hHeld (fun hHeld => ?_)
    clear hK K
    (try simp only [Act.put, pt8])
    refine wpAnyH_done (by kernel_rfl) ?_ _
    clear hHeld
    go_wp2_with fail
    go_meet
    exact ⟨_, _, rfl, rfl, HO.out, HBC.out⟩
  case rest =>
  obtain ⟨A2, c2, rfl, rfl, ho, hb⟩ := hcut
  obtain ⟨Y2, hZ⟩ : ∃ W, W = wc := ⟨_, rfl⟩
  rw [← hZ] at ho hb ⊢
  clear hZ
  have HST := Lib.hid hb
  have HC2 := Lib.hid ho
  clear hb x0 x1 ho
  replace HX := Lib.hid (HX.out.below HST.out HX.out.lt)
  replace HB := Lib.hid (chain HB.out HST.out)
  have x0 := HX.out.cell 0 _ rfl
  have x1 := HX.out.cell 1 _ rfl
  go_wp2_with fail
  obtain ⟨Y3, hY3⟩ : ∃ W, W = Y2.alloc (.cells #[.int .i64 0, .bool true] 53) := ⟨_, rfl⟩
  have HST := Lib.hid (show Below Y2.heap.size Y2 Y3 from by rw [hY3]; exact below_al (Below.refl _ _) _)
  have HLT := Lib.hid (show BoxC Y3 Y2.heap.size 53 #[.int .i64 0, .bool true] from by rw [hY3]; exact BoxC.new Y2 _ _)
  rw [← hY3]
  clear hY3
  clear x0 x1
  replace HX := Lib.hid (HX.out.below HST.out HX.out.lt)
  replace HC2 := Lib.hid (own_below HC2.out HST.out)
  replace HB := Lib.hid (chain HB.out HST.out)
  refine (crcross_any (l := [(0, true)]) _ (HPW.out _ HB.out) (rw_box HLT.out [(0, true)] 1 1 (fun j u hu => by simpa [kiC] using hu) rfl (by decide) (by decide)) (Nat.le_refl _) buf_rp (by decide)).mono ?_
  rintro e Y4 ⟨A4, n4, c4, ks4, rfl, -, -, -, hb⟩
  rw [h14_nb]
  replace HST := Lib.hid hb
  clear hb HLT
  replace HX := Lib.hid (HX.out.below HST.out HX.out.lt)
  replace HC2 := Lib.hid (own_below HC2.out HST.out)
  replace HB := Lib.hid (chain HB.out HST.out)
  go_upto_region 4 with fail
  have x0 := HX.out.cell 0 _ rfl
  have x1 := HX.out.cell 1 _ rfl
  go_cut [6, 7] (fun va vb wx => (∃ A n c, va = .slice A n c) ∧ vb = .bool false ∧ Below Y4.heap.size Y4 wx)
  case first =>
    refine wp_region_held_drew (S := (fun w' => (w'.cell? ⟨gp, 0, none⟩ = some (.slice P0 n0 d0) ∧ w'.cell? ⟨gp, 1, none⟩ = some (.slice P1 n1 d1) ∧ True) ∧ Below Y4.heap.size Y4 w')) (by kernel_rfl) ⟨⟨x0, x1, trivial⟩, below_drewN (Below.refl _ _) 1⟩ (fun hHeld => ?_)
    obtain ⟨Xs, hXs⟩ : ∃ W, W = Y4.drew := ⟨_, rfl⟩
    have HXs := Lib.hid (show Below Y4.heap.size Y4 Xs from by rw [hXs]; exact below_drewN (Below.refl _ _) 1)
    rw [← hXs] at hHeld ⊢
    clear hXs
    refine wtk 0 ?_ ?_ ?_
    rotate_left
    · intro w hSw; (try dsimp only at hSw); go_simp; (try with_reducible rfl)
    (try simp only [Act.put, pt8])
    refine wpAnyH_ready (rs := [1, 2]) (by kernel_rfl) (by simp) ?_
    refine AllReadyH.cons rfl (fun K hK => ?_) (AllReadyH.cons rfl (fun K hK => ?_) (AllReadyH.nil))
    · -- 1 first
      have HBb := Lib.hid (show Below Y4.heap.size Y4 (Xs.alloc (.cells #[.int .i64 1] 3)) from below_al HXs.out _)
      go_simp
      refine hK.out _ _ ⟨⟨kc HBb.out x0, kc HBb.out x1, trivial⟩, HBb.out⟩ (fun hHeld => ?_)
      clear hK K
      (try simp only [Act.put, pt8])
      obtain ⟨Xb, hXb⟩ : ∃ W, W = Xs.alloc (.cells #[.int .i64 1] 3) := ⟨_, rfl⟩
      obtain ⟨gb, hgb⟩ : ∃ g, g = Xs.heap.size := ⟨_, rfl⟩
      have HLB := Lib.hid (show BoxC Xb gb 3 #[.int .i64 1] from by rw [hXb, hgb]; exact BoxC.new Xs _ _)
      rw [← hXb] at hHeld HBb ⊢
      (try rw [← hgb])
      clear hXb hgb
      refine wpAnyH_ready (rs := [2]) (by kernel_rfl) (by simp) ?_
      refine AllReadyH.cons rfl (fun K hK => ?_) AllReadyH.nil
      go_simp
      refine (loose_any _).mono ?_
      rintro e Xl ⟨gl, rfl, hlq, hb⟩
      have HLQ := Lib.hid hlq
      have HBl := Lib.hid (chain HBb.out hb)
      replace HLB := Lib.hid (HLB.out.below hb HLB.out.lt)
      refine hK.out _ _ ⟨⟨kc HBl.out x0, kc HBl.out x1, trivial⟩, HBl.out⟩ (fun hHeld => ?_)
      clear hK K
      (try simp only [Act.put, pt8])
      clear hb hlq
      refine wpAnyH_ready (rs := [3]) (by kernel_rfl) (by simp) ?_
      refine AllReadyH.cons rfl (fun K hK => ?_) AllReadyH.nil
      go_simp
      refine (crraise_any (g := [1]) _ (HPW.out _ (chain HB.out HBl.out)) (ints_one HLB.out) (loose_at HLQ.out) (Nat.le_refl _) buf_rp (by decide) (by decide)).mono ?_
      rintro e Xc ⟨Ad, cd, r, bb, rfl, hbi, -, -, -, hb⟩
      have hbf : bb = false := by
        cases bb
        · rfl
        · exact absurd (hbi.1 rfl) h14_of
      subst hbf
      clear hbi
      have HBC := Lib.hid (chain HBl.out hb)
      refine hK.out _ _ ⟨⟨kc HBC.out x0, kc HBC.out x1, trivial⟩, HBC.out⟩ (fun hHeld => ?_)
      clear hK K
      (try simp only [Act.put, pt8])
      clear hb
      refine wtk 4 ?_ ?_ ?_
      rotate_left
      · intro w hSw; (try dsimp only at hSw); go_simp; (try with_reducible rfl)
      (try simp only [Act.put, pt8])
      refine wtk 5 ?_ ?_ ?_
      rotate_left
      · intro w hSw; (try dsimp only at hSw); go_simp; (try with_reducible rfl)
      (try simp only [Act.put, pt8])
      refine wtk 6 ?_ ?_ ?_
      rotate_left
      · intro w hSw; (try dsimp only at hSw); go_simp; (try with_reducible rfl)
      (try simp only [Act.put, pt8])
      refine wpAnyH_ready (rs := [7]) (by kernel_rfl) (by simp) ?_
      refine AllReadyH.cons rfl (fun K hK => ?_) AllReadyH.nil
      go_simp
      refine hK.out _ _ hHeld (fun hHeld => ?_)
      clear hK K
      (try simp only [Act.put, pt8])
      refine wpAnyH_ready (rs := [8]) (by kernel_rfl) (by simp) ?_
      refine AllReadyH.cons rfl (fun K hK => ?_) AllReadyH.nil
      go_simp
      refine hK.out _ _ hHeld (fun hHeld => ?_)
      clear hK K
      (try simp only [Act.put, pt8])
      refine wpAnyH_done (by kernel_rfl) ?_ _
      clear hHeld
      go_wp2_with fail
      go_meet
      exact ⟨⟨_, _, _, rfl⟩, rfl, HBC.out⟩
    · -- 2 first
      go_simp
      refine (loose_any _).mono ?_
      rintro e Xl ⟨gl, rfl, hlq, hb⟩
      have HLQ := Lib.hid hlq
      have HBl := Lib.hid (chain HXs.out hb)
      refine hK.out _ _ ⟨⟨kc HBl.out x0, kc HBl.out x1, trivial⟩, HBl.out⟩ (fun hHeld => ?_)
      clear hK K
      (try simp only [Act.put, pt8])
      clear hb hlq
      refine wpAnyH_ready (rs := [1]) (by kernel_rfl) (by simp) ?_
      refine AllReadyH.cons rfl (fun K hK => ?_) AllReadyH.nil
      have HBb := Lib.hid (show Below Y4.heap.size Y4 (Xl.alloc (.cells #[.int .i64 1] 3)) from below_al HBl.out _)
      go_simp
      refine hK.out _ _ ⟨⟨kc HBb.out x0, kc HBb.out x1, trivial⟩, HBb.out⟩ (fun hHeld => ?_)
      clear hK K
      (try simp only [Act.put, pt8])
      obtain ⟨Xb, hXb⟩ : ∃ W, W = Xl.alloc (.cells #[.int .i64 1] 3) := ⟨_, rfl⟩
      obtain ⟨gb, hgb⟩ : ∃ g, g = Xl.heap.size := ⟨_, rfl⟩
      have HLB := Lib.hid (show BoxC Xb gb 3 #[.int .i64 1] from by rw [hXb, hgb]; exact BoxC.new Xl _ _)
      have hbx := below_al (Below.refl Xl.heap.size Xl) (.cells #[.int .i64 1] 3)
      rw [← hXb] at hbx
      replace HLQ := Lib.hid (HLQ.out.below hbx HLQ.out.lt)
      clear hbx
      rw [← hXb] at hHeld HBb ⊢
      (try rw [← hgb])
      clear hXb hgb
      refine wpAnyH_ready (rs := [3]) (by kernel_rfl) (by simp) ?_
      refine AllReadyH.cons rfl (fun K hK => ?_) AllReadyH.nil
      go_simp
      refine (crraise_any (g := [1]) _ (HPW.out _ (chain HB.out HBb.out)) (ints_one HLB.out) (loose_at HLQ.out) (Nat.le_refl _) buf_rp (by decide) (by decide)).mono ?_
      rintro e Xc ⟨Ad, cd, r, bb, rfl, hbi, -, -, -, hb⟩
      have hbf : bb = false := by
        cases bb
        · rfl
        · exact absurd (hbi.1 rfl) h14_of
      subst hbf
      clear hbi
      have HBC := Lib.hid (chain HBb.out hb)
      refine hK.out _ _ ⟨⟨kc HBC.out x0, kc HBC.out x1, trivial⟩, HBC.out⟩ (fun hHeld => ?_)
      clear hK K
      (try simp only [Act.put, pt8])
      clear hb
      refine wtk 4 ?_ ?_ ?_
      rotate_left
      · intro w hSw; (try dsimp only at hSw); go_simp; (try with_reducible rfl)
      (try simp only [Act.put, pt8])
      refine wtk 5 ?_ ?_ ?_
      rotate_left
      · intro w hSw; (try dsimp only at hSw); go_simp; (try with_reducible rfl)
      (try simp only [Act.put, pt8])
      refine wtk 6 ?_ ?_ ?_
      rotate_left
      · intro w hSw; (try dsimp only at hSw); go_simp; (try with_reducible rfl)
      (try simp only [Act.put, pt8])
      refine wpAnyH_ready (rs := [7]) (by kernel_rfl) (by simp) ?_
      refine AllReadyH.cons rfl (fun K hK => ?_) AllReadyH.nil
      go_simp
      refine hK.out _ _ hHeld (fun hHeld => ?_)
      clear hK K
      (try simp only [Act.put, pt8])
      refine wpAnyH_ready (rs := [8]) (by kernel_rfl) (by simp) ?_
      refine AllReadyH.cons rfl (fun K hK => ?_) AllReadyH.nil
      go_simp
      refine hK.out _ _ hHeld (fun hHeld => ?_)
      clear hK K
      (try simp only [Act.put, pt8])
      refine wpAnyH_done (by kernel_rfl) ?_ _
      clear hHeld
      go_wp2_with fail
      go_meet
      exact ⟨⟨_, _, _, rfl⟩, rfl, HBC.out⟩
  case rest =>
  obtain ⟨⟨A5, n5, c5, rfl⟩, rfl, hb⟩ := hcut
  obtain ⟨Y5, hZ⟩ : ∃ W, W = wc := ⟨_, rfl⟩
  rw [← hZ] at  hb ⊢
  clear hZ
  have HST := Lib.hid hb
  skip
  clear hb x0 x1 
  replace HX := Lib.hid (HX.out.below HST.out HX.out.lt)
  replace HC2 := Lib.hid (own_below HC2.out HST.out)
  replace HB := Lib.hid (chain HB.out HST.out)
  go_upto_region 5 with fail
  have x0 := HX.out.cell 0 _ rfl
  have x1 := HX.out.cell 1 _ rfl
  go_cut [8, 9] (fun va vb wx => ∃ A c, va = .slice A 5 c ∧ vb = .bool true ∧ OwnKi 0 wx (.slice A 5 c) a14 ∧ Below Y5.heap.size Y5 wx)
  case first =>
    refine wp_region_held_drew (S := (fun w' => (w'.cell? ⟨gp, 0, none⟩ = some (.slice P0 n0 d0) ∧ w'.cell? ⟨gp, 1, none⟩ = some (.slice P1 n1 d1) ∧ True) ∧ Below Y5.heap.size Y5 w')) (by kernel_rfl) ⟨⟨x0, x1, trivial⟩, below_drewN (Below.refl _ _) 1⟩ (fun hHeld => ?_)
    obtain ⟨Xs, hXs⟩ : ∃ W, W = Y5.drew := ⟨_, rfl⟩
    have HXs := Lib.hid (show Below Y5.heap.size Y5 Xs from by rw [hXs]; exact below_drewN (Below.refl _ _) 1)
    rw [← hXs] at hHeld ⊢
    clear hXs
    refine wtk 0 ?_ ?_ ?_
    rotate_left
    · intro w hSw; (try dsimp only at hSw); go_simp; (try with_reducible rfl)
    (try simp only [Act.put, pt8])
    refine wpAnyH_ready (rs := [1, 2]) (by kernel_rfl) (by simp) ?_
    refine AllReadyH.cons rfl (fun K hK => ?_) (AllReadyH.cons rfl (fun K hK => ?_) (AllReadyH.nil))
    · -- 1 first
      have HBb := Lib.hid (show Below Y5.heap.size Y5 (Xs.alloc (.cells #[.int .i64 0, .int .i64 2] 3)) from below_al HXs.out _)
      go_simp
      refine hK.out _ _ ⟨⟨kc HBb.out x0, kc HBb.out x1, trivial⟩, HBb.out⟩ (fun hHeld => ?_)
      clear hK K
      (try simp only [Act.put, pt8])
      obtain ⟨Xb, hXb⟩ : ∃ W, W = Xs.alloc (.cells #[.int .i64 0, .int .i64 2] 3) := ⟨_, rfl⟩
      obtain ⟨gb, hgb⟩ : ∃ g, g = Xs.heap.size := ⟨_, rfl⟩
      have HLB := Lib.hid (show BoxC Xb gb 3 #[.int .i64 0, .int .i64 2] from by rw [hXb, hgb]; exact BoxC.new Xs _ _)
      rw [← hXb] at hHeld HBb ⊢
      (try rw [← hgb])
      clear hXb hgb
      refine wpAnyH_ready (rs := [2]) (by kernel_rfl) (by simp) ?_
      refine AllReadyH.cons rfl (fun K hK => ?_) AllReadyH.nil
      go_simp
      refine (loose_any _).mono ?_
      rintro e Xl ⟨gl, rfl, hlq, hb⟩
      have HLQ := Lib.hid hlq
      have HBl := Lib.hid (chain HBb.out hb)
      replace HLB := Lib.hid (HLB.out.below hb HLB.out.lt)
      refine hK.out _ _ ⟨⟨kc HBl.out x0, kc HBl.out x1, trivial⟩, HBl.out⟩ (fun hHeld => ?_)
      clear hK K
      (try simp only [Act.put, pt8])
      clear hb hlq
      refine wtk 3 ?_ ?_ ?_
      rotate_left
      · intro w hSw; (try dsimp only at hSw); go_simp; (try with_reducible rfl)
      (try simp only [Act.put, pt8])
      refine wpAnyH_ready (rs := [4]) (by kernel_rfl) (by simp) ?_
      refine AllReadyH.cons rfl (fun K hK => ?_) AllReadyH.nil
      go_simp
      refine (crraise_any (g := [0, 2]) (l := l3) _ (HPW.out _ (chain HB.out HBl.out)) (ints_two HLB.out) (loose_3 HLQ.out) (Nat.le_refl _) buf_rp (by decide) (by decide)).mono ?_
      rintro e Xc ⟨Ad, cd, r, bb, rfl, hbi, hr, -, ho, hb⟩
      have hbt : bb = true := hbi.2 h14_ra
      subst hbt
      rw [if_pos rfl, h14_ar] at hr
      subst hr
      have HO := Lib.hid (show OwnKi 0 Xc (.slice Ad 5 cd) a14 from own_base ho (Nat.zero_le _))
      clear ho hbi
      have HBC := Lib.hid (chain HBl.out hb)
      refine hK.out _ _ ⟨⟨kc HBC.out x0, kc HBC.out x1, trivial⟩, HBC.out⟩ (fun hHeld => ?_)
      clear hK K
      (try simp only [Act.put, pt8])
      clear hb
      refine wtk 5 ?_ ?_ ?_
      rotate_left
      · intro w hSw; (try dsimp only at hSw); go_simp; (try with_reducible rfl)
      (try simp only [Act.put, pt8])
      refine wtk 6 ?_ ?_ ?_
      rotate_left
      · intro w hSw; (try dsimp only at hSw); go_simp; (try with_reducible rfl)
      (try simp only [Act.put, pt8])
      refine wtk 7 ?_ ?_ ?_
      rotate_left
      · intro w hSw; (try dsimp only at hSw); go_simp; (try with_reducible rfl)
      (try simp only [Act.put, pt8])
      refine wpAnyH_ready (rs := [8]) (by kernel_rfl) (by simp) ?_
      refine AllReadyH.cons rfl (fun K hK => ?_) AllReadyH.nil
      go_simp
      refine hK.out _ _ hHeld (fun hHeld => ?_)
      clear hK K
      (try simp only [Act.put, pt8])
      refine wpAnyH_ready (rs := [9]) (by kernel_rfl) (by simp) ?_
      refine AllReadyH.cons rfl (fun K hK => ?_) AllReadyH.nil
      go_simp
      refine hK.out _ _ hHeld (fun hHeld => ?_)
      clear hK K
      (try simp only [Act.put, pt8])
      refine wpAnyH_done (by kernel_rfl) ?_ _
      clear hHeld
      go_wp2_with fail
      go_meet
      exact ⟨_, _, rfl, rfl, HO.out, HBC.out⟩
    · -- 2 first
      go_simp
      refine (loose_any _).mono ?_
      rintro e Xl ⟨gl, rfl, hlq, hb⟩
      have HLQ := Lib.hid hlq
      have HBl := Lib.hid (chain HXs.out hb)
      refine hK.out _ _ ⟨⟨kc HBl.out x0, kc HBl.out x1, trivial⟩, HBl.out⟩ (fun hHeld => ?_)
      clear hK K
      (try simp only [Act.put, pt8])
      clear hb hlq
      refine wtk 3 ?_ ?_ ?_
      rotate_left
      · intro w hSw; (try dsimp only at hSw); go_simp; (try with_reducible rfl)
      (try simp only [Act.put, pt8])
      refine wpAnyH_ready (rs := [1]) (by kernel_rfl) (by simp) ?_
      refine AllReadyH.cons rfl (fun K hK => ?_) AllReadyH.nil
      have HBb := Lib.hid (show Below Y5.heap.size Y5 (Xl.alloc (.cells #[.int .i64 0, .int .i64 2] 3)) from below_al HBl.out _)
      go_simp
      refine hK.out _ _ ⟨⟨kc HBb.out x0, kc HBb.out x1, trivial⟩, HBb.out⟩ (fun hHeld => ?_)
      clear hK K
      (try simp only [Act.put, pt8])
      obtain ⟨Xb, hXb⟩ : ∃ W, W = Xl.alloc (.cells #[.int .i64 0, .int .i64 2] 3) := ⟨_, rfl⟩
      obtain ⟨gb, hgb⟩ : ∃ g, g = Xl.heap.size := ⟨_, rfl⟩
      have HLB := Lib.hid (show BoxC Xb gb 3 #[.int .i64 0, .int .i64 2] from by rw [hXb, hgb]; exact BoxC.new Xl _ _)
      have hbx := below_al (Below.refl Xl.heap.size Xl) (.cells #[.int .i64 0, .int .i64 2] 3)
      rw [← hXb] at hbx
      replace HLQ := Lib.hid (HLQ.out.below hbx HLQ.out.lt)
      clear hbx
      rw [← hXb] at hHeld HBb ⊢
      (try rw [← hgb])
      clear hXb hgb
      refine wpAnyH_ready (rs := [4]) (by kernel_rfl) (by simp) ?_
      refine AllReadyH.cons rfl (fun K hK => ?_) AllReadyH.nil
      go_simp
      refine (crraise_any (g := [0, 2]) (l := l3) _ (HPW.out _ (chain HB.out HBb.out)) (ints_two HLB.out) (loose_3 HLQ.out) (Nat.le_refl _) buf_rp (by decide) (by decide)).mono ?_
      rintro e Xc ⟨Ad, cd, r, bb, rfl, hbi, hr, -, ho, hb⟩
      have hbt : bb = true := hbi.2 h14_ra
      subst hbt
      rw [if_pos rfl, h14_ar] at hr
      subst hr
      have HO := Lib.hid (show OwnKi 0 Xc (.slice Ad 5 cd) a14 from own_base ho (Nat.zero_le _))
      clear ho hbi
      have HBC := Lib.hid (chain HBb.out hb)
      refine hK.out _ _ ⟨⟨kc HBC.out x0, kc HBC.out x1, trivial⟩, HBC.out⟩ (fun hHeld => ?_)
      clear hK K
      (try simp only [Act.put, pt8])
      clear hb
      refine wtk 5 ?_ ?_ ?_
      rotate_left
      · intro w hSw; (try dsimp only at hSw); go_simp; (try with_reducible rfl)
      (try simp only [Act.put, pt8])
      refine wtk 6 ?_ ?_ ?_
      rotate_left
      · intro w hSw; (try dsimp only at hSw); go_simp; (try with_reducible rfl)
      (try simp only [Act.put, pt8])
      refine wtk 7 ?_ ?_ ?_
      rotate_left
      · intro w hSw; (try dsimp only at hSw); go_simp; (try with_reducible rfl)
      (try simp only [Act.put, pt8])
      refine wpAnyH_ready (rs := [8]) (by kernel_rfl) (by simp) ?_
      refine AllReadyH.cons rfl (fun K hK => ?_) AllReadyH.nil
      go_simp
      refine hK.out _ _ hHeld (fun hHeld => ?_)
      clear hK K
      (try simp only [Act.put, pt8])
      refine wpAnyH_ready (rs := [9]) (by kernel_rfl) (by simp) ?_
      refine AllReadyH.cons rfl (fun K hK => ?_) AllReadyH.nil
      go_simp
      refine hK.out _ _ hHeld (fun hHeld => ?_)
      clear hK K
      (try simp only [Act.put, pt8])
      refine wpAnyH_done (by kernel_rfl) ?_ _
      clear hHeld
      go_wp2_with fail
      go_meet
      exact ⟨_, _, rfl, rfl, HO.out, HBC.out⟩
  case rest =>
  obtain ⟨A6, c6, rfl, rfl, ho, hb⟩ := hcut
  obtain ⟨Y6, hZ⟩ : ∃ W, W = wc := ⟨_, rfl⟩
  rw [← hZ] at ho hb ⊢
  clear hZ
  have HST := Lib.hid hb
  have HC6 := Lib.hid ho
  clear hb x0 x1 ho
  replace HX := Lib.hid (HX.out.below HST.out HX.out.lt)
  replace HC2 := Lib.hid (own_below HC2.out HST.out)
  replace HB := Lib.hid (chain HB.out HST.out)
  have x0 := HX.out.cell 0 _ rfl
  have x1 := HX.out.cell 1 _ rfl
  go_wp2_with fail
  obtain ⟨Y7, hY7⟩ : ∃ W, W = Y6.alloc (.cells #[.int .i64 0, .int .i64 2] 3) := ⟨_, rfl⟩
  have HST := Lib.hid (show Below Y6.heap.size Y6 Y7 from by rw [hY7]; exact below_al (Below.refl _ _) _)
  have HLT := Lib.hid (show BoxC Y7 Y6.heap.size 3 #[.int .i64 0, .int .i64 2] from by rw [hY7]; exact BoxC.new Y6 _ _)
  rw [← hY7]
  clear hY7
  clear x0 x1
  replace HX := Lib.hid (HX.out.below HST.out HX.out.lt)
  replace HC2 := Lib.hid (own_below HC2.out HST.out)
  replace HC6 := Lib.hid (own_below HC6.out HST.out)
  replace HB := Lib.hid (chain HB.out HST.out)
  refine (crlower_any (g := [0, 2]) (l := a14) _ (HPW.out _ HB.out) (ints_two HLT.out) (Rw.own HC6.out (Nat.le_refl _)) (Nat.le_refl _) buf_rp h14_q (by decide) (by decide) h14_j).mono ?_
  rintro e Y8 ⟨A8, c8, r8, ks8, rfl, hks, hr, -, ho, hb⟩
  have hks2 := ris_one hks h14_k
  subst hks2
  rw [h14_lb, if_pos rfl] at hr
  have hr2 := hr.trans h14_lr
  subst hr2
  rw [h14_lb]
  have HC8 := Lib.hid (show OwnKi 0 Y8 (.slice A8 3 c8) l3 from own_base ho (Nat.zero_le _))
  replace HST := Lib.hid hb
  clear hb HLT ho hks hr
  replace HX := Lib.hid (HX.out.below HST.out HX.out.lt)
  replace HC2 := Lib.hid (own_below HC2.out HST.out)
  replace HC6 := Lib.hid (own_below HC6.out HST.out)
  replace HB := Lib.hid (chain HB.out HST.out)
  go_upto_region 7 with fail
  go_wp2_with fail
  obtain ⟨Y9, hY9⟩ : ∃ W, W = Y8.alloc (.cells #[.int .i64 1, .int .i64 3] 3) := ⟨_, rfl⟩
  have HST := Lib.hid (show Below Y8.heap.size Y8 Y9 from by rw [hY9]; exact below_al (Below.refl _ _) _)
  have HLT := Lib.hid (show BoxC Y9 Y8.heap.size 3 #[.int .i64 1, .int .i64 3] from by rw [hY9]; exact BoxC.new Y8 _ _)
  rw [← hY9]
  clear hY9
  replace HX := Lib.hid (HX.out.below HST.out HX.out.lt)
  replace HC2 := Lib.hid (own_below HC2.out HST.out)
  replace HC6 := Lib.hid (own_below HC6.out HST.out)
  replace HC8 := Lib.hid (own_below HC8.out HST.out)
  replace HB := Lib.hid (chain HB.out HST.out)
  refine (nsame_any (ns := [1, 3]) _ (Rw.own HC2.out (Nat.le_refl _)) (rw_box HLT.out [1, 3] 2 2 (fun j u hu => by simpa [nuC] using hu) rfl (by decide) (by decide)) (Nat.le_refl _)).mono ?_
  rintro e Y10 ⟨rfl, hb⟩
  replace HST := Lib.hid hb
  clear hb HLT
  replace HX := Lib.hid (HX.out.below HST.out HX.out.lt)
  replace HC2 := Lib.hid (own_below HC2.out HST.out)
  replace HC6 := Lib.hid (own_below HC6.out HST.out)
  replace HC8 := Lib.hid (own_below HC8.out HST.out)
  replace HB := Lib.hid (chain HB.out HST.out)
  go_wp2_with fail
  obtain ⟨Y11, hY11⟩ : ∃ W, W = Y10.alloc (.cells #[.int .i64 0, .bool false, .int .i64 0, .bool false, .int .i64 0, .bool false, .int .i64 1, .bool false, .int .i64 1, .bool false] 53) := ⟨_, rfl⟩
  have HST := Lib.hid (show Below Y10.heap.size Y10 Y11 from by rw [hY11]; exact below_al (Below.refl _ _) _)
  have HLT := Lib.hid (show BoxC Y11 Y10.heap.size 53 #[.int .i64 0, .bool false, .int .i64 0, .bool false, .int .i64 0, .bool false, .int .i64 1, .bool false, .int .i64 1, .bool false] from by rw [hY11]; exact BoxC.new Y10 _ _)
  rw [← hY11]
  clear hY11
  replace HX := Lib.hid (HX.out.below HST.out HX.out.lt)
  replace HC2 := Lib.hid (own_below HC2.out HST.out)
  replace HC6 := Lib.hid (own_below HC6.out HST.out)
  replace HC8 := Lib.hid (own_below HC8.out HST.out)
  replace HB := Lib.hid (chain HB.out HST.out)
  refine (kisame_any (ns := a14) _ (Rw.own HC6.out (Nat.le_refl _)) (rw_box HLT.out a14 5 5 (fun j u hu => by simpa [kiC, a14] using hu) rfl (by decide) (by decide)) (Nat.le_refl _)).mono ?_
  rintro e Y12 ⟨rfl, hb⟩
  replace HST := Lib.hid hb
  clear hb HLT
  replace HX := Lib.hid (HX.out.below HST.out HX.out.lt)
  replace HC2 := Lib.hid (own_below HC2.out HST.out)
  replace HC6 := Lib.hid (own_below HC6.out HST.out)
  replace HC8 := Lib.hid (own_below HC8.out HST.out)
  replace HB := Lib.hid (chain HB.out HST.out)
  go_wp2_with fail
  refine (loose_any _).mono ?_
  rintro e Y13 ⟨gl, rfl, hlq, hb⟩
  have HLQ := Lib.hid hlq
  replace HST := Lib.hid hb
  clear hb hlq
  replace HX := Lib.hid (HX.out.below HST.out HX.out.lt)
  replace HC2 := Lib.hid (own_below HC2.out HST.out)
  replace HC6 := Lib.hid (own_below HC6.out HST.out)
  replace HC8 := Lib.hid (own_below HC8.out HST.out)
  replace HB := Lib.hid (chain HB.out HST.out)
  go_wp2_with fail
  refine (kisame_any (ns := l3) _ (Rw.own HC8.out (Nat.le_refl _)) (loose_3 HLQ.out) (Nat.le_refl _)).mono ?_
  rintro e Y14 ⟨rfl, hb⟩
  replace HST := Lib.hid hb
  clear hb
  replace HX := Lib.hid (HX.out.below HST.out HX.out.lt)
  replace HC2 := Lib.hid (own_below HC2.out HST.out)
  replace HC6 := Lib.hid (own_below HC6.out HST.out)
  replace HC8 := Lib.hid (own_below HC8.out HST.out)
  replace HB := Lib.hid (chain HB.out HST.out)
  go_wp2
  go_ret
  exact ⟨rfl, HL.out.trans (HB.out.mono HL.out.size)⟩
end Go.Proofs.YtlpjgaeelnlipaaGreat
