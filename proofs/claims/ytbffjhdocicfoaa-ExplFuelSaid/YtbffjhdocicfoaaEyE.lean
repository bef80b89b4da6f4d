/-
  slices.symMergeCmpFunc over ends with places: one of them behind a sorted row.
-/
import Derived.Test.YtbffjhdocicfoaaEyD
namespace Go.Proofs.Ytbffjhdocicfoaa
open Go.RowKit
set_option linter.unusedVariables false
set_option linter.unusedSimpArgs false
open OtM EyM

set_option maxHeartbeats 8000000 in
set_option maxRecDepth 100000 in
theorem esym_last {B b g n cap : Nat} {w0 : World} {X A Y : List EV} {y : EV} (a m q : Nat) (w : World) (h : SR B b g n cap w0 (X ++ A ++ [y] ++ Y) w) (ha : X.length = a) (hm : m = a + A.length) (hq : q = m + 1) (hv : 1 < A.length) (hc : Sx A) (hl : Bl A [y]) (hn : n ≤ 1000000) :
    Calls Try.prog 72 #[.slice (some ⟨g, 0, none⟩) n cap, .int .i64 (a : Int), .int .i64 (m : Int), .int .i64 (q : Int), oF] w (SyRet B b g n cap w0 X A [y] Y) := by
  have hlen := h.len
  simp only [List.length_append, List.length_cons, List.length_nil] at hlen
  have hqn : q ≤ n := by omega
  have hmq : m < q := by omega
  have ham : a < m := by omega
  have HD := Lib.hid (fun (i : Nat) (h1 : a ≤ i) (h2 : i ≤ m) hlo hhi => last_done (Y := Y) ha hm hc hl h1 h2 hlo hhi)
  have HU := Lib.hid (fun (t k : Nat) (ht : t < A.length) (hk : k = a + t) => step_down X A Y y ht (hk.trans (by rw [ha])))
  have HM := Lib.hid hm
  have H0 := Lib.hid h
  obtain ⟨zs, hzs⟩ : ∃ z, z = X ++ A ++ [y] ++ Y := ⟨_, rfl⟩
  have HZS := Lib.hid (show X ++ A.take A.length ++ y :: (A.drop A.length ++ Y) = zs from (down_first X A Y y).trans hzs.symm)
  rw [← hzs] at HD H0
  obtain ⟨la, hla⟩ : ∃ x, x = m - a := ⟨_, rfl⟩
  have w1 : IntKind.i64.wrap ((m : Int) - (a : Int)) = (la : Int) := by rw [IntWalk.i64_in _ (by omega)]; omega
  have w0' : IntKind.i64.wrap ((q : Int) - (m : Int)) = 1 := by rw [IntWalk.i64_in _ (by omega)]; omega
  have hla1 : ¬ (la : Int) = 1 := by omega
  clear h hlen ha hm hq hc hl hzs hv hla
  go_enter Try.func72, Try.ntmps72
  go_wp2
  rw [show ((la : Int) == 1) = false from by simpa using hla1]
  clear hla1
  go_loopw [14, 15] (fun u v wr => ∃ i j : Nat, a ≤ i ∧ i ≤ j ∧ j ≤ m ∧ u = .int .i64 i ∧ v = .int .i64 j ∧ Hid (SR B b g n cap w0 zs wr) ∧ Hid (i = a ∨ NltA zs m (i - 1)) ∧ Hid (j = m ∨ LtA zs m j)) (fun u v _ => (intOf v).toNat - (intOf u).toNat)
  case atStart => exact ⟨a, m, Nat.le_refl _, Nat.le_of_lt ham, Nat.le_refl _, rfl, rfl, H0, Lib.hid (.inl rfl), Lib.hid (.inl rfl)⟩
  case round =>
    obtain ⟨i, j, hi, hij, hjm, rfl, rfl, HK, HLO, HHI⟩ := hrel
    by_cases hlt : i < j
    · obtain ⟨h, hh⟩ : ∃ h, h = (i + j) / 2 := ⟨_, rfl⟩
      have hha : i ≤ h := by omega
      have hhb : h < j := by omega
      have hqq : ((i : Int) + (j : Int)) / 2 = (h : Int) := by omega
      have HQ := Lib.hid hqq
      clear hqq hh
      have hb1 : m < n := by omega
      have hb2 : h < n := by omega
      have hi1 : m < zs.length := by rw [HK.out.len]; exact hb1
      have hi2 : h < zs.length := by rw [HK.out.len]; exact hb2
      obtain ⟨x0, x1, x2⟩ := HK.out.at hi1
      obtain ⟨y0, y1, y2⟩ := HK.out.at hi2
      have HC1 := fun (W : World) (hW : Below wr.heap.size wr W) => eorder_any W ((HK.out.grown hW).ev hi1) ((HK.out.grown hW).ev hi2) ((HK.out.grown hW).size)
      obtain ⟨r, hr⟩ : ∃ r, r = cmpE zs[m] zs[h] := ⟨_, rfl⟩
      have HLT := Lib.hid (show (r < 0 → LtA zs m h) ∧ (¬ r < 0 → NltA zs m h) from by
        have h := cmpE_neg zs[m] zs[h]
        rw [← hr, decide_eq_decide] at h
        exact ⟨fun k => ltA_of hi1 hi2 (h.1 k), fun k => nltA_of hi1 hi2 (fun g => k (h.2 g))⟩)
      rw [← hr] at HC1
      obtain ⟨⟨A1, n1, c1, e1⟩, A2, n2, c2, e2⟩ := And.intro (HK.out.ev hi1).1.sl (HK.out.ev hi1).2.sl
      obtain ⟨⟨A3, n3, c3, e3⟩, A4, n4, c4, e4⟩ := And.intro (HK.out.ev hi2).1.sl (HK.out.ev hi2).2.sl
      obtain ⟨x, hx⟩ : ∃ z, z = zs[m] := ⟨_, rfl⟩
      obtain ⟨y, hy⟩ : ∃ z, z = zs[h] := ⟨_, rfl⟩
      rw [← hx] at x0 x1 x2 HC1 e1 e2
      rw [← hy] at y0 y1 y2 HC1 e3 e4
      clear hx hy hi1 hi2 hr
      obtain ⟨xm, xr, xo, xi⟩ := x
      obtain ⟨ym, yr, yo, yi⟩ := y
      dsimp only at x0 x1 x2 y0 y1 y2 HC1 e1 e2 e3 e4
      subst e1 e2 e3 e4
      have HC2 := Lib.hid HC1
      clear HC1
      have hS : wr.cell? ⟨g, m * 3, none⟩ = some (.slice A1 n1 c1) ∧ wr.cell? ⟨g, m * 3 + 1, none⟩ = some (.slice A2 n2 c2) ∧ wr.cell? ⟨g, m * 3 + 2, none⟩ = some (.int .i64 (xi : Int)) ∧ wr.cell? ⟨g, h * 3, none⟩ = some (.slice A3 n3 c3) ∧ wr.cell? ⟨g, h * 3 + 1, none⟩ = some (.slice A4 n4 c4) ∧ wr.cell? ⟨g, h * 3 + 2, none⟩ = some (.int .i64 (yi : Int)) ∧ Bg wr wr := ⟨x0, x1, x2, y0, y1, y2, Bg.refl _⟩
      clear x0 x1 x2 y0 y1 y2
      go_upto_region 17 with fail
      rw [HQ.out]
      go_region_held3 (fun w' => w'.cell? ⟨g, m * 3, none⟩ = some (.slice A1 n1 c1) ∧ w'.cell? ⟨g, m * 3 + 1, none⟩ = some (.slice A2 n2 c2) ∧ w'.cell? ⟨g, m * 3 + 2, none⟩ = some (.int .i64 (xi : Int)) ∧ w'.cell? ⟨g, h * 3, none⟩ = some (.slice A3 n3 c3) ∧ w'.cell? ⟨g, h * 3 + 1, none⟩ = some (.slice A4 n4 c4) ∧ w'.cell? ⟨g, h * 3 + 2, none⟩ = some (.int .i64 (yi : Int)) ∧ Bg wr w') (first | (exact keep6 (by assumption) (by assumption)) | (exact keep6 (by assumption) (Bg.dn _ 1)))
        (first | (go_at_call 41; refine (HC2.out _ (bg6 (by assumption)).1).mono ?_; rintro e w' ⟨rfl, hb2⟩))
      all_goals
        rename_i hHeld
        have HBF := Lib.hid (bg6 hHeld)
        have HK2 := Lib.hid (HK.out.grown HBF.out.1)
        clear hHeld hS hb2
        by_cases hr : r < 0
        · rw [show decide (r < 0) = true from decide_eq_true hr, Bool.not_true]
          go_wp2
          go_roundw
          case rel => exact ⟨i, h, hi, hha, by omega, rfl, rfl, HK2, HLO, Lib.hid (.inr (HLT.out.1 hr))⟩
          case measure => simp [intOf]; omega
        · rw [show decide (r < 0) = false from decide_eq_false hr, Bool.not_false]
          go_wp2
          go_roundw
          case rel => exact ⟨h + 1, j, by omega, by omega, hjm, by go_num, rfl, HK2, Lib.hid (.inr (by rw [Nat.add_sub_cancel]; exact HLT.out.2 (by omega))), HHI⟩
          case measure => simp [intOf]; omega
    · obtain rfl : i = j := by omega
      obtain ⟨t0, ht0⟩ : ∃ t, t = i - a := ⟨_, rfl⟩
      have HDN := HD.out i hi hjm HLO.out HHI.out
      rw [← ht0] at HDN
      have HDO := Lib.hid HDN
      have HT := Lib.hid (show i = a + t0 ∧ t0 ≤ A.length from by have := HM.out; omega)
      have HK3 := HK.out
      rw [← HZS.out] at HK3
      have HKS := Lib.hid HK3
      clear HDN ht0 HK3 hlt HD
      go_wp2
      go_loopw [17] (fun u wr => ∃ k t : Nat, u = .int .i64 k ∧ Hid (k = a + t) ∧ k ≤ m ∧ i ≤ k ∧ Hid (SR B b g n cap w0 (X ++ A.take t ++ y :: (A.drop t ++ Y)) wr)) (fun u _ => (intOf u).toNat - i)
      case atStart => exact ⟨m, A.length, rfl, HM, Nat.le_refl _, hjm, HKS⟩
      case round =>
        obtain ⟨k, t, rfl, HT2, hk, hki, HK5⟩ := hrel
        by_cases hlt : i < k
        · obtain ⟨k1, hk1⟩ : ∃ x, x = k - 1 := ⟨_, rfl⟩
          obtain ⟨t1, ht1⟩ : ∃ x, x = t - 1 := ⟨_, rfl⟩
          have htt : t = t1 + 1 := by have := HT2.out; have := HT.out; omega
          subst htt
          have HN := HU.out t1 k1 (by have := HT2.out; have := HM.out; omega) (by have := HT2.out; omega)
          rw [show k1 + 1 = k by omega] at HN
          have HN := Lib.hid HN
          have w3 : IntKind.i64.wrap ((k : Int) - 1) = (k1 : Int) := by rw [IntWalk.i64_in _ (by omega)]; omega
          have hb1 : k < n := by omega
          have hb2 : k1 < n := by omega
          have HK1 := Lib.hid hk1
          obtain ⟨zc, hzc⟩ : ∃ z, z = X ++ A.take (t1 + 1) ++ y :: (A.drop (t1 + 1) ++ Y) := ⟨_, rfl⟩
          rw [← hzc] at HK5 HN
          clear hzc hk1 ht1
          obtain ⟨y0, hy0⟩ : ∃ z, z = y := ⟨_, rfl⟩
          rw [← hy0] at HN
          have HY0 := Lib.hid hy0
          clear hy0
          have hi1 : k < zc.length := by rw [HK5.out.len]; exact hb1
          have hi2 : k1 < zc.length := by rw [HK5.out.len]; exact hb2
          obtain ⟨x0, x1, x2⟩ := HK5.out.at hi1
          obtain ⟨y0, y1, y2⟩ := HK5.out.at hi2
          have HS1 := Lib.hid (HK5.out.set1 hi1 hi2)
          have HS := Lib.hid (HK5.out.swap hi1 hi2)
          obtain ⟨⟨A1, n1, c1, e1⟩, A2, n2, c2, e2⟩ := And.intro (HK5.out.ev hi1).1.sl (HK5.out.ev hi1).2.sl
          obtain ⟨⟨A3, n3, c3, e3⟩, A4, n4, c4, e4⟩ := And.intro (HK5.out.ev hi2).1.sl (HK5.out.ev hi2).2.sl
          have f0 := own_frozen HK5.out.own (k * 3)
          have f1 := own_frozen HK5.out.own (k * 3 + 1)
          have f2 := own_frozen HK5.out.own (k * 3 + 2)
          obtain ⟨zi, hzi⟩ : ∃ z, z = swap1 zc k k1 := ⟨_, rfl⟩
          rw [← hzi] at HS
          have HZI := Lib.hid hzi
          obtain ⟨x, hx⟩ : ∃ z, z = zc[k] := ⟨_, rfl⟩
          obtain ⟨y, hy⟩ : ∃ z, z = zc[k1] := ⟨_, rfl⟩
          rw [← hx] at x0 x1 x2 HS e1 e2
          rw [← hy] at y0 y1 y2 HS HS1 e3 e4
          obtain ⟨zu, hzu⟩ : ∃ z, z = zc.set k y := ⟨_, rfl⟩
          rw [← hzu] at HS1
          clear hx hy hi1 hi2 hzi hzu
          obtain ⟨xm, xr, xo, xi⟩ := x
          obtain ⟨ym, yr, yo, yi⟩ := y
          dsimp only at x0 x1 x2 y0 y1 y2 HS HS1 e1 e2 e3 e4
          subst e1 e2 e3 e4
          rw [HZI.out, HN.out, HY0.out] at HS
          clear HZI HN
          go_upto_region 23 with fail
          refine wp_region_held_drew (S := (fun w' => True)) (by kernel_rfl) trivial (fun hHeld => ?_)
          refine wpAnyH_take (i := 0) (v := ?_) rfl (by kernel_rfl) (by kernel_rfl) (by kernel_rfl) (fun _ _ _ h => h) (Or.inl ⟨by rfl, ?_⟩) (by assumption) ?_
          rotate_left
          · intro w hSw; (try dsimp only at hSw); go_simp; (try with_reducible rfl)
          (try simp only [Act.put, pt8])
          refine wpAnyH_take (i := 1) (v := ?_) rfl (by kernel_rfl) (by kernel_rfl) (by kernel_rfl) (fun _ _ _ h => h) (Or.inl ⟨by rfl, ?_⟩) (by assumption) ?_
          rotate_left
          · intro w hSw; (try dsimp only at hSw); go_simp; (try with_reducible rfl)
          (try simp only [Act.put, pt8])
          refine wpAnyH_take (i := 2) (v := ?_) rfl (by kernel_rfl) (by kernel_rfl) (by kernel_rfl) (fun _ _ _ h => h) (Or.inl ⟨by rfl, ?_⟩) (by assumption) ?_
          rotate_left
          · intro w hSw; (try dsimp only at hSw); go_simp; (try with_reducible rfl)
          (try simp only [Act.put, pt8])
          refine wpAnyH_take (i := 3) (v := ?_) rfl (by kernel_rfl) (by kernel_rfl) (by kernel_rfl) (fun _ _ _ h => h) (Or.inl ⟨by rfl, ?_⟩) (by assumption) ?_
          rotate_left
          · intro w hSw; (try dsimp only at hSw); go_simp; (try with_reducible rfl)
          (try simp only [Act.put, pt8])
          refine wpAnyH_take (i := 4) (v := ?_) rfl (by kernel_rfl) (by kernel_rfl) (by kernel_rfl) (fun _ _ _ h => h) (Or.inl ⟨by rfl, ?_⟩) (by assumption) ?_
          rotate_left
          · intro w hSw; (try dsimp only at hSw); go_simp; (try with_reducible rfl)
          (try simp only [Act.put, pt8])
          refine wpAnyH_take (i := 5) (v := ?_) rfl (by kernel_rfl) (by kernel_rfl) (by kernel_rfl) (fun _ _ _ h => h) (Or.inl ⟨by rfl, ?_⟩) (by assumption) ?_
          rotate_left
          · intro w hSw; (try dsimp only at hSw); go_simp; (try with_reducible rfl)
          (try simp only [Act.put, pt8])
          refine wpAnyH_take (i := 6) (v := ?_) rfl (by kernel_rfl) (by kernel_rfl) (by kernel_rfl) (fun _ _ _ h => h) (Or.inl ⟨by rfl, ?_⟩) (by assumption) ?_
          rotate_left
          · intro w hSw; (try dsimp only at hSw); go_simp; (try with_reducible rfl)
          (try simp only [Act.put, pt8])
          refine wpAnyH_take (i := 7) (v := ?_) rfl (by kernel_rfl) (by kernel_rfl) (by kernel_rfl) (fun _ _ _ h => h) (Or.inl ⟨by rfl, ?_⟩) (by assumption) ?_
          rotate_left
          · intro w hSw; (try dsimp only at hSw); go_simp; (try with_reducible rfl)
          (try simp only [Act.put, pt8])
          refine wpAnyH_take (i := 8) (v := ?_) rfl (by kernel_rfl) (by kernel_rfl) (by kernel_rfl) (fun _ _ _ h => h) (Or.inl ⟨by rfl, ?_⟩) (by assumption) ?_
          rotate_left
          · intro w hSw; (try dsimp only at hSw); go_simp; (try with_reducible rfl)
          (try simp only [Act.put, pt8])
          refine wpAnyH_take (i := 10) (v := ?_) rfl (by kernel_rfl) (by kernel_rfl) (by kernel_rfl) (fun _ _ _ h => h) (Or.inl ⟨by rfl, ?_⟩) (by assumption) ?_
          rotate_left
          · intro w hSw; (try dsimp only at hSw); go_simp; (try with_reducible rfl)
          (try simp only [Act.put, pt8])
          refine wpAnyH_take (i := 11) (v := ?_) rfl (by kernel_rfl) (by kernel_rfl) (by kernel_rfl) (fun _ _ _ h => h) (Or.inl ⟨by rfl, ?_⟩) (by assumption) ?_
          rotate_left
          · intro w hSw; (try dsimp only at hSw); go_simp; (try with_reducible rfl)
          (try simp only [Act.put, pt8])
          refine wpAnyH_take (i := 12) (v := ?_) rfl (by kernel_rfl) (by kernel_rfl) (by kernel_rfl) (fun _ _ _ h => h) (Or.inl ⟨by rfl, ?_⟩) (by assumption) ?_
          rotate_left
          · intro w hSw; (try dsimp only at hSw); go_simp; (try with_reducible rfl)
          (try simp only [Act.put, pt8])
          refine wpAnyH_ready (rs := [9, 13]) (by kernel_rfl) (by simp) ?_
          refine AllReadyH.cons rfl (fun K hK => ?_) (AllReadyH.cons rfl (fun K hK => ?_) (AllReadyH.nil))
          · -- 9 first
            go_simp
            refine hK.out _ _ trivial (fun hHeld => ?_)
            clear hK K
            (try simp only [Act.put, pt8])
            refine wpAnyH_ready (rs := [13]) (by kernel_rfl) (by simp) ?_
            refine AllReadyH.cons rfl (fun K hK => ?_) AllReadyH.nil
            go_simp
            refine hK.out _ _ trivial (fun hHeld => ?_)
            clear hK K
            (try simp only [Act.put, pt8])
            refine wpAnyH_take (i := 14) (v := ?_) rfl (by kernel_rfl) (by kernel_rfl) (by kernel_rfl) (fun _ _ _ h => h) (Or.inl ⟨by rfl, ?_⟩) (by assumption) ?_
            rotate_left
            · intro w hSw; (try dsimp only at hSw); go_simp; (try with_reducible rfl)
            (try simp only [Act.put, pt8])
            refine wpAnyH_ready (rs := [15]) (by kernel_rfl) (by simp) ?_
            refine AllReadyH.cons rfl (fun K hK => ?_) AllReadyH.nil
            go_simp
            refine hK.out _ _ trivial (fun hHeld => ?_)
            clear hK K
            (try simp only [Act.put, pt8])
            obtain ⟨Y1, hY1⟩ : ∃ W, W = ((wr.setCell ⟨g, k * 3, none⟩ (.slice A3 n3 c3)).setCell ⟨g, k * 3 + 1, none⟩ (.slice A4 n4 c4)).setCell ⟨g, k * 3 + 2, none⟩ (.int .i64 (yi : Int)) := ⟨_, rfl⟩
            rw [← hY1] at HS HS1
            rw [← hY1]
            clear hY1 x0 x1 x2 y0 y1 y2 f0 f1 f2
            obtain ⟨v0, v1, v2, x0, x1, x2, f0, f1, f2⟩ := HS1.out.there hb2
            refine wpAnyH_take (i := 16) (v := ?_) rfl (by kernel_rfl) (by kernel_rfl) (by kernel_rfl) (fun _ _ _ h => h) (Or.inl ⟨by rfl, ?_⟩) (by assumption) ?_
            rotate_left
            · intro w hSw; (try dsimp only at hSw); go_simp; (try with_reducible rfl)
            (try simp only [Act.put, pt8])
            refine wpAnyH_ready (rs := [17]) (by kernel_rfl) (by simp) ?_
            refine AllReadyH.cons rfl (fun K hK => ?_) AllReadyH.nil
            go_simp
            refine hK.out _ _ trivial (fun hHeld => ?_)
            clear hK K
            (try simp only [Act.put, pt8])
            refine wpAnyH_done (by kernel_rfl) ?_ _
            clear x0 x1 x2 f0 f1 f2
            go_wp2
            go_roundw
            case rel => exact ⟨k1, t1, by go_num, Lib.hid (by have := HK1.out; have := HT2.out; omega), by have := HK1.out; omega, by have := HK1.out; omega, Lib.hid (HS.out.grown (Bg.dn _ 1).1)⟩
            case measure => have := HK1.out; simp [intOf]; omega
          · -- 13 first
            go_simp
            refine hK.out _ _ trivial (fun hHeld => ?_)
            clear hK K
            (try simp only [Act.put, pt8])
            refine wpAnyH_ready (rs := [9]) (by kernel_rfl) (by simp) ?_
            refine AllReadyH.cons rfl (fun K hK => ?_) AllReadyH.nil
            go_simp
            refine hK.out _ _ trivial (fun hHeld => ?_)
            clear hK K
            (try simp only [Act.put, pt8])
            refine wpAnyH_take (i := 14) (v := ?_) rfl (by kernel_rfl) (by kernel_rfl) (by kernel_rfl) (fun _ _ _ h => h) (Or.inl ⟨by rfl, ?_⟩) (by assumption) ?_
            rotate_left
            · intro w hSw; (try dsimp only at hSw); go_simp; (try with_reducible rfl)
            (try simp only [Act.put, pt8])
            refine wpAnyH_ready (rs := [15]) (by kernel_rfl) (by simp) ?_
            refine AllReadyH.cons rfl (fun K hK => ?_) AllReadyH.nil
            go_simp
            refine hK.out _ _ trivial (fun hHeld => ?_)
            clear hK K
            (try simp only [Act.put, pt8])
            obtain ⟨Y1, hY1⟩ : ∃ W, W = ((wr.setCell ⟨g, k * 3, none⟩ (.slice A3 n3 c3)).setCell ⟨g, k * 3 + 1, none⟩ (.slice A4 n4 c4)).setCell ⟨g, k * 3 + 2, none⟩ (.int .i64 (yi : Int)) := ⟨_, rfl⟩
            rw [← hY1] at HS HS1
            rw [← hY1]
            clear hY1 x0 x1 x2 y0 y1 y2 f0 f1 f2
            obtain ⟨v0, v1, v2, x0, x1, x2, f0, f1, f2⟩ := HS1.out.there hb2
            refine wpAnyH_take (i := 16) (v := ?_) rfl (by kernel_rfl) (by kernel_rfl) (by kernel_rfl) (fun _ _ _ h => h) (Or.inl ⟨by rfl, ?_⟩) (by assumption) ?_
            rotate_left
            · intro w hSw; (try dsimp only at hSw); go_simp; (try with_reducible rfl)
            (try simp only [Act.put, pt8])
            refine wpAnyH_ready (rs := [17]) (by kernel_rfl) (by simp) ?_
            refine AllReadyH.cons rfl (fun K hK => ?_) AllReadyH.nil
            go_simp
            refine hK.out _ _ trivial (fun hHeld => ?_)
            clear hK K
            (try simp only [Act.put, pt8])
            refine wpAnyH_done (by kernel_rfl) ?_ _
            clear x0 x1 x2 f0 f1 f2
            go_wp2
            go_roundw
            case rel => exact ⟨k1, t1, by go_num, Lib.hid (by have := HK1.out; have := HT2.out; omega), by have := HK1.out; omega, by have := HK1.out; omega, Lib.hid (HS.out.grown (Bg.dn _ 1).1)⟩
            case measure => have := HK1.out; simp [intOf]; omega
        · obtain rfl : k = i := by omega
          have HR := HK5.out
          obtain rfl : t = t0 := by have := HT2.out; have := HT.out; omega
          go_wp2
          refine bodyPost_end (v := .tuple #[]) (by simp [results, Try.results72, go_sem]) rfl ?_
          exact ⟨rfl, _, by simp only [List.append_assoc, List.cons_append] at HR ⊢; exact HR, HDO.out.2, HDO.out.1⟩
end Go.Proofs.Ytbffjhdocicfoaa
