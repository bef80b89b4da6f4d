/-
  THE DOCUMENT'S ends: Less, Set, Has, Same.
-/
import Derived.Test.YtodpajnpnobfmaaOtP
namespace Go.Proofs.Ytodpajnpnobfmaa
open Go.RowKit
set_option linter.unusedVariables false
set_option linter.unusedSimpArgs false
open OtM

theorem blE {w W : World} {p q r s : Addr} {x y z u : Value} (h : W.cell? p = some x ∧ W.cell? q = some y ∧ W.cell? r = some z ∧ W.cell? s = some u ∧ Below w.heap.size w W) : Below w.heap.size w W := h.2.2.2.2
set_option maxHeartbeats 4000000 in
set_option maxRecDepth 100000 in
theorem rless_any {B : Nat} {v u : Value} {a b : Ot} (w : World) (hv : OutR B w v a) (hu : OutR B w u b) (hBB : B ≤ w.heap.size) :
    Calls Try.prog 12 #[v, u] w fun e w' => e = .returned (.bool (decide (Lt a b))) ∧ Below w.heap.size w w' := by
  obtain ⟨vm, vr, rfl, h1, h2⟩ := hv
  obtain ⟨um, ur, rfl, g1, g2⟩ := hu
  have HC0 := Lib.hid (fun W (hW : Below w.heap.size w W) => nsame_dec W (h1.below (hW.mono hBB)) (g1.below (hW.mono hBB)) (Nat.le_trans hBB hW.size))
  have HC1 := Lib.hid (fun W (hW : Below w.heap.size w W) => rahead_any W (h1.below (hW.mono hBB)) (g1.below (hW.mono hBB)) (Nat.le_trans hBB hW.size))
  have HC2 := Lib.hid (fun W (hW : Below w.heap.size w W) => rahead_any W (h2.below (hW.mono hBB)) (g2.below (hW.mono hBB)) (Nat.le_trans hBB hW.size))
  obtain ⟨A1, n1, c1, rfl⟩ := h1.sl
  obtain ⟨A2, n2, c2, rfl⟩ := h2.sl
  obtain ⟨D1, n3, e1, rfl⟩ := g1.sl
  obtain ⟨D2, n4, e2, rfl⟩ := g2.sl
  clear h1 h2 g1 g2
  have HT := Lib.hid (fun (h : a.1 = b.1) => show decide (Lt a b) = decide (cmpI a.2 b.2 < 0) from by rw [decide_eq_decide]; unfold Lt cmpO; rw [if_pos ((cmpI_zero _ _).2 h)])
  have HF := Lib.hid (fun (h : ¬ a.1 = b.1) => show decide (Lt a b) = decide (cmpI a.1 b.1 < 0) from by rw [decide_eq_decide]; unfold Lt cmpO; rw [if_neg (fun k => h ((cmpI_zero _ _).1 k))])
  obtain ⟨W2, hW2⟩ : ∃ W, W = (w.alloc (.cells #[.slice A1 n1 c1, .slice A2 n2 c2] 24)).alloc (.cells #[.slice D1 n3 e1, .slice D2 n4 e2] 24) := ⟨_, rfl⟩
  obtain ⟨ga, hga⟩ : ∃ g, g = w.heap.size := ⟨_, rfl⟩
  obtain ⟨gb, hgb⟩ : ∃ g, g = w.heap.size + 1 := ⟨_, rfl⟩
  have HX := Lib.hid (show BoxC W2 ga 24 #[.slice A1 n1 c1, .slice A2 n2 c2] from by rw [hW2, hga]; exact (BoxC.new w _ _).alloc _)
  have HY := Lib.hid (show BoxC W2 gb 24 #[.slice D1 n3 e1, .slice D2 n4 e2] from by rw [hW2, hgb]; have := BoxC.new (w.alloc (.cells #[.slice A1 n1 c1, .slice A2 n2 c2] 24)) 24 #[.slice D1 n3 e1, .slice D2 n4 e2]; rw [World.size_alloc] at this; exact this)
  have HB2 := Lib.hid (show Below w.heap.size w W2 from by rw [hW2]; exact below_al (below_al (Below.refl _ _) _) _)
  go_enter Try.func12, Try.ntmps12
  go_upto_region 1 with fail
  rw [← hW2]
  (try rw [← hgb])
  (try rw [← hga])
  clear hW2 hga hgb
  have x0 := HX.out.cell 0 (.slice A1 n1 c1) rfl
  have x1 := HX.out.cell 1 (.slice A2 n2 c2) rfl
  have y0 := HY.out.cell 0 (.slice D1 n3 e1) rfl
  have y1 := HY.out.cell 1 (.slice D2 n4 e2) rfl
  go_wp2_with fail
  refine (HC0.out _ HB2.out).mono ?_
  rintro e V1 ⟨r1, rfl, hr1, hb⟩
  have HB3 := Lib.hid (chain HB2.out hb)
  replace x0 := kc hb x0
  replace x1 := kc hb x1
  replace y0 := kc hb y0
  replace y1 := kc hb y1
  clear hb
  cases r1
  · have HE := Lib.hid (HF.out (fun h => by simp at hr1; exact hr1 h))
    clear hr1
    go_wp2_with fail
    refine (HC1.out _ HB3.out).mono ?_
    rintro e V2 ⟨rfl, hb⟩
    have HB4 := Lib.hid (chain HB3.out hb)
    clear hb
    go_wp2
    go_ret
    exact ⟨by rw [HE.out]; rfl, HB4.out⟩
  · have HE := Lib.hid (HT.out (hr1.1 rfl))
    clear hr1
    go_wp2_with fail
    refine (HC2.out _ HB3.out).mono ?_
    rintro e V2 ⟨rfl, hb⟩
    have HB4 := Lib.hid (chain HB3.out hb)
    clear hb
    go_wp2
    go_ret
    exact ⟨by rw [HE.out]; rfl, HB4.out⟩
set_option maxHeartbeats 8000000 in
set_option maxRecDepth 100000 in
theorem rset_any {B : Nat} {v : Value} {xs : List OV} (w : World) (hv : OutsX B w v xs) (hBB : B ≤ w.heap.size) (hl : xs.length ≤ 1000000) :
    Calls Try.prog 14 #[v] w fun e w' => e = .returned (.bool (srtB (os xs))) ∧ Below w.heap.size w w' := by
  obtain ⟨⟨A, c, rfl, h1, h2, h0, h3⟩, hov⟩ := hv
  unfold maxLen at h2
  have h3 := ov_at h3
  obtain ⟨n, hn⟩ : ∃ n, n = xs.length := ⟨_, rfl⟩
  have HN := Lib.hid hn
  rw [← hn] at h1 hl ⊢
  clear hn
  have HC := Lib.hid (fun (i j : Nat) (hi : i < xs.length) (hj : j < xs.length) (W : World) (hW : Below w.heap.size w W) => rless_any W (((hov xs[i] (List.getElem_mem hi)).below (hW.mono hBB)).out) (((hov xs[j] (List.getElem_mem hj)).below (hW.mono hBB)).out) (Nat.le_trans hBB hW.size))
  have HSL := Lib.hid (fun (k : Nat) (hk : k < xs.length) => And.intro (hov xs[k] (List.getElem_mem hk)).1.sl (hov xs[k] (List.getElem_mem hk)).2.sl)
  clear hov h0
  go_enter Try.func14, Try.ntmps14
  go_wp2
  go_loopw [3] (fun i wr => ∃ j k : Nat, Hid (k = j + 1) ∧ (k ≤ n ∨ k = 1) ∧ i = .int .i64 k ∧ Hid (Srt ((os xs).take k)) ∧ Below w.heap.size w wr) (fun i _ => n - (intOf i).toNat)
  case atStart => exact ⟨0, 1, Lib.hid rfl, .inr rfl, rfl, Lib.hid (by cases os xs <;> simp), Below.refl _ _⟩
  case round =>
    obtain ⟨j, k, HJ, hk, rfl, HS, hB⟩ := hrel
    by_cases hlt : k < n
    · have hkx : k < xs.length := by have := HN.out; omega
      have hjx : j < xs.length := by have := HJ.out; omega
      obtain ⟨b1, f1, rfl, hl1, hc1⟩ := h3 (by omega)
      have hcc := fun i hi => And.intro (((hB.mono hBB).cell (p := ⟨b1, f1 + i * 2, none⟩) hl1).trans (hc1 i hi).1) (((hB.mono hBB).cell (p := ⟨b1, f1 + i * 2 + 1, none⟩) hl1).trans (hc1 i hi).2)
      obtain ⟨d1, d2⟩ := hcc k hkx
      obtain ⟨e1, e2⟩ := hcc j hjx
      have HC1 := HC.out j k hjx hkx
      have HSL1 := HSL.out j hjx
      have HSL2 := HSL.out k hkx
      have HT := Lib.hid (show Srt ((os xs).take (k + 1)) ↔ Lt xs[j].o xs[k].o from by
        have hj := HJ.out
        subst hj
        have := srt_take (l := os xs) (j := j) (by simpa using hkx) HS.out
        simpa using this)
      obtain ⟨x, hx⟩ : ∃ x, x = xs[j] := ⟨_, rfl⟩
      obtain ⟨y, hy⟩ : ∃ y, y = xs[k] := ⟨_, rfl⟩
      rw [← hx] at e1 e2 HC1 HSL1 HT
      rw [← hy] at d1 d2 HC1 HSL2 HT
      clear hx hy hcc hc1 h3 hkx HS
      obtain ⟨xm, xr, xo⟩ := x
      obtain ⟨ym, yr, yo⟩ := y
      dsimp only at d1 d2 e1 e2 HC1 HSL1 HSL2 HT
      obtain ⟨⟨A1, n1, c1, rfl⟩, A2, n2, c2, rfl⟩ := HSL1
      obtain ⟨⟨D1, n3, c3, rfl⟩, D2, n4, c4, rfl⟩ := HSL2
      have hsub : (k : Int) - 1 = (j : Int) := by have := HJ.out; omega
      have hwr : IntKind.i64.wrap (j : Int) = j := IntWalk.i64_in _ (by omega)
      have hjn : j < n := by have := HJ.out; omega
      obtain ⟨b, hb⟩ : ∃ b, b = decide (Lt xo yo) := ⟨_, rfl⟩
      rw [← hb] at HC1
      have HBD := Lib.hid hb
      have HC2 := Lib.hid HC1
      clear HC1 hjx hb
      have hS : wr.cell? ⟨b1, f1 + j * 2, none⟩ = some (.slice A1 n1 c1) ∧ wr.cell? ⟨b1, f1 + j * 2 + 1, none⟩ = some (.slice A2 n2 c2) ∧ wr.cell? ⟨b1, f1 + k * 2, none⟩ = some (.slice D1 n3 c3) ∧ wr.cell? ⟨b1, f1 + k * 2 + 1, none⟩ = some (.slice D2 n4 c4) ∧ Below w.heap.size w wr := ⟨e1, e2, d1, d2, hB⟩
      clear d1 d2 e1 e2
      go_upto_region 4 with fail
      go_region_held3 (fun w' => w'.cell? ⟨b1, f1 + j * 2, none⟩ = some (.slice A1 n1 c1) ∧ w'.cell? ⟨b1, f1 + j * 2 + 1, none⟩ = some (.slice A2 n2 c2) ∧ w'.cell? ⟨b1, f1 + k * 2, none⟩ = some (.slice D1 n3 c3) ∧ w'.cell? ⟨b1, f1 + k * 2 + 1, none⟩ = some (.slice D2 n4 c4) ∧ Below w.heap.size w w') (first | (exact keepF (by assumption) (by assumption)) | (exact keepF (by assumption) (below_drewN (Below.refl _ _) 1)))
        (first | (go_at_call 12; refine (HC2.out _ (blE (by assumption))).mono ?_; rintro e w' ⟨rfl, hb2⟩))
      all_goals
        rename_i hHeld
        have HBF := Lib.hid (blE hHeld)
        clear hHeld hS hb2
        cases b
        · have HE := Lib.hid (show srtB (os xs) = false from decide_eq_false (srt_part (fun h => by have := HT.out.1 h; have h2 := HBD.out; simp [this] at h2)))
          go_wp2
          go_ret
          exact ⟨by rw [HE.out]; rfl, HBF.out⟩
        · have HE := Lib.hid (HT.out.2 (of_decide_eq_true HBD.out.symm))
          go_wp2
          go_roundw
          case rel => exact ⟨k, k + 1, Lib.hid rfl, .inl (by omega), by go_num, HE, HBF.out⟩
          case measure => simp [intOf]; omega
    · have HE := Lib.hid (show srtB (os xs) = true from decide_eq_true (by
        have := HS.out
        rwa [List.take_of_length_le (by have := HN.out; simp; omega)] at this))
      clear h3 HS
      go_wp2
      go_ret
      exact ⟨by rw [HE.out]; rfl, hB⟩
set_option maxHeartbeats 4000000 in
set_option maxRecDepth 100000 in
theorem rhas_any {B : Nat} {v u : Value} {xs : List OV} {o : Ot} (w : World) (hv : OutsX B w v xs) (hu : OutR B w u o) (hBB : B ≤ w.heap.size) (hl : xs.length ≤ 1000000) :
    Calls Try.prog 21 #[v, u] w fun e w' => e = .returned (.bool (decide (o ∈ os xs))) ∧ Below w.heap.size w w' := by
  obtain ⟨⟨A, c, rfl, h1, h2, h0, h3⟩, hov⟩ := hv
  unfold maxLen at h2
  have h3 := ov_at h3
  obtain ⟨n, hn⟩ : ∃ n, n = xs.length := ⟨_, rfl⟩
  have HN := Lib.hid hn
  rw [← hn] at h1 hl ⊢
  clear hn
  have HC := Lib.hid (fun (i : Nat) (hi : i < xs.length) (W : World) (hW : Below w.heap.size w W) => rsout_any W (((hov xs[i] (List.getElem_mem hi)).below (hW.mono hBB)).out) (hu.below (hW.mono hBB)) (Nat.le_trans hBB hW.size))
  have HSL := Lib.hid (fun (k : Nat) (hk : k < xs.length) => And.intro (hov xs[k] (List.getElem_mem hk)).1.sl (hov xs[k] (List.getElem_mem hk)).2.sl)
  obtain ⟨um, ur, rfl, g1, g2⟩ := hu
  obtain ⟨E1, l1, k1, rfl⟩ := g1.sl
  obtain ⟨E2, l2, k2, rfl⟩ := g2.sl
  clear hov h0 g1 g2
  obtain ⟨W1, hW1⟩ : ∃ W, W = w.alloc (.cells #[.slice E1 l1 k1, .slice E2 l2 k2] 24) := ⟨_, rfl⟩
  obtain ⟨gb, hgb⟩ : ∃ x, x = w.heap.size := ⟨_, rfl⟩
  have hx := box2 (w := w) (.slice E1 l1 k1) (.slice E2 l2 k2) 24
  have HB1 := Lib.hid (show Below w.heap.size w W1 from by rw [hW1]; exact below_al (Below.refl _ _) _)
  rw [← hW1, ← hgb] at hx
  have HX := Lib.hid hx
  clear hx
  go_enter Try.func21, Try.ntmps21
  go_upto_region 1 with fail
  rw [← hW1]
  (try rw [← hgb])
  clear hW1 hgb
  go_wp2
  go_loopw [5] (fun i wr => ∃ k : Nat, k ≤ n ∧ i = .int .i64 k ∧ Hid (o ∉ os (xs.take k)) ∧ Below W1.heap.size W1 wr) (fun i _ => n - (intOf i).toNat)
  case atStart => exact ⟨0, Nat.zero_le _, rfl, Lib.hid (by simp), Below.refl _ _⟩
  case round =>
    obtain ⟨k, hk, rfl, HF, hB⟩ := hrel
    by_cases hlt : k < n
    · have hkx : k < xs.length := by have := HN.out; omega
      obtain ⟨b1, f1, rfl, hl1, hc1⟩ := h3 (by omega)
      have HBw := chain HB1.out hB
      obtain ⟨p0, p1⟩ := hc1 k hkx
      have d1 := ((HBw.mono hBB).cell (p := ⟨b1, f1 + k * 2, none⟩) hl1).trans p0
      have d2 := ((HBw.mono hBB).cell (p := ⟨b1, f1 + k * 2 + 1, none⟩) hl1).trans p1
      have HC1 := HC.out k hkx
      have HSL1 := HSL.out k hkx
      have HT := Lib.hid (show o ∈ os (xs.take (k + 1)) ↔ o ∈ os (xs.take k) ∨ o = xs[k].o from os_mem_take hkx o)
      have HM := Lib.hid (fun (h : xs[k].o = o) => show o ∈ os xs from List.mem_map.2 ⟨xs[k], List.getElem_mem hkx, h⟩)
      obtain ⟨x, hx⟩ : ∃ x, x = xs[k] := ⟨_, rfl⟩
      rw [← hx] at d1 d2 HC1 HSL1 HT HM
      clear hx hc1 h3 p0 p1 hkx
      obtain ⟨xm, xr, xo⟩ := x
      dsimp only at d1 d2 HC1 HSL1 HT HM
      obtain ⟨⟨A1, n1, c1, rfl⟩, A2, n2, c2, rfl⟩ := HSL1
      obtain ⟨bb, hbb⟩ : ∃ b, b = decide (xo = o) := ⟨_, rfl⟩
      rw [← hbb] at HC1
      have HBD := Lib.hid hbb
      have HC2 := Lib.hid HC1
      have hS : wr.cell? ⟨b1, f1 + k * 2, none⟩ = some (.slice A1 n1 c1) ∧ wr.cell? ⟨b1, f1 + k * 2 + 1, none⟩ = some (.slice A2 n2 c2) ∧ wr.cell? ⟨gb, 0, none⟩ = some (.slice E1 l1 k1) ∧ wr.cell? ⟨gb, 1, none⟩ = some (.slice E2 l2 k2) ∧ Below w.heap.size w wr := ⟨d1, d2, kc hB HX.out.1, kc hB HX.out.2, HBw⟩
      clear HC1 hbb d1 d2
      go_upto_region 4 with fail
      go_region_held3 (fun w' => w'.cell? ⟨b1, f1 + k * 2, none⟩ = some (.slice A1 n1 c1) ∧ w'.cell? ⟨b1, f1 + k * 2 + 1, none⟩ = some (.slice A2 n2 c2) ∧ w'.cell? ⟨gb, 0, none⟩ = some (.slice E1 l1 k1) ∧ w'.cell? ⟨gb, 1, none⟩ = some (.slice E2 l2 k2) ∧ Below w.heap.size w w') (first | (exact keepF (by assumption) (by assumption)) | (exact keepF (by assumption) (below_drewN (Below.refl _ _) 1)))
        (first | (go_at_call 24; refine (HC2.out _ (blE (by assumption))).mono ?_; rintro e w' ⟨rfl, hb2⟩))
      all_goals
        rename_i hHeld
        have HBF := Lib.hid (blE hHeld)
        have HBG := Lib.hid (chain hB (chain (below_drewN (Below.refl _ wr) 1) hb2))
        clear hHeld hS hb2
        cases bb
        · have HE := Lib.hid (show o ∉ os (xs.take (k + 1)) from fun h => by
            rcases HT.out.1 h with q | q
            · exact HF.out q
            · exact (of_decide_eq_false HBD.out.symm) q.symm)
          go_wp2
          go_roundw
          case rel => exact ⟨k + 1, by omega, by go_num, HE, HBG.out⟩
          case measure => simp [intOf]; omega
        · have HE := Lib.hid (show decide (o ∈ os xs) = true from decide_eq_true (HM.out (of_decide_eq_true HBD.out.symm)))
          go_wp2
          go_ret
          exact ⟨by rw [HE.out]; rfl, HBF.out⟩
    · obtain rfl : n = k := by omega
      have HE := Lib.hid (show decide (o ∈ os xs) = false from decide_eq_false (by have := HF.out; rwa [List.take_of_length_le (by have := HN.out; omega)] at this))
      have HBF := Lib.hid (chain HB1.out hB)
      clear h3 HF
      go_wp2
      go_ret
      exact ⟨by rw [HE.out]; rfl, HBF.out⟩
end Go.Proofs.Ytodpajnpnobfmaa
