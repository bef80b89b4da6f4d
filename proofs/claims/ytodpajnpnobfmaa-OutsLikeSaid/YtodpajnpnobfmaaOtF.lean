/-
  ENDS: slices.BinarySearchFunc over sets of ends; Has.
-/
import Derived.Test.YtodpajnpnobfmaaOtE
namespace Go.Proofs.Ytodpajnpnobfmaa
open Go.RowKit
set_option linter.unusedVariables false
set_option linter.unusedSimpArgs false
open OtM

theorem keepF {w W W' : World} {p q r s : Addr} {x y z u : Value} (h : W.cell? p = some x ∧ W.cell? q = some y ∧ W.cell? r = some z ∧ W.cell? s = some u ∧ Below w.heap.size w W) (hb : Below W.heap.size W W') (hp : p.spot = none ∧ q.spot = none ∧ r.spot = none ∧ s.spot = none := by exact ⟨rfl, rfl, rfl, rfl⟩) :
    W'.cell? p = some x ∧ W'.cell? q = some y ∧ W'.cell? r = some z ∧ W'.cell? s = some u ∧ Below w.heap.size w W' := by
  obtain ⟨p1, p2, p3⟩ := p; obtain ⟨q1, q2, q3⟩ := q; obtain ⟨r1, r2, r3⟩ := r; obtain ⟨s1, s2, s3⟩ := s
  obtain ⟨e1, e2, e3, e4⟩ := hp
  dsimp only at e1 e2 e3 e4
  subst e1 e2 e3 e4
  exact ⟨kc hb h.1, kc hb h.2.1, kc hb h.2.2.1, kc hb h.2.2.2.1, chain h.2.2.2.2 hb⟩
def BsRet (l : List Ot) (o : Ot) (w : World) (e : Ending) (w' : World) : Prop := e = .returned (.tuple #[.int .i64 (pos l o), .bool (decide (o ∈ l))]) ∧ Bg w w'
set_option maxHeartbeats 8000000 in
set_option maxRecDepth 100000 in
theorem bsearch_any {B : Nat} {v u : Value} {xs : List OV} {o : Ot} (w : World) (hv : OutsX B w v xs) (hu : OutR B w u o) (hBB : B ≤ w.heap.size) (hl : xs.length ≤ 1000000) (hsr : Srt (os xs)) :
    Calls Try.prog 33 #[v, u, .func (.func 25) #[] #[]] w (BsRet (os xs) o w) := by
  obtain ⟨⟨A, c, rfl, h1, h2, h0, h3⟩, hov⟩ := hv
  unfold maxLen at h2
  have h3 := ov_at h3
  obtain ⟨n, hn⟩ : ∃ n, n = xs.length := ⟨_, rfl⟩
  have HN := Lib.hid hn
  rw [← hn] at h1 hl ⊢
  clear hn
  have HC := Lib.hid (fun (i : Nat) (hi : i < xs.length) (W : World) (hW : Bg w W) => order_any W (((hov xs[i] (List.getElem_mem hi)).below (hW.1.mono hBB)).out) (hu.below (hW.1.mono hBB)) (Nat.le_trans hBB hW.1.size))
  have HSL := Lib.hid (fun (k : Nat) (hk : k < xs.length) => And.intro (hov xs[k] (List.getElem_mem hk)).1.sl (hov xs[k] (List.getElem_mem hk)).2.sl)
  have HP := Lib.hid (fun (i : Nat) (hi : i < xs.length) => show (cmpO xs[i].o o < 0) ↔ i < pos (os xs) o from by have := pos_at o hsr i (by simpa using hi); simpa [Lt] using this)
  have HH := Lib.hid (has_at (o := o) hsr)
  obtain ⟨um, ur, rfl, g1, g2⟩ := hu
  obtain ⟨E1, l1, k1, rfl⟩ := g1.sl
  obtain ⟨E2, l2, k2, rfl⟩ := g2.sl
  obtain ⟨p, hp⟩ : ∃ p, p = pos (os xs) o := ⟨_, rfl⟩
  have HPL := Lib.hid (show p ≤ n from by rw [hp, HN.out]; have := pos_le (os xs) o; simpa using this)
  unfold BsRet
  rw [← hp] at HP HH ⊢
  clear hov h0 g1 g2 hsr hp
  obtain ⟨W1, hW1⟩ : ∃ W, W = w.alloc (.cells #[.slice E1 l1 k1, .slice E2 l2 k2] 24) := ⟨_, rfl⟩
  obtain ⟨gb, hgb⟩ : ∃ x, x = w.heap.size := ⟨_, rfl⟩
  have hx := box2 (w := w) (.slice E1 l1 k1) (.slice E2 l2 k2) 24
  have HB1 := Lib.hid (show Bg w W1 from by rw [hW1]; exact Bg.al _ _)
  rw [← hW1, ← hgb] at hx
  have HX := Lib.hid hx
  clear hx
  go_enter Try.func33, Try.ntmps33
  go_upto_region 1 with fail
  rw [← hW1]
  (try rw [← hgb])
  clear hW1 hgb
  go_wp2
  go_loopw [9, 10] (fun i j wr => ∃ a b : Nat, a ≤ p ∧ p ≤ b ∧ b ≤ n ∧ i = .int .i64 a ∧ j = .int .i64 b ∧ Bg W1 wr) (fun i j _ => (intOf j).toNat - (intOf i).toNat)
  case atStart => exact ⟨0, n, Nat.zero_le _, HPL.out, Nat.le_refl _, rfl, rfl, Bg.refl _⟩
  case round =>
    obtain ⟨a, b, ha, hb, hbn, rfl, rfl, hB⟩ := hrel
    by_cases hlt : a < b
    · obtain ⟨h, hh⟩ : ∃ h, h = (a + b) / 2 := ⟨_, rfl⟩
      have hha : a ≤ h := by omega
      have hhb : h < b := by omega
      have hq : ((a : Int) + (b : Int)) / 2 = (h : Int) := by omega
      have hhx : h < xs.length := by have := HN.out; omega
      obtain ⟨b1, f1, rfl, hl1, hc1⟩ := h3 (by omega)
      have HBw := HB1.out.trans hB
      obtain ⟨p0, p1⟩ := hc1 h hhx
      have d1 := ((HBw.1.mono hBB).cell (p := ⟨b1, f1 + h * 2, none⟩) hl1).trans p0
      have d2 := ((HBw.1.mono hBB).cell (p := ⟨b1, f1 + h * 2 + 1, none⟩) hl1).trans p1
      have HC1 := HC.out h hhx
      have HSL1 := HSL.out h hhx
      have HP1 := HP.out h hhx
      obtain ⟨x, hx⟩ : ∃ x, x = xs[h] := ⟨_, rfl⟩
      rw [← hx] at d1 d2 HC1 HSL1 HP1
      clear hx hc1 h3 p0 p1
      obtain ⟨xm, xr, xo⟩ := x
      dsimp only at d1 d2 HC1 HSL1 HP1
      obtain ⟨⟨A1, n1, c1, rfl⟩, A2, n2, c2, rfl⟩ := HSL1
      obtain ⟨r, hr⟩ : ∃ r, r = cmpO xo o := ⟨_, rfl⟩
      rw [← hr] at HC1 HP1
      have HC2 := Lib.hid HC1
      have HP2 := Lib.hid HP1
      have hS : wr.cell? ⟨b1, f1 + h * 2, none⟩ = some (.slice A1 n1 c1) ∧ wr.cell? ⟨b1, f1 + h * 2 + 1, none⟩ = some (.slice A2 n2 c2) ∧ wr.cell? ⟨gb, 0, none⟩ = some (.slice E1 l1 k1) ∧ wr.cell? ⟨gb, 1, none⟩ = some (.slice E2 l2 k2) ∧ Bg w wr := ⟨d1, d2, kc hB.1 HX.out.1, kc hB.1 HX.out.2, HBw⟩
      have HQ := Lib.hid hq
      clear HC1 HP1 hr d1 d2 hhx hh hq
      have hhn : h < n := by omega
      go_upto_region 5 with fail
      rw [HQ.out]
      go_region_held3 (fun w' => w'.cell? ⟨b1, f1 + h * 2, none⟩ = some (.slice A1 n1 c1) ∧ w'.cell? ⟨b1, f1 + h * 2 + 1, none⟩ = some (.slice A2 n2 c2) ∧ w'.cell? ⟨gb, 0, none⟩ = some (.slice E1 l1 k1) ∧ w'.cell? ⟨gb, 1, none⟩ = some (.slice E2 l2 k2) ∧ Bg w w') (first | (exact keepE (by assumption) (by assumption)) | (exact keepE (by assumption) (Bg.dn _ 1)))
        (first | (go_at_call 25; refine (HC2.out _ (bgE (by assumption))).mono ?_; rintro e w' ⟨rfl, hb2⟩))
      -- ROUND
      all_goals
        rename_i hHeld
        have HBF := Lib.hid (hB.trans ((Bg.dn wr 1).trans hb2))
        clear hHeld hS hb2
        by_cases hr : r < 0
        · have hE : h < p := HP2.out.1 hr
          go_wp2
          go_roundw
          case rel => exact ⟨h + 1, b, by omega, hb, hbn, by go_num, rfl, HBF.out⟩
          case measure => simp [intOf]; omega
        · have hE : p ≤ h := by have := HP2.out; omega
          go_wp2
          go_roundw
          case rel => exact ⟨a, h, ha, hE, by omega, rfl, rfl, HBF.out⟩
          case measure => simp [intOf]; omega
    · obtain rfl : b = a := by omega
      obtain rfl : p = b := by omega
      have hBw := HB1.out.trans hB
      by_cases hpn : p < n
      · have hpx : p < xs.length := by have := HN.out; omega
        obtain ⟨b1, f1, rfl, hl1, hc1⟩ := h3 (by omega)
        obtain ⟨p0, p1⟩ := hc1 p hpx
        have d1 := ((hBw.1.mono hBB).cell (p := ⟨b1, f1 + p * 2, none⟩) hl1).trans p0
        have d2 := ((hBw.1.mono hBB).cell (p := ⟨b1, f1 + p * 2 + 1, none⟩) hl1).trans p1
        have HC1 := HC.out p hpx
        have HSL1 := HSL.out p hpx
        have HH1 := Lib.hid (show o ∈ os xs ↔ xs[p].o = o from by
          rw [HH.out]
          constructor
          · rintro ⟨_, e⟩; rw [← e]; simp
          · intro e; exact ⟨by simpa using hpx, by rw [← e]; simp⟩)
        obtain ⟨x, hx⟩ : ∃ x, x = xs[p] := ⟨_, rfl⟩
        rw [← hx] at d1 d2 HC1 HSL1 HH1
        clear hx hc1 h3 p0 p1
        obtain ⟨xm, xr, xo⟩ := x
        dsimp only at d1 d2 HC1 HSL1 HH1
        obtain ⟨⟨A1, n1, c1, rfl⟩, A2, n2, c2, rfl⟩ := HSL1
        obtain ⟨r, hr⟩ : ∃ r, r = cmpO xo o := ⟨_, rfl⟩
        have HR := Lib.hid (show decide (r = 0) = decide (o ∈ os xs) from by rw [decide_eq_decide, hr, cmpO_zero, HH1.out])
        rw [← hr] at HC1
        have HC2 := Lib.hid HC1
        have hS : wr.cell? ⟨b1, f1 + p * 2, none⟩ = some (.slice A1 n1 c1) ∧ wr.cell? ⟨b1, f1 + p * 2 + 1, none⟩ = some (.slice A2 n2 c2) ∧ wr.cell? ⟨gb, 0, none⟩ = some (.slice E1 l1 k1) ∧ wr.cell? ⟨gb, 1, none⟩ = some (.slice E2 l2 k2) ∧ Bg w wr := ⟨d1, d2, kc hB.1 HX.out.1, kc hB.1 HX.out.2, hBw⟩
        clear HC1 hr d1 d2 hpx hlt
        go_upto_region 8 with fail
        go_region_held3 (fun w' => w'.cell? ⟨b1, f1 + p * 2, none⟩ = some (.slice A1 n1 c1) ∧ w'.cell? ⟨b1, f1 + p * 2 + 1, none⟩ = some (.slice A2 n2 c2) ∧ w'.cell? ⟨gb, 0, none⟩ = some (.slice E1 l1 k1) ∧ w'.cell? ⟨gb, 1, none⟩ = some (.slice E2 l2 k2) ∧ Bg w w') (first | (exact keepE (by assumption) (by assumption)) | (exact keepE (by assumption) (Bg.dn _ 1)))
          (first | (go_at_call 25; refine (HC2.out _ (bgE (by assumption))).mono ?_; rintro e w' ⟨rfl, hb2⟩))
        all_goals
          rename_i hHeld
          have HBF := Lib.hid (bgE hHeld)
          clear hHeld hS hb2
          go_wp2
          go_ret2
          refine ⟨?_, HBF.out⟩
          rw [← HR.out]
          (try rfl)
      have hpn2 : p = n := by omega
      clear h3 hlt
      go_upto_region 8 with fail
      refine wp_region_held_drew (S := (fun w' => Bg w w')) (by kernel_rfl) (hBw.trans (Bg.dn _ 1)) (fun hHeld => ?_)
      refine wpAnyH_take (i := 0) (v := ?_) rfl (by kernel_rfl) (by kernel_rfl) (by kernel_rfl) (fun _ _ _ h => h) (Or.inl ⟨by rfl, ?_⟩) (by assumption) ?_
      rotate_left
      · intro w hSw; (try dsimp only at hSw); go_simp; (try with_reducible rfl)
      (try simp only [Act.put, pt8])
      refine wpAnyH_take (i := 1) (v := ?_) rfl (by kernel_rfl) (by kernel_rfl) (by kernel_rfl) (fun _ _ _ h => h) (Or.inl ⟨by rfl, ?_⟩) (by assumption) ?_
      rotate_left
      · intro w hSw; (try dsimp only at hSw); go_simp; (try with_reducible rfl)
      (try simp only [Act.put, pt8])
      refine wpAnyH_take (i := 2) (v := ?_) rfl (by kernel_rfl) (by kernel_rfl) (by kernel_rfl) (fun _ _ _ h => h) (Or.inl ⟨by rfl, ?_⟩) (by assumption) ?_
      rotate_left
      · intro w hSw; (try dsimp only at hSw); go_simp; (try with_reducible rfl)
      (try simp only [Act.put, pt8])
      refine wpAnyH_take (i := 3) (v := ?_) rfl (by kernel_rfl) (by kernel_rfl) (by kernel_rfl) (fun _ _ _ h => h) (Or.inl ⟨by rfl, ?_⟩) (by assumption) ?_
      rotate_left
      · intro w hSw; (try dsimp only at hSw); go_simp; (try with_reducible rfl)
      (try simp only [Act.put, pt8])
      refine wpAnyH_take (i := 4) (v := ?_) rfl (by kernel_rfl) (by kernel_rfl) (by kernel_rfl) (fun _ _ _ h => h) (Or.inl ⟨by rfl, ?_⟩) (by assumption) ?_
      rotate_left
      · intro w hSw; (try dsimp only at hSw); go_simp; (try with_reducible rfl)
      (try simp only [Act.put, pt8])
      refine wpAnyH_take (i := 5) (v := undef) rfl (by kernel_rfl) (by kernel_rfl) (by kernel_rfl) (fun _ _ _ h => h) (Or.inr ⟨by rfl, rfl⟩) (by assumption) ?_
      (try simp only [Act.put, pt8])
      refine wpAnyH_take (i := 6) (v := undef) rfl (by kernel_rfl) (by kernel_rfl) (by kernel_rfl) (fun _ _ _ h => h) (Or.inr ⟨by rfl, rfl⟩) (by assumption) ?_
      (try simp only [Act.put, pt8])
      refine wpAnyH_take (i := 7) (v := undef) rfl (by kernel_rfl) (by kernel_rfl) (by kernel_rfl) (fun _ _ _ h => h) (Or.inr ⟨by rfl, rfl⟩) (by assumption) ?_
      (try simp only [Act.put, pt8])
      refine wpAnyH_take (i := 8) (v := undef) rfl (by kernel_rfl) (by kernel_rfl) (by kernel_rfl) (fun _ _ _ h => h) (Or.inr ⟨by rfl, rfl⟩) (by assumption) ?_
      (try simp only [Act.put, pt8])
      refine wpAnyH_take (i := 9) (v := undef) rfl (by kernel_rfl) (by kernel_rfl) (by kernel_rfl) (fun _ _ _ h => h) (Or.inr ⟨by rfl, rfl⟩) (by assumption) ?_
      (try simp only [Act.put, pt8])
      refine wpAnyH_take (i := 10) (v := undef) rfl (by kernel_rfl) (by kernel_rfl) (by kernel_rfl) (fun _ _ _ h => h) (Or.inr ⟨by rfl, rfl⟩) (by assumption) ?_
      (try simp only [Act.put, pt8])
      refine wpAnyH_take (i := 11) (v := undef) rfl (by kernel_rfl) (by kernel_rfl) (by kernel_rfl) (fun _ _ _ h => h) (Or.inr ⟨by rfl, rfl⟩) (by assumption) ?_
      (try simp only [Act.put, pt8])
      refine wpAnyH_take (i := 12) (v := undef) rfl (by kernel_rfl) (by kernel_rfl) (by kernel_rfl) (fun _ _ _ h => h) (Or.inr ⟨by rfl, rfl⟩) (by assumption) ?_
      (try simp only [Act.put, pt8])
      refine wpAnyH_take (i := 13) (v := ?_) rfl (by kernel_rfl) (by kernel_rfl) (by kernel_rfl) (fun _ _ _ h => h) (Or.inl ⟨by rfl, ?_⟩) (by assumption) ?_
      rotate_left
      · intro w hSw; (try dsimp only at hSw); go_simp; (try with_reducible rfl)
      (try simp only [Act.put, pt8])
      refine wpAnyH_ready (rs := [14]) (by kernel_rfl) (by simp) ?_
      refine AllReadyH.cons rfl (fun K hK => ?_) AllReadyH.nil
      go_simp
      refine hK.out _ _ hHeld (fun hHeld => ?_)
      clear hK K
      (try simp only [Act.put, pt8])
      refine wpAnyH_ready (rs := [15]) (by kernel_rfl) (by simp) ?_
      refine AllReadyH.cons rfl (fun K hK => ?_) AllReadyH.nil
      go_simp
      refine hK.out _ _ hHeld (fun hHeld => ?_)
      clear hK K
      (try simp only [Act.put, pt8])
      refine wpAnyH_done (by kernel_rfl) ?_ _
      have HBF := Lib.hid hHeld
      clear hHeld
      go_wp2
      go_ret2
      refine ⟨?_, HBF.out⟩
      rw [decide_eq_false (fun hm => by obtain ⟨q, _⟩ := HH.out.1 hm; have := HN.out; simp at q; omega)]
      rw [hpn2]
      rfl
end Go.Proofs.Ytodpajnpnobfmaa
