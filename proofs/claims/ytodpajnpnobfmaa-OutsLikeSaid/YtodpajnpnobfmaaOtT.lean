/-
  THE DOCUMENT'S ends: Put.
-/
import Derived.Test.YtodpajnpnobfmaaOtS
namespace Go.Proofs.Ytodpajnpnobfmaa
open Go.RowKit
set_option linter.unusedVariables false
set_option linter.unusedSimpArgs false
open OtM

def RpRet (B : Nat) (o : Ot) (xs : List OV) (w : World) (e : Ending) (w' : World) : Prop := ∃ r zs nz, e = .returned r ∧ AcK B w.heap.size zs nz r w w' ∧ os zs = rput o false (os xs)
theorem rput_cons (o x : Ot) (d : Bool) (r : List Ot) : rput o d (x :: r) = if (!(d || decide (x = o)) && decide (Lt o x)) = true then o :: x :: rput o true r else x :: rput o (d || decide (x = o)) r := rfl
set_option maxHeartbeats 8000000 in
set_option maxRecDepth 100000 in
theorem rput_any {B : Nat} {v u : Value} {xs : List OV} {o : Ot} (w : World) (hv : OutsX B w v xs) (hu : OutR B w u o) (hBB : B ≤ w.heap.size) (hl : xs.length ≤ 1000000) :
    Calls Try.prog 19 #[v, u] w (RpRet B o xs w) := by
  obtain ⟨⟨A, c, rfl, h1, h2, h0, h3⟩, hov⟩ := hv
  unfold maxLen at h2
  have h3 := ov_at h3
  obtain ⟨i0, hi0, hz0, hz1, hz2⟩ := info_parts info_out
  obtain ⟨n, hn⟩ : ∃ n, n = xs.length := ⟨_, rfl⟩
  have HN := Lib.hid hn
  rw [← hn] at h1 hl ⊢
  clear hn h0
  have HC6 := Lib.hid (fun (i : Nat) (hi : i < xs.length) (W : World) (hW : Below w.heap.size w W) => rsout_any W (((hov xs[i] (List.getElem_mem hi)).below (hW.mono hBB)).out) (hu.below (hW.mono hBB)) (Nat.le_trans hBB hW.size))
  have HC8 := Lib.hid (fun (i : Nat) (hi : i < xs.length) (W : World) (hW : Below w.heap.size w W) => rless_any W (hu.below (hW.mono hBB)) (((hov xs[i] (List.getElem_mem hi)).below (hW.mono hBB)).out) (Nat.le_trans hBB hW.size))
  have HOV := Lib.hid hov
  obtain ⟨um, ur, rfl, g1, g2⟩ := hu
  obtain ⟨E1, l1, k1, rfl⟩ := g1.sl
  obtain ⟨E2, l2, k2, rfl⟩ := g2.sl
  have HOKOw := Lib.hid (show OvOk B w ⟨.slice E1 l1 k1, .slice E2 l2 k2, o⟩ from ⟨g1, g2⟩)
  clear hov g1 g2
  obtain ⟨W1, hW1⟩ : ∃ W, W = w.alloc (.cells #[.slice E1 l1 k1, .slice E2 l2 k2] 24) := ⟨_, rfl⟩
  obtain ⟨gb, hgb⟩ : ∃ x, x = w.heap.size := ⟨_, rfl⟩
  have hx := box2 (w := w) (.slice E1 l1 k1) (.slice E2 l2 k2) 24
  have HB1 := Lib.hid (show Below w.heap.size w W1 from by rw [hW1]; exact below_al (Below.refl _ _) _)
  rw [← hW1, ← hgb] at hx
  have HX := Lib.hid hx
  have HOKO := Lib.hid (HOKOw.out.below (HB1.out.mono hBB))
  clear hx
  go_enter Try.func19, Try.ntmps19
  go_upto_region 1 with fail
  rw [← hW1]
  (try rw [← hgb])
  clear hW1 hgb
  go_wp2
  go_loopw [5, 6, 7] (fun s t i wr => ∃ (k na ca : Nat) (AA : Option Addr) (d : Bool) (acc : List OV), k ≤ n ∧ na ≤ 2 * k ∧ s = .slice AA na ca ∧ t = .bool d ∧ i = .int .i64 k ∧ Hid (AcK B W1.heap.size acc na (.slice AA na ca) W1 wr) ∧ Hid (os acc ++ rput o d ((os xs).drop k) = rput o false (os xs)) ∧ Hid (∀ z ∈ acc, OvOk B w z)) (fun _ _ i _ => n - (intOf i).toNat)
  case atStart => exact ⟨0, 0, 0, none, false, [], Nat.zero_le _, by omega, rfl, rfl, rfl, Lib.hid (AcK.nil B W1), Lib.hid rfl, Lib.hid (fun z hz => by cases hz)⟩
  case round =>
    obtain ⟨k, na, ca, AA, d, acc, hk, hna, rfl, rfl, rfl, HK, HM, HOKW⟩ := hrel
    by_cases hlt : k < n
    · have hkx : k < xs.length := by have := HN.out; omega
      obtain ⟨b1, f1, rfl, hl1, hc1⟩ := h3 (by omega)
      obtain ⟨p0, p1⟩ := hc1 k hkx
      have HBw := Lib.hid (HB1.out.trans (HK.out.below.mono HB1.out.size))
      have d1 := ((HBw.out.mono hBB).cell (p := ⟨b1, f1 + k * 2, none⟩) hl1).trans p0
      have d2 := ((HBw.out.mono hBB).cell (p := ⟨b1, f1 + k * 2 + 1, none⟩) hl1).trans p1
      have HLB := Lib.hid (show b1 < W1.heap.size from by have := HB1.out.size; omega)
      have HD := Lib.hid (And.intro (((HB1.out.mono hBB).cell (p := ⟨b1, f1 + k * 2, none⟩) hl1).trans p0) (((HB1.out.mono hBB).cell (p := ⟨b1, f1 + k * 2 + 1, none⟩) hl1).trans p1))
      have HOK := HOV.out xs[k] (List.getElem_mem hkx)
      have HC61 := HC6.out k hkx
      have HC81 := HC8.out k hkx
      have HDR : (os xs).drop k = xs[k].o :: (os xs).drop (k + 1) := by rw [List.drop_eq_getElem_cons (by simpa using hkx)]; simp
      have HR1 := rput_cons o xs[k].o d ((os xs).drop (k + 1))
      rw [← HDR] at HR1
      obtain ⟨x, hx⟩ : ∃ x, x = xs[k] := ⟨_, rfl⟩
      rw [← hx] at d1 d2 HD HOK HC61 HC81 HR1
      clear hx hc1 h3 p0 p1 hkx HDR
      obtain ⟨xm, xr, xo⟩ := x
      dsimp only at d1 d2 HD HC61 HC81 HR1
      obtain ⟨A1, n1, c1, rfl⟩ := HOK.1.sl
      obtain ⟨A2, n2, c2, rfl⟩ := HOK.2.sl
      have HOKXw := Lib.hid HOK
      have HOKX := Lib.hid (HOK.below (HB1.out.mono hBB))
      obtain ⟨bb, hbb⟩ : ∃ b, b = decide (xo = o) := ⟨_, rfl⟩
      obtain ⟨ll, hll⟩ : ∃ b, b = decide (Lt o xo) := ⟨_, rfl⟩
      rw [← hbb] at HC61 HR1
      rw [← hll] at HC81 HR1
      have HC62 := Lib.hid HC61
      have HC82 := Lib.hid HC81
      have HR := Lib.hid HR1
      have hS : wr.cell? ⟨b1, f1 + k * 2, none⟩ = some (.slice A1 n1 c1) ∧ wr.cell? ⟨b1, f1 + k * 2 + 1, none⟩ = some (.slice A2 n2 c2) ∧ wr.cell? ⟨gb, 0, none⟩ = some (.slice E1 l1 k1) ∧ wr.cell? ⟨gb, 1, none⟩ = some (.slice E2 l2 k2) ∧ Below W1.heap.size W1 wr := ⟨d1, d2, kc HK.out.below HX.out.1, kc HK.out.below HX.out.2, HK.out.below⟩
      clear HC61 HC81 HR1 hbb hll HOK d1 d2
      go_upto_region 6 with fail
      go_region_held3 (fun w' => w'.cell? ⟨b1, f1 + k * 2, none⟩ = some (.slice A1 n1 c1) ∧ w'.cell? ⟨b1, f1 + k * 2 + 1, none⟩ = some (.slice A2 n2 c2) ∧ w'.cell? ⟨gb, 0, none⟩ = some (.slice E1 l1 k1) ∧ w'.cell? ⟨gb, 1, none⟩ = some (.slice E2 l2 k2) ∧ Below W1.heap.size W1 w') (first | (exact keepF (by assumption) (by assumption)) | (exact keepF (by assumption) (below_drewN (Below.refl _ _) 1)))
        (first | (go_at_call 24; refine (HC62.out _ (HB1.out.trans ((blE (by assumption)).mono HB1.out.size))).mono ?_; rintro e W6 ⟨rfl, hb2⟩))
      all_goals
        rename_i hHeld
        have HK6 := Lib.hid (HK.out.grown (chain (below_drewN (Below.refl _ wr) 1) hb2) HK.out.below.size)
        obtain ⟨d1, d2, x0, x1, -⟩ := hHeld
        clear hS hb2
        cases d
        · cases bb
          · clear HK HBw
            have hS : W6.cell? ⟨b1, f1 + k * 2, none⟩ = some (.slice A1 n1 c1) ∧ W6.cell? ⟨b1, f1 + k * 2 + 1, none⟩ = some (.slice A2 n2 c2) ∧ W6.cell? ⟨gb, 0, none⟩ = some (.slice E1 l1 k1) ∧ W6.cell? ⟨gb, 1, none⟩ = some (.slice E2 l2 k2) ∧ Below W1.heap.size W1 W6 := ⟨d1, d2, x0, x1, HK6.out.below⟩
            clear d1 d2 x0 x1
            go_upto_region 8 with fail
            go_region_held3 (fun w' => w'.cell? ⟨b1, f1 + k * 2, none⟩ = some (.slice A1 n1 c1) ∧ w'.cell? ⟨b1, f1 + k * 2 + 1, none⟩ = some (.slice A2 n2 c2) ∧ w'.cell? ⟨gb, 0, none⟩ = some (.slice E1 l1 k1) ∧ w'.cell? ⟨gb, 1, none⟩ = some (.slice E2 l2 k2) ∧ Below W1.heap.size W1 w') (first | (exact keepF (by assumption) (by assumption)) | (exact keepF (by assumption) (below_drewN (Below.refl _ _) 1)))
              (first | (go_at_call 12; refine (HC82.out _ (HB1.out.trans ((blE (by assumption)).mono HB1.out.size))).mono ?_; rintro e W9 ⟨rfl, hb2⟩))
            all_goals
              rename_i hHeld
              have HK9 := Lib.hid (HK6.out.grown (chain (below_drewN (Below.refl _ W6) 1) hb2) HK6.out.below.size)
              obtain ⟨d1, d2, x0, x1, -⟩ := hHeld
              clear hS hb2
              cases ll
              · clear x0 x1
                obtain ⟨W7, hW7⟩ : ∃ W, W = W9.alloc (.cells #[.slice A1 n1 c1, .slice A2 n2 c2] 24) := ⟨_, rfl⟩
                obtain ⟨gc, hgc⟩ : ∃ x, x = W9.heap.size := ⟨_, rfl⟩
                have HL7 := Lib.hid (show Below W9.heap.size W9 W7 from by rw [hW7]; exact below_al (Below.refl _ _) _)
                have hx7 := box2 (w := W9) (.slice A1 n1 c1) (.slice A2 n2 c2) 24
                rw [← hW7, ← hgc] at hx7
                have HAD := Lib.hid (show ∀ j u, [(.slice A1 n1 c1 : Value), .slice A2 n2 c2][j]? = some u → W7.cell? ((⟨gc, 0, none⟩ : Addr).add j) = some u from fun j u hu => by
                  match j, hu with
                  | 0, hu => injection hu with hu; rw [← hu]; exact hx7.1
                  | 1, hu => injection hu with hu; rw [← hu]; exact hx7.2)
                have HK7 := Lib.hid (HK9.out.grown HL7.out HK9.out.below.size)
                clear hx7
                go_upto_region 5 with (first | (at_builtin; (try rw [← hW7]); (try rw [← hgc]); refine wpList_append_own _ rfl _ _ 25 rfl W1.heap.size 24 i0 (.agg #[.slice none 0 0, .slice none 0 0]) 2 48 Try.underlying25 hi0 hz0 hz1 hz2 rfl (by decide) _ (na) (acc.flatMap ovC) rfl HK7.out.own ⟨gc, 0, none⟩ 1 1 [.slice A1 n1 c1, .slice A2 n2 c2] rfl rfl HAD.out (by intro u hu; simp at hu; rcases hu with rfl | rfl <;> rfl) (by unfold maxLen; omega) (by omega) HK7.out.below.size ?_; intro v8 w8 hown8 hg8 _; obtain ⟨A8, c8, rfl⟩ := own_slice hown8))
                have HK8 := Lib.hid (HK7.out.put (x := ⟨.slice A1 n1 c1, .slice A2 n2 c2, xo⟩) HOKX.out hown8 hg8 HK7.out.below.size)
                clear hown8 hg8 HAD hW7 hgc
                have HMN := Lib.hid (show os (acc ++ [⟨.slice A1 n1 c1, .slice A2 n2 c2, xo⟩]) ++ rput o false ((os xs).drop (k + 1)) = rput o false (os xs) from by rw [← HM.out, HR.out]; simp)
                have HOKN := Lib.hid (show ∀ z ∈ acc ++ [⟨.slice A1 n1 c1, .slice A2 n2 c2, xo⟩], OvOk B w z from fun z hz => by rcases List.mem_append.1 hz with hz | hz; exact HOKW.out z hz; rw [List.mem_singleton.1 hz]; exact HOKXw.out)
                clear HM HR d1 d2
                go_wp2
                go_roundw
                case rel => exact ⟨k + 1, na + 1, c8, A8, false, _, by omega, by omega, rfl, rfl, by go_num, HK8, HMN, HOKN⟩
                case measure => simp [intOf]; omega
              · go_upto_region 9 with fail
                obtain ⟨W7a, hW7a⟩ : ∃ W, W = W9.alloc (.cells #[.slice E1 l1 k1, .slice E2 l2 k2] 24) := ⟨_, rfl⟩
                obtain ⟨gca, hgca⟩ : ∃ x, x = W9.heap.size := ⟨_, rfl⟩
                have HL7a := Lib.hid (show Below W9.heap.size W9 W7a from by rw [hW7a]; exact below_al (Below.refl _ _) _)
                have hx7a := box2 (w := W9) (.slice E1 l1 k1) (.slice E2 l2 k2) 24
                rw [← hW7a, ← hgca] at hx7a
                have HADa := Lib.hid (show ∀ j u, [(.slice E1 l1 k1 : Value), .slice E2 l2 k2][j]? = some u → W7a.cell? ((⟨gca, 0, none⟩ : Addr).add j) = some u from fun j u hu => by
                  match j, hu with
                  | 0, hu => injection hu with hu; rw [← hu]; exact hx7a.1
                  | 1, hu => injection hu with hu; rw [← hu]; exact hx7a.2)
                have HK7a := Lib.hid (HK9.out.grown HL7a.out HK9.out.below.size)
                clear hx7a
                go_upto_region 10 with (first | (at_builtin; (try rw [← hW7a]); (try rw [← hgca]); refine wpList_append_own _ rfl _ _ 25 rfl W1.heap.size 24 i0 (.agg #[.slice none 0 0, .slice none 0 0]) 2 48 Try.underlying25 hi0 hz0 hz1 hz2 rfl (by decide) _ (na) (acc.flatMap ovC) rfl HK7a.out.own ⟨gca, 0, none⟩ 1 1 [.slice E1 l1 k1, .slice E2 l2 k2] rfl rfl HADa.out (by intro u hu; simp at hu; rcases hu with rfl | rfl <;> rfl) (by unfold maxLen; omega) (by omega) HK7a.out.below.size ?_; intro v8 w8a hown8 hg8 _; obtain ⟨A8a, c8a, rfl⟩ := own_slice hown8))
                have HK8a := Lib.hid (HK7a.out.put (x := ⟨.slice E1 l1 k1, .slice E2 l2 k2, o⟩) HOKO.out hown8 hg8 HK7a.out.below.size)
                clear hown8 hg8 HADa hW7a hgca
                have hba := HK8a.out.below
                obtain ⟨acc2, hacc2⟩ : ∃ a : List OV, a = acc ++ [⟨.slice E1 l1 k1, .slice E2 l2 k2, o⟩] := ⟨_, rfl⟩
                rw [← hacc2] at HK8a
                have HACC := Lib.hid hacc2
                clear hacc2
                clear x0 x1 d1 d2
                have d1 : w8a.cell? ⟨b1, f1 + k * 2, none⟩ = some (.slice A1 n1 c1) := (hba.cell (p := ⟨b1, f1 + k * 2, none⟩) HLB.out).trans HD.out.1
                have d2 : w8a.cell? ⟨b1, f1 + k * 2 + 1, none⟩ = some (.slice A2 n2 c2) := (hba.cell (p := ⟨b1, f1 + k * 2 + 1, none⟩) HLB.out).trans HD.out.2
                clear hba
                go_upto_region 11 with fail
                obtain ⟨W7, hW7⟩ : ∃ W, W = w8a.alloc (.cells #[.slice A1 n1 c1, .slice A2 n2 c2] 24) := ⟨_, rfl⟩
                obtain ⟨gc, hgc⟩ : ∃ x, x = w8a.heap.size := ⟨_, rfl⟩
                have HL7 := Lib.hid (show Below w8a.heap.size w8a W7 from by rw [hW7]; exact below_al (Below.refl _ _) _)
                have hx7 := box2 (w := w8a) (.slice A1 n1 c1) (.slice A2 n2 c2) 24
                rw [← hW7, ← hgc] at hx7
                have HAD := Lib.hid (show ∀ j u, [(.slice A1 n1 c1 : Value), .slice A2 n2 c2][j]? = some u → W7.cell? ((⟨gc, 0, none⟩ : Addr).add j) = some u from fun j u hu => by
                  match j, hu with
                  | 0, hu => injection hu with hu; rw [← hu]; exact hx7.1
                  | 1, hu => injection hu with hu; rw [← hu]; exact hx7.2)
                have HK7 := Lib.hid (HK8a.out.grown HL7.out HK8a.out.below.size)
                clear hx7
                go_upto_region 5 with (first | (at_builtin; (try rw [← hW7]); (try rw [← hgc]); refine wpList_append_own _ rfl _ _ 25 rfl W1.heap.size 24 i0 (.agg #[.slice none 0 0, .slice none 0 0]) 2 48 Try.underlying25 hi0 hz0 hz1 hz2 rfl (by decide) _ (na + 1) (acc2.flatMap ovC) rfl HK7.out.own ⟨gc, 0, none⟩ 1 1 [.slice A1 n1 c1, .slice A2 n2 c2] rfl rfl HAD.out (by intro u hu; simp at hu; rcases hu with rfl | rfl <;> rfl) (by unfold maxLen; omega) (by omega) HK7.out.below.size ?_; intro v8 w8 hown8 hg8 _; obtain ⟨A8, c8, rfl⟩ := own_slice hown8))
                have HK8 := Lib.hid (HK7.out.put (x := ⟨.slice A1 n1 c1, .slice A2 n2 c2, xo⟩) HOKX.out hown8 hg8 HK7.out.below.size)
                clear hown8 hg8 HAD hW7 hgc
                have HMN := Lib.hid (show os (acc2 ++ [⟨.slice A1 n1 c1, .slice A2 n2 c2, xo⟩]) ++ rput o true ((os xs).drop (k + 1)) = rput o false (os xs) from by rw [← HM.out, HR.out, HACC.out]; simp)
                have HOKN := Lib.hid (show ∀ z ∈ acc2 ++ [⟨.slice A1 n1 c1, .slice A2 n2 c2, xo⟩], OvOk B w z from fun z hz => by rcases List.mem_append.1 hz with hz | hz; (rw [HACC.out] at hz; rcases List.mem_append.1 hz with hz | hz; exact HOKW.out z hz; rw [List.mem_singleton.1 hz]; exact HOKOw.out); rw [List.mem_singleton.1 hz]; exact HOKXw.out)
                clear HM HR d1 d2
                go_wp2
                go_roundw
                case rel => exact ⟨k + 1, na + 1 + 1, c8, A8, true, _, by omega, by omega, rfl, rfl, by go_num, HK8, HMN, HOKN⟩
                case measure => simp [intOf]; omega
          · clear HK HBw x0 x1
            go_upto_region 8 with fail
            refine wp_region_held_drew (S := (fun w' => Below W1.heap.size W1 w')) (by kernel_rfl) (below_drewN HK6.out.below 1) (fun hHeld => ?_)
            refine wpAnyH_take (i := 0) (v := ?_) rfl (by kernel_rfl) (by kernel_rfl) (by kernel_rfl) (fun _ _ _ h => h) (Or.inl ⟨by rfl, ?_⟩) (by assumption) ?_
            rotate_left
            · intro w hSw; (try dsimp only at hSw); go_simp; (try with_reducible rfl)
            (try simp only [Act.put, pt8])
            refine wpAnyH_take (i := 1) (v := ?_) rfl (by kernel_rfl) (by kernel_rfl) (by kernel_rfl) (fun _ _ _ h => h) (Or.inl ⟨by rfl, ?_⟩) (by assumption) ?_
            rotate_left
            · intro w hSw; (try dsimp only at hSw); go_simp; (try with_reducible rfl)
            (try simp only [Act.put, pt8])
            refine wpAnyH_take (i := 2) (v := ?_) rfl (by kernel_rfl) (by kernel_rfl) (by kernel_rfl) (fun _ _ _ h => h) (Or.inl ⟨by rfl, ?_⟩) (by assumption) ?_
            rotate_left
            · intro w hSw; (try dsimp only at hSw); go_simp; (try with_reducible rfl)
            (try simp only [Act.put, pt8])
            refine wpAnyH_take (i := 3) (v := undef) rfl (by kernel_rfl) (by kernel_rfl) (by kernel_rfl) (fun _ _ _ h => h) (Or.inr ⟨by rfl, rfl⟩) (by assumption) ?_
            (try simp only [Act.put, pt8])
            refine wpAnyH_take (i := 4) (v := undef) rfl (by kernel_rfl) (by kernel_rfl) (by kernel_rfl) (fun _ _ _ h => h) (Or.inr ⟨by rfl, rfl⟩) (by assumption) ?_
            (try simp only [Act.put, pt8])
            refine wpAnyH_take (i := 5) (v := undef) rfl (by kernel_rfl) (by kernel_rfl) (by kernel_rfl) (fun _ _ _ h => h) (Or.inr ⟨by rfl, rfl⟩) (by assumption) ?_
            (try simp only [Act.put, pt8])
            refine wpAnyH_take (i := 6) (v := undef) rfl (by kernel_rfl) (by kernel_rfl) (by kernel_rfl) (fun _ _ _ h => h) (Or.inr ⟨by rfl, rfl⟩) (by assumption) ?_
            (try simp only [Act.put, pt8])
            refine wpAnyH_take (i := 7) (v := undef) rfl (by kernel_rfl) (by kernel_rfl) (by kernel_rfl) (fun _ _ _ h => h) (Or.inr ⟨by rfl, rfl⟩) (by assumption) ?_
            (try simp only [Act.put, pt8])
            refine wpAnyH_take (i := 8) (v := undef) rfl (by kernel_rfl) (by kernel_rfl) (by kernel_rfl) (fun _ _ _ h => h) (Or.inr ⟨by rfl, rfl⟩) (by assumption) ?_
            (try simp only [Act.put, pt8])
            refine wpAnyH_take (i := 9) (v := ?_) rfl (by kernel_rfl) (by kernel_rfl) (by kernel_rfl) (fun _ _ _ h => h) (Or.inl ⟨by rfl, ?_⟩) (by assumption) ?_
            rotate_left
            · intro w hSw; (try dsimp only at hSw); go_simp; (try with_reducible rfl)
            (try simp only [Act.put, pt8])
            refine wpAnyH_done (by kernel_rfl) ?_ _
            have HK7 := Lib.hid (show AcK B W1.heap.size acc na (.slice AA na ca) W1 (W6.drew) from HK6.out.grown (below_drewN (Below.refl _ W6) 1) HK6.out.below.size)
            clear hHeld
            replace d1 : W6.drew.cell? ⟨b1, f1 + k * 2, none⟩ = some (.slice A1 n1 c1) := d1
            replace d2 : W6.drew.cell? ⟨b1, f1 + k * 2 + 1, none⟩ = some (.slice A2 n2 c2) := d2
            obtain ⟨Wd, hWd⟩ : ∃ W, W = W6.drew := ⟨_, rfl⟩
            rw [← hWd] at HK7 d1 d2 ⊢
            clear hWd
            obtain ⟨W7, hW7⟩ : ∃ W, W = Wd.alloc (.cells #[.slice A1 n1 c1, .slice A2 n2 c2] 24) := ⟨_, rfl⟩
            obtain ⟨gc, hgc⟩ : ∃ x, x = Wd.heap.size := ⟨_, rfl⟩
            have HL7 := Lib.hid (show Below Wd.heap.size Wd W7 from by rw [hW7]; exact below_al (Below.refl _ _) _)
            have hx7 := box2 (w := Wd) (.slice A1 n1 c1) (.slice A2 n2 c2) 24
            rw [← hW7, ← hgc] at hx7
            have HAD := Lib.hid (show ∀ j u, [(.slice A1 n1 c1 : Value), .slice A2 n2 c2][j]? = some u → W7.cell? ((⟨gc, 0, none⟩ : Addr).add j) = some u from fun j u hu => by
              match j, hu with
              | 0, hu => injection hu with hu; rw [← hu]; exact hx7.1
              | 1, hu => injection hu with hu; rw [← hu]; exact hx7.2)
            have HK7 := Lib.hid (HK7.out.grown HL7.out HK7.out.below.size)
            clear hx7
            go_upto_region 5 with (first | (at_builtin; (try rw [← hW7]); (try rw [← hgc]); refine wpList_append_own _ rfl _ _ 25 rfl W1.heap.size 24 i0 (.agg #[.slice none 0 0, .slice none 0 0]) 2 48 Try.underlying25 hi0 hz0 hz1 hz2 rfl (by decide) _ (na) (acc.flatMap ovC) rfl HK7.out.own ⟨gc, 0, none⟩ 1 1 [.slice A1 n1 c1, .slice A2 n2 c2] rfl rfl HAD.out (by intro u hu; simp at hu; rcases hu with rfl | rfl <;> rfl) (by unfold maxLen; omega) (by omega) HK7.out.below.size ?_; intro v8 w8 hown8 hg8 _; obtain ⟨A8, c8, rfl⟩ := own_slice hown8))
            have HK8 := Lib.hid (HK7.out.put (x := ⟨.slice A1 n1 c1, .slice A2 n2 c2, xo⟩) HOKX.out hown8 hg8 HK7.out.below.size)
            clear hown8 hg8 HAD hW7 hgc
            have HMN := Lib.hid (show os (acc ++ [⟨.slice A1 n1 c1, .slice A2 n2 c2, xo⟩]) ++ rput o true ((os xs).drop (k + 1)) = rput o false (os xs) from by rw [← HM.out, HR.out]; simp)
            have HOKN := Lib.hid (show ∀ z ∈ acc ++ [⟨.slice A1 n1 c1, .slice A2 n2 c2, xo⟩], OvOk B w z from fun z hz => by rcases List.mem_append.1 hz with hz | hz; exact HOKW.out z hz; rw [List.mem_singleton.1 hz]; exact HOKXw.out)
            clear HM HR d1 d2
            go_wp2
            go_roundw
            case rel => exact ⟨k + 1, na + 1, c8, A8, true, _, by omega, by omega, rfl, rfl, by go_num, HK8, HMN, HOKN⟩
            case measure => simp [intOf]; omega
        · clear HK HBw x0 x1
          cases bb
          · go_upto_region 8 with fail
            refine wp_region_held_drew (S := (fun w' => Below W1.heap.size W1 w')) (by kernel_rfl) (below_drewN HK6.out.below 1) (fun hHeld => ?_)
            refine wpAnyH_take (i := 0) (v := ?_) rfl (by kernel_rfl) (by kernel_rfl) (by kernel_rfl) (fun _ _ _ h => h) (Or.inl ⟨by rfl, ?_⟩) (by assumption) ?_
            rotate_left
            · intro w hSw; (try dsimp only at hSw); go_simp; (try with_reducible rfl)
            (try simp only [Act.put, pt8])
            refine wpAnyH_take (i := 1) (v := ?_) rfl (by kernel_rfl) (by kernel_rfl) (by kernel_rfl) (fun _ _ _ h => h) (Or.inl ⟨by rfl, ?_⟩) (by assumption) ?_
            rotate_left
            · intro w hSw; (try dsimp only at hSw); go_simp; (try with_reducible rfl)
            (try simp only [Act.put, pt8])
            refine wpAnyH_take (i := 2) (v := ?_) rfl (by kernel_rfl) (by kernel_rfl) (by kernel_rfl) (fun _ _ _ h => h) (Or.inl ⟨by rfl, ?_⟩) (by assumption) ?_
            rotate_left
            · intro w hSw; (try dsimp only at hSw); go_simp; (try with_reducible rfl)
            (try simp only [Act.put, pt8])
            refine wpAnyH_take (i := 3) (v := undef) rfl (by kernel_rfl) (by kernel_rfl) (by kernel_rfl) (fun _ _ _ h => h) (Or.inr ⟨by rfl, rfl⟩) (by assumption) ?_
            (try simp only [Act.put, pt8])
            refine wpAnyH_take (i := 4) (v := undef) rfl (by kernel_rfl) (by kernel_rfl) (by kernel_rfl) (fun _ _ _ h => h) (Or.inr ⟨by rfl, rfl⟩) (by assumption) ?_
            (try simp only [Act.put, pt8])
            refine wpAnyH_take (i := 5) (v := undef) rfl (by kernel_rfl) (by kernel_rfl) (by kernel_rfl) (fun _ _ _ h => h) (Or.inr ⟨by rfl, rfl⟩) (by assumption) ?_
            (try simp only [Act.put, pt8])
            refine wpAnyH_take (i := 6) (v := undef) rfl (by kernel_rfl) (by kernel_rfl) (by kernel_rfl) (fun _ _ _ h => h) (Or.inr ⟨by rfl, rfl⟩) (by assumption) ?_
            (try simp only [Act.put, pt8])
            refine wpAnyH_take (i := 7) (v := undef) rfl (by kernel_rfl) (by kernel_rfl) (by kernel_rfl) (fun _ _ _ h => h) (Or.inr ⟨by rfl, rfl⟩) (by assumption) ?_
            (try simp only [Act.put, pt8])
            refine wpAnyH_take (i := 8) (v := undef) rfl (by kernel_rfl) (by kernel_rfl) (by kernel_rfl) (fun _ _ _ h => h) (Or.inr ⟨by rfl, rfl⟩) (by assumption) ?_
            (try simp only [Act.put, pt8])
            refine wpAnyH_take (i := 9) (v := ?_) rfl (by kernel_rfl) (by kernel_rfl) (by kernel_rfl) (fun _ _ _ h => h) (Or.inl ⟨by rfl, ?_⟩) (by assumption) ?_
            rotate_left
            · intro w hSw; (try dsimp only at hSw); go_simp; (try with_reducible rfl)
            (try simp only [Act.put, pt8])
            refine wpAnyH_done (by kernel_rfl) ?_ _
            have HK7 := Lib.hid (show AcK B W1.heap.size acc na (.slice AA na ca) W1 (W6.drew) from HK6.out.grown (below_drewN (Below.refl _ W6) 1) HK6.out.below.size)
            clear hHeld
            replace d1 : W6.drew.cell? ⟨b1, f1 + k * 2, none⟩ = some (.slice A1 n1 c1) := d1
            replace d2 : W6.drew.cell? ⟨b1, f1 + k * 2 + 1, none⟩ = some (.slice A2 n2 c2) := d2
            obtain ⟨Wd, hWd⟩ : ∃ W, W = W6.drew := ⟨_, rfl⟩
            rw [← hWd] at HK7 d1 d2 ⊢
            clear hWd
            obtain ⟨W7, hW7⟩ : ∃ W, W = Wd.alloc (.cells #[.slice A1 n1 c1, .slice A2 n2 c2] 24) := ⟨_, rfl⟩
            obtain ⟨gc, hgc⟩ : ∃ x, x = Wd.heap.size := ⟨_, rfl⟩
            have HL7 := Lib.hid (show Below Wd.heap.size Wd W7 from by rw [hW7]; exact below_al (Below.refl _ _) _)
            have hx7 := box2 (w := Wd) (.slice A1 n1 c1) (.slice A2 n2 c2) 24
            rw [← hW7, ← hgc] at hx7
            have HAD := Lib.hid (show ∀ j u, [(.slice A1 n1 c1 : Value), .slice A2 n2 c2][j]? = some u → W7.cell? ((⟨gc, 0, none⟩ : Addr).add j) = some u from fun j u hu => by
              match j, hu with
              | 0, hu => injection hu with hu; rw [← hu]; exact hx7.1
              | 1, hu => injection hu with hu; rw [← hu]; exact hx7.2)
            have HK7 := Lib.hid (HK7.out.grown HL7.out HK7.out.below.size)
            clear hx7
            go_upto_region 5 with (first | (at_builtin; (try rw [← hW7]); (try rw [← hgc]); refine wpList_append_own _ rfl _ _ 25 rfl W1.heap.size 24 i0 (.agg #[.slice none 0 0, .slice none 0 0]) 2 48 Try.underlying25 hi0 hz0 hz1 hz2 rfl (by decide) _ (na) (acc.flatMap ovC) rfl HK7.out.own ⟨gc, 0, none⟩ 1 1 [.slice A1 n1 c1, .slice A2 n2 c2] rfl rfl HAD.out (by intro u hu; simp at hu; rcases hu with rfl | rfl <;> rfl) (by unfold maxLen; omega) (by omega) HK7.out.below.size ?_; intro v8 w8 hown8 hg8 _; obtain ⟨A8, c8, rfl⟩ := own_slice hown8))
            have HK8 := Lib.hid (HK7.out.put (x := ⟨.slice A1 n1 c1, .slice A2 n2 c2, xo⟩) HOKX.out hown8 hg8 HK7.out.below.size)
            clear hown8 hg8 HAD hW7 hgc
            have HMN := Lib.hid (show os (acc ++ [⟨.slice A1 n1 c1, .slice A2 n2 c2, xo⟩]) ++ rput o true ((os xs).drop (k + 1)) = rput o false (os xs) from by rw [← HM.out, HR.out]; simp)
            have HOKN := Lib.hid (show ∀ z ∈ acc ++ [⟨.slice A1 n1 c1, .slice A2 n2 c2, xo⟩], OvOk B w z from fun z hz => by rcases List.mem_append.1 hz with hz | hz; exact HOKW.out z hz; rw [List.mem_singleton.1 hz]; exact HOKXw.out)
            clear HM HR d1 d2
            go_wp2
            go_roundw
            case rel => exact ⟨k + 1, na + 1, c8, A8, true, _, by omega, by omega, rfl, rfl, by go_num, HK8, HMN, HOKN⟩
            case measure => simp [intOf]; omega
          · go_upto_region 8 with fail
            refine wp_region_held_drew (S := (fun w' => Below W1.heap.size W1 w')) (by kernel_rfl) (below_drewN HK6.out.below 1) (fun hHeld => ?_)
            refine wpAnyH_take (i := 0) (v := ?_) rfl (by kernel_rfl) (by kernel_rfl) (by kernel_rfl) (fun _ _ _ h => h) (Or.inl ⟨by rfl, ?_⟩) (by assumption) ?_
            rotate_left
            · intro w hSw; (try dsimp only at hSw); go_simp; (try with_reducible rfl)
            (try simp only [Act.put, pt8])
            refine wpAnyH_take (i := 1) (v := ?_) rfl (by kernel_rfl) (by kernel_rfl) (by kernel_rfl) (fun _ _ _ h => h) (Or.inl ⟨by rfl, ?_⟩) (by assumption) ?_
            rotate_left
            · intro w hSw; (try dsimp only at hSw); go_simp; (try with_reducible rfl)
            (try simp only [Act.put, pt8])
            refine wpAnyH_take (i := 2) (v := ?_) rfl (by kernel_rfl) (by kernel_rfl) (by kernel_rfl) (fun _ _ _ h => h) (Or.inl ⟨by rfl, ?_⟩) (by assumption) ?_
            rotate_left
            · intro w hSw; (try dsimp only at hSw); go_simp; (try with_reducible rfl)
            (try simp only [Act.put, pt8])
            refine wpAnyH_take (i := 3) (v := undef) rfl (by kernel_rfl) (by kernel_rfl) (by kernel_rfl) (fun _ _ _ h => h) (Or.inr ⟨by rfl, rfl⟩) (by assumption) ?_
            (try simp only [Act.put, pt8])
            refine wpAnyH_take (i := 4) (v := undef) rfl (by kernel_rfl) (by kernel_rfl) (by kernel_rfl) (fun _ _ _ h => h) (Or.inr ⟨by rfl, rfl⟩) (by assumption) ?_
            (try simp only [Act.put, pt8])
            refine wpAnyH_take (i := 5) (v := undef) rfl (by kernel_rfl) (by kernel_rfl) (by kernel_rfl) (fun _ _ _ h => h) (Or.inr ⟨by rfl, rfl⟩) (by assumption) ?_
            (try simp only [Act.put, pt8])
            refine wpAnyH_take (i := 6) (v := undef) rfl (by kernel_rfl) (by kernel_rfl) (by kernel_rfl) (fun _ _ _ h => h) (Or.inr ⟨by rfl, rfl⟩) (by assumption) ?_
            (try simp only [Act.put, pt8])
            refine wpAnyH_take (i := 7) (v := undef) rfl (by kernel_rfl) (by kernel_rfl) (by kernel_rfl) (fun _ _ _ h => h) (Or.inr ⟨by rfl, rfl⟩) (by assumption) ?_
            (try simp only [Act.put, pt8])
            refine wpAnyH_take (i := 8) (v := undef) rfl (by kernel_rfl) (by kernel_rfl) (by kernel_rfl) (fun _ _ _ h => h) (Or.inr ⟨by rfl, rfl⟩) (by assumption) ?_
            (try simp only [Act.put, pt8])
            refine wpAnyH_take (i := 9) (v := ?_) rfl (by kernel_rfl) (by kernel_rfl) (by kernel_rfl) (fun _ _ _ h => h) (Or.inl ⟨by rfl, ?_⟩) (by assumption) ?_
            rotate_left
            · intro w hSw; (try dsimp only at hSw); go_simp; (try with_reducible rfl)
            (try simp only [Act.put, pt8])
            refine wpAnyH_done (by kernel_rfl) ?_ _
            have HK7 := Lib.hid (show AcK B W1.heap.size acc na (.slice AA na ca) W1 (W6.drew) from HK6.out.grown (below_drewN (Below.refl _ W6) 1) HK6.out.below.size)
            clear hHeld
            replace d1 : W6.drew.cell? ⟨b1, f1 + k * 2, none⟩ = some (.slice A1 n1 c1) := d1
            replace d2 : W6.drew.cell? ⟨b1, f1 + k * 2 + 1, none⟩ = some (.slice A2 n2 c2) := d2
            obtain ⟨Wd, hWd⟩ : ∃ W, W = W6.drew := ⟨_, rfl⟩
            rw [← hWd] at HK7 d1 d2 ⊢
            clear hWd
            obtain ⟨W7, hW7⟩ : ∃ W, W = Wd.alloc (.cells #[.slice A1 n1 c1, .slice A2 n2 c2] 24) := ⟨_, rfl⟩
            obtain ⟨gc, hgc⟩ : ∃ x, x = Wd.heap.size := ⟨_, rfl⟩
            have HL7 := Lib.hid (show Below Wd.heap.size Wd W7 from by rw [hW7]; exact below_al (Below.refl _ _) _)
            have hx7 := box2 (w := Wd) (.slice A1 n1 c1) (.slice A2 n2 c2) 24
            rw [← hW7, ← hgc] at hx7
            have HAD := Lib.hid (show ∀ j u, [(.slice A1 n1 c1 : Value), .slice A2 n2 c2][j]? = some u → W7.cell? ((⟨gc, 0, none⟩ : Addr).add j) = some u from fun j u hu => by
              match j, hu with
              | 0, hu => injection hu with hu; rw [← hu]; exact hx7.1
              | 1, hu => injection hu with hu; rw [← hu]; exact hx7.2)
            have HK7 := Lib.hid (HK7.out.grown HL7.out HK7.out.below.size)
            clear hx7
            go_upto_region 5 with (first | (at_builtin; (try rw [← hW7]); (try rw [← hgc]); refine wpList_append_own _ rfl _ _ 25 rfl W1.heap.size 24 i0 (.agg #[.slice none 0 0, .slice none 0 0]) 2 48 Try.underlying25 hi0 hz0 hz1 hz2 rfl (by decide) _ (na) (acc.flatMap ovC) rfl HK7.out.own ⟨gc, 0, none⟩ 1 1 [.slice A1 n1 c1, .slice A2 n2 c2] rfl rfl HAD.out (by intro u hu; simp at hu; rcases hu with rfl | rfl <;> rfl) (by unfold maxLen; omega) (by omega) HK7.out.below.size ?_; intro v8 w8 hown8 hg8 _; obtain ⟨A8, c8, rfl⟩ := own_slice hown8))
            have HK8 := Lib.hid (HK7.out.put (x := ⟨.slice A1 n1 c1, .slice A2 n2 c2, xo⟩) HOKX.out hown8 hg8 HK7.out.below.size)
            clear hown8 hg8 HAD hW7 hgc
            have HMN := Lib.hid (show os (acc ++ [⟨.slice A1 n1 c1, .slice A2 n2 c2, xo⟩]) ++ rput o true ((os xs).drop (k + 1)) = rput o false (os xs) from by rw [← HM.out, HR.out]; simp)
            have HOKN := Lib.hid (show ∀ z ∈ acc ++ [⟨.slice A1 n1 c1, .slice A2 n2 c2, xo⟩], OvOk B w z from fun z hz => by rcases List.mem_append.1 hz with hz | hz; exact HOKW.out z hz; rw [List.mem_singleton.1 hz]; exact HOKXw.out)
            clear HM HR d1 d2
            go_wp2
            go_roundw
            case rel => exact ⟨k + 1, na + 1, c8, A8, true, _, by omega, by omega, rfl, rfl, by go_num, HK8, HMN, HOKN⟩
            case measure => simp [intOf]; omega
    · obtain rfl : n = k := by omega
      have HM2 := Lib.hid (show os acc ++ rput o d [] = rput o false (os xs) from by have := HM.out; rwa [List.drop_of_length_le (l := os xs) (by have := HN.out; simp; omega)] at this)
      clear h3
      cases d
      · have x0 := kc HK.out.below HX.out.1
        have x1 := kc HK.out.below HX.out.2
        clear HM
        obtain ⟨wq, hwq⟩ : ∃ W, W = wr := ⟨_, rfl⟩
        rw [← hwq] at HK x0 x1 ⊢
        clear hwq
        go_upto_region 13 with fail
        obtain ⟨W7, hW7⟩ : ∃ W, W = wq.alloc (.cells #[.slice E1 l1 k1, .slice E2 l2 k2] 24) := ⟨_, rfl⟩
        obtain ⟨gc, hgc⟩ : ∃ x, x = wq.heap.size := ⟨_, rfl⟩
        have HL7 := Lib.hid (show Below wq.heap.size wq W7 from by rw [hW7]; exact below_al (Below.refl _ _) _)
        have hx7 := box2 (w := wq) (.slice E1 l1 k1) (.slice E2 l2 k2) 24
        rw [← hW7, ← hgc] at hx7
        have HAD := Lib.hid (show ∀ j u, [(.slice E1 l1 k1 : Value), .slice E2 l2 k2][j]? = some u → W7.cell? ((⟨gc, 0, none⟩ : Addr).add j) = some u from fun j u hu => by
          match j, hu with
          | 0, hu => injection hu with hu; rw [← hu]; exact hx7.1
          | 1, hu => injection hu with hu; rw [← hu]; exact hx7.2)
        have HK7 := Lib.hid (HK.out.grown HL7.out HK.out.below.size)
        clear hx7
        go_upto_region 14 with (first | (at_builtin; (try rw [← hW7]); (try rw [← hgc]); refine wpList_append_own _ rfl _ _ 25 rfl W1.heap.size 24 i0 (.agg #[.slice none 0 0, .slice none 0 0]) 2 48 Try.underlying25 hi0 hz0 hz1 hz2 rfl (by decide) _ (na) (acc.flatMap ovC) rfl HK7.out.own ⟨gc, 0, none⟩ 1 1 [.slice E1 l1 k1, .slice E2 l2 k2] rfl rfl HAD.out (by intro u hu; simp at hu; rcases hu with rfl | rfl <;> rfl) (by unfold maxLen; omega) (by omega) HK7.out.below.size ?_; intro v8 w8 hown8 hg8 _; obtain ⟨A8, c8, rfl⟩ := own_slice hown8))
        have HK8 := Lib.hid (HK7.out.put (x := ⟨.slice E1 l1 k1, .slice E2 l2 k2, o⟩) HOKO.out hown8 hg8 HK7.out.below.size)
        clear hown8 hg8 HAD hW7 hgc
        clear x0 x1
        go_wp2
        go_ret
        exact ⟨_, acc ++ [⟨.slice E1 l1 k1, .slice E2 l2 k2, o⟩], na + 1, rfl, ⟨HK8.out.len, own_base HK8.out.own HB1.out.size, fun z hz => by
          rcases List.mem_append.1 hz with hz | hz
          · exact HOKW.out z hz
          · rw [List.mem_singleton.1 hz]; exact HOKOw.out, HB1.out.trans (HK8.out.below.mono HB1.out.size)⟩, by rw [← HM2.out]; simp [rput]⟩
      · clear HM
        go_wp2
        go_ret
        exact ⟨_, acc, na, rfl, ⟨HK.out.len, own_base HK.out.own HB1.out.size, HOKW.out, HB1.out.trans (HK.out.below.mono HB1.out.size)⟩, by rw [← HM2.out]; simp [rput]⟩
end Go.Proofs.Ytodpajnpnobfmaa
