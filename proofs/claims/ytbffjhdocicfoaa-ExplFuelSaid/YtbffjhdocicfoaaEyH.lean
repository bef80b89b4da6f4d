/-
  slices.SortStableFunc over ends with places: by the end, those alike as they stood.
-/
import Derived.Test.YtbffjhdocicfoaaEyF
import Derived.Test.YtbffjhdocicfoaaEyG
namespace Go.Proofs.Ytbffjhdocicfoaa
open Go.RowKit
set_option linter.unusedVariables false
set_option linter.unusedSimpArgs false
open OtM EyM

theorem esym_any {B b g n cap : Nat} {w0 : World} (hn : n ≤ 1000000) : ∀ d, SymH B b g n cap w0 d
  | 0, X, A, C, Y, a, m, q, w, h, ha, hm, hq, hA, hC, hd, _, _, _ => by omega
  | d + 1, X, A, C, Y, a, m, q, w, h, ha, hm, hq, hA, hC, hd, sA, sC, hl => by
    by_cases h1 : A.length = 1
    · obtain ⟨x, rfl⟩ := List.length_eq_one_iff.1 h1
      exact esym_first a m q w h ha (by simpa using hm) hq hC sC hl hn
    · by_cases h2 : C.length = 1
      · obtain ⟨y, rfl⟩ := List.length_eq_one_iff.1 h2
        exact esym_last a m q w h ha hm (by simpa using hq) (by omega) sA hl hn
      · exact esym_mid a m q w h ha hm hq (by omega) (by omega) hd sA sC hl hn (esym_any hn d)
namespace EyM
theorem Ph1.step {zs z z' D : List EV} {n a : Nat} (h : Ph1 zs n a z) (hz : z' = z.take a ++ D ++ z.drop (a + 20)) (hp : D.Perm (EyM.seg a 20 z)) (hs : Sx D) (hb : a + 20 ≤ n) : Ph1 zs n (a + 20) z' := by
  obtain ⟨h1, h2, h3⟩ := h.next hz hp hs
  have := h.mul
  exact ⟨h1, by omega, hb, fun k hk hm => h2 k (by omega) hm, h3 hb⟩
end EyM
/-- What a sort is at. -/
def S1 (B b g n cap : Nat) (w0 : World) (zs : List EV) (a : Nat) (W : World) : Prop := ∃ z, SR B b g n cap w0 z W ∧ Ph1 zs n a z
def S2 (B b g n cap : Nat) (w0 : World) (zs : List EV) (s a : Nat) (W : World) : Prop := ∃ z, SR B b g n cap w0 z W ∧ Ph2 zs n s a z
theorem S1.call {B b g n cap : Nat} {w0 : World} {zs : List EV} {a q : Nat} {W : World} (h : S1 B b g n cap w0 zs a W) (hx : Ix zs) (hn : n ≤ 1000000) (hq : q = min (a + 20) n) (hzn : zs.length = n) :
    Calls Try.prog 71 #[.slice (some ⟨g, 0, none⟩) n cap, .int .i64 (a : Int), .int .i64 (q : Int), oF] W (fun e w' => e = .returned (.tuple #[]) ∧ (a + 20 ≤ n → S1 B b g n cap w0 zs (a + 20) w') ∧ (n < a + 20 → S2 B b g n cap w0 zs 20 0 w')) := by
  obtain ⟨z, h1, h2⟩ := h
  have hl := h2.len
  have hle := h2.le
  rw [seg_split z a 20] at h1
  refine (eins_any a q W h1 (by rw [List.length_take]; omega) (by rw [seg_len]; omega) (by rw [h2.seg]; exact ix_seg hx a 20) hn).mono ?_
  rintro e w' ⟨rfl, D, k1, k2, k3⟩
  exact ⟨rfl, fun hb => ⟨_, k1, h2.step rfl k2 k3 hb⟩, fun hb => ⟨_, k1, h2.ph2 rfl k2 k3 hb hzn⟩⟩
theorem S2.call {B b g n cap : Nat} {w0 : World} {zs : List EV} {s a m q : Nat} {W : World} (h : S2 B b g n cap w0 zs s a W) (hx : Ix zs) (hn : n ≤ 1000000) (hm : m = a + s) (hmn : m < n) (hq : q = min (a + 2 * s) n) :
    Calls Try.prog 72 #[.slice (some ⟨g, 0, none⟩) n cap, .int .i64 (a : Int), .int .i64 (m : Int), .int .i64 (q : Int), oF] W (fun e w' => e = .returned (.tuple #[]) ∧ S2 B b g n cap w0 zs s (a + 2 * s) w') := by
  obtain ⟨z, h1, h2⟩ := h
  have hl := h2.len
  have h0 := h2.pos
  obtain ⟨s1, s2, s3, s4⟩ := h2.two hx
  have h1' := h1
  rw [seg_split z a (2 * s), s4, ← List.append_assoc] at h1'
  refine (esym_any hn _ _ _ _ _ a m q W h1' (by rw [List.length_take]; omega) (by rw [seg_len]; omega) (by rw [seg_len]; omega) (by rw [seg_len]; omega) (by rw [seg_len]; omega) (Nat.le_refl _) s1 s2 s3).mono ?_
  rintro e w' ⟨rfl, D, k1, k2, k3⟩
  exact ⟨rfl, _, k1, h2.next rfl k2 k3 (by omega)⟩
set_option maxHeartbeats 8000000 in
set_option maxRecDepth 100000 in
theorem estab_any {B b g n cap : Nat} {w0 : World} {zs : List EV} (w : World) (h : SR B b g n cap w0 zs w) (hx : Ix zs) (hn : n ≤ 1000000) :
    Calls Try.prog 53 #[.slice (some ⟨g, 0, none⟩) n cap, .int .i64 (n : Int), oF] w (fun e w' => e = .returned (.tuple #[]) ∧ ∃ ys, SR B b g n cap w0 ys w' ∧ Sx ys ∧ ys.Perm zs) := by
  have hzn := h.len
  have H0 := Lib.hid (show S1 B b g n cap w0 zs 0 w from ⟨zs, h, by have := Ph1.start zs; rwa [hzn] at this⟩)
  have HZ := Lib.hid hzn
  have HX := Lib.hid hx
  clear h hx hzn
  go_enter Try.func53, Try.ntmps53
  go_wp2
  go_loopw [7, 8] (fun u v wr => ∃ a : Nat, u = .int .i64 a ∧ v = .int .i64 ((a + 20 : Nat) : Int) ∧ a ≤ n ∧ Hid (S1 B b g n cap w0 zs a wr)) (fun u v _ => n - (intOf u).toNat)
  case atStart => exact ⟨0, rfl, by go_num, Nat.zero_le _, H0⟩
  case round =>
    obtain ⟨a, rfl, rfl, ha, HK⟩ := hrel
    obtain ⟨q, hq⟩ : ∃ x, x = a + 20 := ⟨_, rfl⟩
    rw [← hq]
    by_cases hlt : q ≤ n
    · have HC := Lib.hid (HK.out.call (q := q) HX.out hn (by omega) HZ.out)
      obtain ⟨q2, hq2⟩ : ∃ x, x = q + 20 := ⟨_, rfl⟩
      have w1 : IntKind.i64.wrap ((q : Int) + 20) = (q2 : Int) := by rw [IntWalk.i64_in _ (by omega)]; omega
      have HQ := Lib.hid (And.intro hq hq2)
      clear hq hq2
      go_wp2_with fail
      refine HC.out.mono ?_
      rintro e w' ⟨rfl, hs, -⟩
      have HS := Lib.hid (show S1 B b g n cap w0 zs q w' from by have h := HQ.out.1; rw [h]; exact hs (by omega))
      clear hs
      go_wp2
      go_roundw
      case rel => exact ⟨q, rfl, by rw [← HQ.out.2], hlt, HS⟩
      case measure => simp [intOf]; have := HQ.out; omega
    · have HC := Lib.hid (HK.out.call (q := n) HX.out hn (by omega) HZ.out)
      have HQ := Lib.hid hq
      clear hq
      go_wp2_with fail
      refine HC.out.mono ?_
      rintro e w' ⟨rfl, -, hs⟩
      have HS := Lib.hid (hs (by have := HQ.out; omega))
      clear hs
      go_wp2
      go_loopw [6] (fun u wr => ∃ s : Nat, u = .int .i64 s ∧ s ≤ 4000000 ∧ 0 < s ∧ Hid (S2 B b g n cap w0 zs s 0 wr)) (fun u _ => 8000000 - (intOf u).toNat)
      case atStart => exact ⟨20, by go_num, by omega, by omega, HS⟩
      case round =>
        obtain ⟨s, rfl, hs1, hs2, HK2⟩ := hrel
        by_cases hsn : s < n
        · obtain ⟨d, hd⟩ : ∃ x, x = 2 * s := ⟨_, rfl⟩
          have w2 : IntKind.i64.wrap (2 * (s : Int)) = (d : Int) := by rw [IntWalk.i64_in _ (by omega)]; omega
          have w3 : IntKind.i64.wrap ((s : Int) * 2) = (d : Int) := by rw [IntWalk.i64_in _ (by omega)]; omega
          have HD := Lib.hid hd
          clear hd
          go_wp2
          go_loopw [7, 8] (fun u v wr => ∃ a q : Nat, u = .int .i64 a ∧ v = .int .i64 q ∧ Hid (q = a + d) ∧ a ≤ n ∧ Hid (S2 B b g n cap w0 zs s a wr)) (fun u v _ => n - (intOf u).toNat)
          case atStart => exact ⟨0, d, by go_num, by go_num, Lib.hid (Nat.zero_add d).symm, Nat.zero_le _, HK2⟩
          case round =>
            obtain ⟨a2, q2, rfl, rfl, HQ2, ha2, HK3⟩ := hrel
            obtain ⟨m, hm⟩ : ∃ x, x = a2 + s := ⟨_, rfl⟩
            have w4 : IntKind.i64.wrap ((a2 : Int) + (s : Int)) = (m : Int) := by rw [IntWalk.i64_in _ (by omega)]; omega
            have HM := Lib.hid hm
            clear hm
            by_cases hqn : q2 ≤ n
            · have HC := Lib.hid (HK3.out.call (q := q2) HX.out hn HM.out (by have := HM.out; have := HQ2.out; have := HD.out; omega) (by have := HQ2.out; have := HD.out; omega))
              obtain ⟨q3, hq3⟩ : ∃ x, x = q2 + d := ⟨_, rfl⟩
              have w5 : IntKind.i64.wrap ((q2 : Int) + (d : Int)) = (q3 : Int) := by have := HD.out; rw [IntWalk.i64_in _ (by omega)]; omega
              have HQ3 := Lib.hid hq3
              clear hq3
              go_wp2_with fail
              refine HC.out.mono ?_
              rintro e w'' ⟨rfl, hs⟩
              have HS2 := Lib.hid (show S2 B b g n cap w0 zs s q2 w'' from by have h := HQ2.out; have h2 := HD.out; rw [h, h2]; exact hs)
              clear hs
              go_wp2
              go_roundw
              case rel => exact ⟨q2, q3, rfl, rfl, HQ3, hqn, HS2⟩
              case measure => simp [intOf]; have := HQ2.out; have := HD.out; omega
            · by_cases hmn : m < n
              · have HC := Lib.hid (HK3.out.call (q := n) HX.out hn HM.out hmn (by have := HQ2.out; have := HD.out; omega))
                go_wp2_with fail
                refine HC.out.mono ?_
                rintro e w'' ⟨rfl, hs⟩
                have HS2 := Lib.hid (show S2 B b g n cap w0 zs d 0 w'' from by
                  obtain ⟨z, z1, z2⟩ := hs
                  rw [HD.out]
                  exact ⟨z, z1, z2.end2 (by have := HQ2.out; have := HD.out; omega) HZ.out⟩)
                clear hs
                go_wp2
                go_roundw
                case rel => exact ⟨d, by go_num, by have := HD.out; omega, by have := HD.out; omega, HS2⟩
                case measure => simp [intOf]; have := HD.out; omega
              · have HS2 := Lib.hid (show S2 B b g n cap w0 zs d 0 wr from by
                  obtain ⟨z, z1, z2⟩ := HK3.out
                  rw [HD.out]
                  exact ⟨z, z1, z2.over (by have := HM.out; omega) HZ.out⟩)
                go_wp2
                go_roundw
                case rel => exact ⟨d, by go_num, by have := HD.out; omega, by have := HD.out; omega, HS2⟩
                case measure => simp [intOf]; have := HD.out; omega
        · have HE := Lib.hid (show ∃ ys, SR B b g n cap w0 ys wr ∧ Sx ys ∧ ys.Perm zs from by
            obtain ⟨z, z1, z2⟩ := HK2.out
            obtain ⟨y1, y2⟩ := z2.all (by omega) HZ.out
            exact ⟨z, z1, y1, y2⟩)
          go_wp2
          refine bodyPost_end (v := .tuple #[]) (by simp [results, Try.results53, go_sem]) rfl ?_
          exact ⟨rfl, HE.out⟩
set_option maxHeartbeats 1000000 in
set_option maxRecDepth 100000 in
theorem essort_any {B b g n cap : Nat} {zs : List EV} (w : World) (h : SR B b g n cap w zs w) (hx : Ix zs) (hn : n ≤ 1000000) :
    Calls Try.prog 40 #[.slice (some ⟨g, 0, none⟩) n cap, oF] w (fun e w' => e = .returned (.tuple #[]) ∧ ∃ ys, SR B b g n cap w ys w' ∧ Sx ys ∧ ys.Perm zs) := by
  have HC := Lib.hid (estab_any w h hx hn)
  clear h hx
  go_enter Try.func40, Try.ntmps40
  go_wp2_with fail
  refine HC.out.mono ?_
  rintro e w' ⟨rfl, hs⟩
  have HS := Lib.hid hs
  clear hs
  go_wp2
  refine bodyPost_end (v := .tuple #[]) (by simp [results, Try.results40, go_sem]) rfl ?_
  exact ⟨rfl, HS.out⟩
end Go.Proofs.Ytbffjhdocicfoaa
