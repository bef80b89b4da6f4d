/-
  THE DOCUMENT'S ends: Minus, Put, Of.
-/
import Derived.Test.YtodpajnpnobfmaaOtR
namespace Go.Proofs.Ytodpajnpnobfmaa
open Go.RowKit
set_option linter.unusedVariables false
set_option linter.unusedSimpArgs false
open OtM

/-- A row of the call's own, of ends that are others'. -/
structure AcK (B base : Nat) (acc : List OV) (na : Nat) (v : Value) (w W : World) : Prop where
  len : acc.length = na
  own : W.ownsRow base 24 2 v na (acc.flatMap ovC)
  ok : ∀ z ∈ acc, OvOk B w z
  below : Below base w W
theorem AcK.grown {B base na : Nat} {acc : List OV} {v : Value} {w W W' : World} (h : AcK B base acc na v w W) (hb : Below W.heap.size W W') (hw : base ≤ W.heap.size) : AcK B base acc na v w W' :=
  { h with own := own_below h.own hb, below := h.below.trans (hb.mono hw) }
theorem AcK.put {B base na : Nat} {acc : List OV} {v v' : Value} {w W W' : World} {x : OV} (h : AcK B base acc na v w W) (hx : OvOk B w x) (ho : W'.ownsRow base 24 2 v' (na + 1) (acc.flatMap ovC ++ [x.m, x.r])) (hg : W.grownBy W' v.ownBlock) (hw : base ≤ W.heap.size) : AcK B base (acc ++ [x]) (na + 1) v' w W' where
  len := by rw [List.length_append, h.len]; rfl
  own := by rw [List.flatMap_append]; exact ho
  ok := fun z hz => by
    rcases List.mem_append.1 hz with hz | hz
    · exact h.ok z hz
    · rw [List.mem_singleton.1 hz]; exact hx
  below := below_append h.below h.own (Nat.le_refl _) hw hg
theorem AcK.nil (B : Nat) (w : World) : AcK B w.heap.size [] 0 (.slice none 0 0) w w := ⟨rfl, World.ownsRow_nil _ _ _ _, fun z hz => (by cases hz), Below.refl _ _⟩
theorem AcK.outs {B base na : Nat} {acc : List OV} {v : Value} {w W : World} (h : AcK B base acc na v w W) (hB : B ≤ base) (hw : B ≤ W.heap.size) : OutsX W.heap.size W v acc :=
  ⟨by have := h.own; rw [← h.len] at this; exact Rw.own this (Nat.le_refl _), fun z hz => ((h.ok z hz).below (h.below.mono hB)).more hw⟩
set_option maxHeartbeats 4000000 in
set_option maxRecDepth 100000 in
theorem rminus_any {B : Nat} {v u : Value} {xs bs : List OV} (w : World) (hv : OutsX B w v xs) (hu : OutsX B w u bs) (hBB : B ≤ w.heap.size) (hl : xs.length ≤ 1000000) (hlb : bs.length ≤ 1000000) :
    Calls Try.prog 23 #[v, u] w fun e w' => ∃ r na, e = .returned r ∧ AcK B w.heap.size (xs.filter (kp bs)) na r w w' := by
  have HC := Lib.hid (fun (W : World) (hW : Below w.heap.size w W) (a : Value) (o : Ot) (ha : OutR B W a o) => rhas_any W (hu.below (hW.mono hBB)) ha (Nat.le_trans hBB hW.size) hlb)
  obtain ⟨⟨A, c, rfl, h1, h2, h0, h3⟩, hov⟩ := hv
  obtain ⟨⟨D, d, rfl, -⟩, -⟩ := hu
  unfold maxLen at h2
  have h3 := ov_at h3
  obtain ⟨i0, hi0, hz0, hz1, hz2⟩ := info_parts info_out
  obtain ⟨n, hn⟩ : ∃ n, n = xs.length := ⟨_, rfl⟩
  have HN := Lib.hid hn
  rw [← hn] at h1 hl ⊢
  clear hn h0 hlb
  have HOV := Lib.hid hov
  clear hov
  go_enter Try.func23, Try.ntmps23
  go_wp2
  go_loopw [5, 6] (fun s i wr => ∃ (k na ca : Nat) (AA : Option Addr), k ≤ n ∧ na ≤ k ∧ i = .int .i64 k ∧ s = .slice AA na ca ∧ Hid (AcK B w.heap.size ((xs.take k).filter (kp bs)) na (.slice AA na ca) w wr)) (fun _ i _ => n - (intOf i).toNat)
  case atStart => exact ⟨0, 0, 0, none, Nat.zero_le _, Nat.le_refl _, rfl, rfl, Lib.hid (AcK.nil B w)⟩
  case round =>
    obtain ⟨k, na, ca, AA, hk, hna, rfl, rfl, HK⟩ := hrel
    by_cases hlt : k < n
    · have hkx : k < xs.length := by have := HN.out; omega
      obtain ⟨b1, f1, rfl, hl1, hc1⟩ := h3 (by omega)
      obtain ⟨p0, p1⟩ := hc1 k hkx
      have HD1 := Lib.hid (fun (W : World) (hW : Below w.heap.size w W) => ((hW.mono hBB).cell (p := ⟨b1, f1 + k * 2, none⟩) hl1).trans p0)
      have HD2 := Lib.hid (fun (W : World) (hW : Below w.heap.size w W) => ((hW.mono hBB).cell (p := ⟨b1, f1 + k * 2 + 1, none⟩) hl1).trans p1)
      have HOK := HOV.out xs[k] (List.getElem_mem hkx)
      have HFS := filt_snoc (bs := bs) hkx
      have hkp : kp bs xs[k] = !decide (xs[k].o ∈ os bs) := by unfold kp; exact decide_not
      obtain ⟨x, hx⟩ : ∃ x, x = xs[k] := ⟨_, rfl⟩
      rw [← hx] at HD1 HD2 HOK HFS hkp
      clear hx hc1 h3 p0 p1 hkx
      obtain ⟨xm, xr, xo⟩ := x
      dsimp only at HD1 HD2 hkp
      obtain ⟨A1, n1, c1, rfl⟩ := HOK.1.sl
      obtain ⟨A2, n2, c2, rfl⟩ := HOK.2.sl
      have HOK1 := Lib.hid HOK
      have HC1 := Lib.hid (HC.out _ HK.out.below _ _ (HOK.below (HK.out.below.mono hBB)).out)
      dsimp only at HC1
      obtain ⟨bb, hbb⟩ : ∃ b, b = decide (xo ∈ os bs) := ⟨_, rfl⟩
      rw [← hbb] at HC1 hkp
      rw [hkp] at HFS
      have HFS2 := Lib.hid HFS
      have d1 := HD1.out _ HK.out.below
      have d2 := HD2.out _ HK.out.below
      clear HOK HFS hbb hkp
      go_wp2_with fail
      refine HC1.out.mono ?_
      rintro e W6 ⟨rfl, hb6⟩
      have HK6 := Lib.hid (HK.out.grown hb6 HK.out.below.size)
      clear hb6 d1 d2
      have d1 := HD1.out _ HK6.out.below
      have d2 := HD2.out _ HK6.out.below
      cases bb
      · obtain ⟨acc, hacc⟩ : ∃ a, a = (xs.take k).filter (kp bs) := ⟨_, rfl⟩
        rw [← hacc] at HK6
        have HAC := Lib.hid (show (xs.take (k + 1)).filter (kp bs) = acc ++ [⟨.slice A1 n1 c1, .slice A2 n2 c2, xo⟩] from by rw [hacc]; simpa using HFS2.out)
        clear hacc HFS2 HK
        obtain ⟨W7, hW7⟩ : ∃ W, W = W6.alloc (.cells #[.slice A1 n1 c1, .slice A2 n2 c2] 24) := ⟨_, rfl⟩
        obtain ⟨gc, hgc⟩ : ∃ x, x = W6.heap.size := ⟨_, rfl⟩
        have HL7 := Lib.hid (show Below W6.heap.size W6 W7 from by rw [hW7]; exact below_al (Below.refl _ _) _)
        have hx7 := box2 (w := W6) (.slice A1 n1 c1) (.slice A2 n2 c2) 24
        rw [← hW7, ← hgc] at hx7
        have HAD := Lib.hid (show ∀ j u, [(.slice A1 n1 c1 : Value), .slice A2 n2 c2][j]? = some u → W7.cell? ((⟨gc, 0, none⟩ : Addr).add j) = some u from fun j u hu => by
          match j, hu with
          | 0, hu => injection hu with hu; rw [← hu]; exact hx7.1
          | 1, hu => injection hu with hu; rw [← hu]; exact hx7.2)
        have HK7 := Lib.hid (HK6.out.grown HL7.out HK6.out.below.size)
        clear hx7
        go_upto_region 4 with (first | (at_builtin; (try rw [← hW7]); (try rw [← hgc]); refine wpList_append_own _ rfl _ _ 25 rfl w.heap.size 24 i0 (.agg #[.slice none 0 0, .slice none 0 0]) 2 48 Try.underlying25 hi0 hz0 hz1 hz2 rfl (by decide) _ na (acc.flatMap ovC) rfl HK7.out.own ⟨gc, 0, none⟩ 1 1 [.slice A1 n1 c1, .slice A2 n2 c2] rfl rfl HAD.out (by intro u hu; simp at hu; rcases hu with rfl | rfl <;> rfl) (by unfold maxLen; omega) (by omega) HK7.out.below.size ?_; intro v8 w8 hown8 hg8 _; obtain ⟨A8, c8, rfl⟩ := own_slice hown8))
        have HK8 := Lib.hid (HK7.out.put (x := ⟨.slice A1 n1 c1, .slice A2 n2 c2, xo⟩) HOK1.out hown8 hg8 HK7.out.below.size)
        clear hown8 hg8 HAD hW7 hgc
        rw [← HAC.out] at HK8
        clear d1 d2
        go_wp2
        go_roundw
        case rel => exact ⟨k + 1, na + 1, c8, A8, by omega, by omega, by go_num, rfl, HK8⟩
        case measure => simp [intOf]; omega
      · have HAC := Lib.hid (show (xs.take (k + 1)).filter (kp bs) = (xs.take k).filter (kp bs) from by simpa using HFS2.out)
        rw [← HAC.out] at HK6
        clear d1 d2 HFS2 HAC
        go_wp2
        go_roundw
        case rel => exact ⟨k + 1, na, ca, AA, by omega, by omega, by go_num, rfl, HK6⟩
        case measure => simp [intOf]; omega
    · obtain rfl : n = k := by omega
      have HE := Lib.hid (show xs.take n = xs from List.take_of_length_le (by have := HN.out; omega))
      rw [HE.out] at HK
      clear h3 HE
      go_wp2
      go_ret
      exact ⟨_, na, rfl, HK.out⟩
end Go.Proofs.Ytodpajnpnobfmaa
