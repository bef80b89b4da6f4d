/-
  ENDS: copies of rows of ends.
-/
import Derived.Test.YtodpajnpnobfmaaOtC
import Derived.OwnWalk
namespace Go.Proofs.Ytodpajnpnobfmaa
open Go.RowKit
set_option linter.unusedVariables false
set_option linter.unusedSimpArgs false
open OtM

/-- Rows of the call's own, of ends whose rows are the call's own. -/
def EaO (b : Nat) (w : World) (ys : List OV) : Prop := ∀ y ∈ ys, OwnI b w y.m y.o.1 ∧ OwnI b w y.r y.o.2
def OwnOs (b : Nat) (w : World) (v : Value) (ys : List OV) : Prop := OwnO b w v ys ∧ EaO b w ys
theorem EaO.below {b : Nat} {w w' : World} {ys : List OV} (h : EaO b w ys) (hb : Below w.heap.size w w') : EaO b w' ys := fun y hy => ⟨own_below (h y hy).1 hb, own_below (h y hy).2 hb⟩
theorem EaO.ok {b : Nat} {w : World} {ys : List OV} (h : EaO b w ys) : ∀ y ∈ ys, OvOk w.heap.size w y := fun y hy => ⟨Rw.own (h y hy).1 (Nat.le_refl _), Rw.own (h y hy).2 (Nat.le_refl _)⟩
theorem OwnOs.below {b : Nat} {w w' : World} {v : Value} {ys : List OV} (h : OwnOs b w v ys) (hb : Below w.heap.size w w') : OwnOs b w' v ys := ⟨own_below h.1 hb, h.2.below hb⟩
theorem OwnOs.outs {b : Nat} {w : World} {v : Value} {ys : List OV} (h : OwnOs b w v ys) : OutsX w.heap.size w v ys := ⟨Rw.own h.1 (Nat.le_refl _), h.2.ok⟩
theorem EaO.base {b b' : Nat} {w : World} {ys : List OV} (h : EaO b w ys) (hb : b' ≤ b) : EaO b' w ys := fun y hy => ⟨own_base (h y hy).1 hb, own_base (h y hy).2 hb⟩
theorem ea_one {b : Nat} {w : World} {ys : List OV} (h : EaO b w ys) : ∀ u ∈ ys.flatMap ovC, u.oneCell' = true := ov_one h.ok
/-- Rows of numbers stay where a row of ends grows. -/
theorem EaO.grown {b b2 n : Nat} {w w' : World} {ys : List OV} {v : Value} {xs : List Value} (h : EaO b w ys) (ho : w.ownsRow b2 24 2 v n xs) (hg : w.grownBy w' v.ownBlock) : EaO b w' ys := fun y hy =>
  ⟨own_grown (by decide) (h y hy).1 ho hg, own_grown (by decide) (h y hy).2 ho hg⟩
theorem os_take {xs : List OV} {k : Nat} (h : k < xs.length) : os (xs.take (k + 1)) = os (xs.take k) ++ [xs[k].o] := by
  rw [List.take_succ_eq_append_getElem h]; show List.map _ _ = _; rw [List.map_append]; rfl
structure CpK (xs : List OV) (n g : Nat) (w : World) (k : Nat) (ys : List OV) (wr : World) : Prop where
  len : ys.length = k
  eq : os ys = os (xs.take k)
  own : wr.ownsRow w.heap.size 24 2 (.slice (some ⟨g, 0, none⟩) k n) k (ys.flatMap ovC)
  each : EaO w.heap.size wr ys
  below : Below w.heap.size w wr
def SmO (xs : List OV) : Prop := ∀ x ∈ xs, x.o.1.length ≤ 1000000 ∧ x.o.2.length ≤ 1000000
def CpsRet (w : World) (xs : List OV) (e : Ending) (w' : World) : Prop := ∃ g ys, e = .returned (.slice (some ⟨g, 0, none⟩) xs.length xs.length) ∧ os ys = os xs ∧ OwnOs w.heap.size w' (.slice (some ⟨g, 0, none⟩) xs.length xs.length) ys ∧ Below w.heap.size w w'
set_option maxHeartbeats 8000000 in
set_option maxRecDepth 100000 in
theorem copies_any {B : Nat} {v : Value} {xs : List OV} (w : World) (hv : OutsX B w v xs) (hBB : B ≤ w.heap.size) (hl : xs.length ≤ 1000000) (hs : SmO xs) :
    Calls Try.prog 30 #[v] w (CpsRet w xs) := by
  obtain ⟨⟨A, c, rfl, h1, h2, h0, h3⟩, hov⟩ := hv
  unfold maxLen at h2
  have h3 := ov_at h3
  obtain ⟨i0, hi0, hz0, hz1, hz2⟩ := info_parts info_out
  obtain ⟨n, hn⟩ : ∃ n, n = xs.length := ⟨_, rfl⟩
  have HN := Lib.hid hn
  unfold CpsRet
  rw [← hn] at h1 hl ⊢
  clear hn
  obtain ⟨W0, hmk, hown0, hg0⟩ := run_make_own (P := Try.prog) w w.heap.size 25 24 i0 (.agg #[.slice none 0 0, .slice none 0 0]) 2 Try.underlying25 hi0 hz0 hz1 .i64 .i64 n (by rw [hz2]; omega) (by unfold maxLen; omega) (Nat.le_refl _)
  have HB0 := Lib.hid (show Below w.heap.size w W0 from ⟨hg0.os, hg0.tape, hg0.output, hg0.size, fun k hk => hg0.block k hk (by simp)⟩)
  obtain ⟨g, hg⟩ : ∃ g, g = w.heap.size := ⟨_, rfl⟩
  have HOWN0 := Lib.hid (show CpK xs n g w 0 [] W0 from ⟨rfl, by simp, by rw [hg]; exact hown0, fun y hy => (by cases hy), HB0.out⟩)
  rw [← hg] at hmk
  clear hown0 hg0 hg
  have HC := Lib.hid (fun (k : Nat) (hk : k < xs.length) (W : World) (hW : Below w.heap.size w W) => copied_any W ((((hov xs[k] (List.getElem_mem hk)).below (hW.mono hBB)).more (Nat.le_trans hBB hW.size)).out) (Nat.le_refl _) (hs _ (List.getElem_mem hk)).1 (hs _ (List.getElem_mem hk)).2)
  have HSL := Lib.hid (fun (k : Nat) (hk : k < xs.length) => And.intro (hov xs[k] (List.getElem_mem hk)).1.sl (hov xs[k] (List.getElem_mem hk)).2.sl)
  clear hov hs
  go_enter Try.func30, Try.ntmps30
  go_wp2
  go_loopw [3, 11] (fun s i wr => ∃ (k : Nat) (ys : List OV), k ≤ n ∧ i = .int .i64 k ∧ s = .slice (some ⟨g, 0, none⟩) k n ∧ Hid (CpK xs n g w k ys wr)) (fun _ i _ => n - (intOf i).toNat)
  case atStart => exact ⟨0, [], Nat.zero_le _, rfl, rfl, HOWN0⟩
  case round =>
    obtain ⟨k, ys, hk, rfl, rfl, HK⟩ := hrel
    by_cases hlt : k < n
    · have hkx : k < xs.length := by have := HN.out; omega
      obtain ⟨b1, f1, rfl, hl1, hc1⟩ := h3 (by omega)
      obtain ⟨p0, p1⟩ := hc1 k hkx
      have d1 := ((HK.out.below.mono hBB).cell (p := ⟨b1, f1 + k * 2, none⟩) hl1).trans p0
      have d2 := ((HK.out.below.mono hBB).cell (p := ⟨b1, f1 + k * 2 + 1, none⟩) hl1).trans p1
      have HC1 := HC.out k hkx
      have HSL1 := HSL.out k hkx
      have HT := Lib.hid (show os (xs.take (k + 1)) = os (xs.take k) ++ [xs[k].o] from os_take hkx)
      obtain ⟨x, hx⟩ : ∃ x, x = xs[k] := ⟨_, rfl⟩
      rw [← hx] at d1 d2 HC1 HSL1 HT
      clear hx hc1 h3 p0 p1 hmk
      obtain ⟨xm, xr, xo⟩ := x
      dsimp only at d1 d2 HC1 HSL1 HT
      obtain ⟨⟨A1, n1, c1, rfl⟩, A2, n2, c2, rfl⟩ := HSL1
      have HC2 := Lib.hid HC1
      clear HC1 hkx
      go_upto_region 5 with fail
      obtain ⟨gb, hgb⟩ : ∃ x, x = wr.heap.size := ⟨_, rfl⟩
      obtain ⟨W5, hW5⟩ : ∃ W, W = wr.alloc (.cells #[.slice A1 n1 c1, .slice A2 n2 c2] 24) := ⟨_, rfl⟩
      have HL5 := Lib.hid (show Below wr.heap.size wr W5 from by rw [hW5]; exact below_al (Below.refl _ _) _)
      have hx5 := box2 (w := wr) (.slice A1 n1 c1) (.slice A2 n2 c2) 24
      rw [← hW5, ← hgb] at hx5
      rw [← hW5]
      (try rw [← hgb])
      obtain ⟨x0, x1⟩ := hx5
      clear hW5 hgb d1 d2
      go_wp2_with fail
      refine (HC2.out _ (chain HK.out.below HL5.out)).mono ?_
      rintro e W6 ⟨u1, u2, rfl, ho1, ho2, hb6⟩
      obtain ⟨X1, k1, rfl⟩ := own_slice ho1
      obtain ⟨X2, k2, rfl⟩ := own_slice ho2
      have HL6 := Lib.hid (HL5.out.trans (hb6.mono HL5.out.size))
      have HB6 := Lib.hid (chain HK.out.below HL6.out)
      have HO1 := Lib.hid (own_base ho1 (Nat.le_trans HK.out.below.size HL5.out.size))
      have HO2 := Lib.hid (own_base ho2 (Nat.le_trans HK.out.below.size HL5.out.size))
      clear ho1 ho2 hb6 x0 x1
      obtain ⟨W7, hW7⟩ : ∃ W, W = W6.alloc (.cells #[.slice X1 xo.1.length k1, .slice X2 xo.2.length k2] 24) := ⟨_, rfl⟩
      obtain ⟨gc, hgc⟩ : ∃ x, x = W6.heap.size := ⟨_, rfl⟩
      have HL7 := Lib.hid (show Below W6.heap.size W6 W7 from by rw [hW7]; exact below_al (Below.refl _ _) _)
      have hx7 := box2 (w := W6) (.slice X1 xo.1.length k1) (.slice X2 xo.2.length k2) 24
      rw [← hW7, ← hgc] at hx7
      have HAD := Lib.hid (show ∀ j u, [(.slice X1 xo.1.length k1 : Value), .slice X2 xo.2.length k2][j]? = some u → W7.cell? ((⟨gc, 0, none⟩ : Addr).add j) = some u from fun j u hu => by
        match j, hu with
        | 0, hu => injection hu with hu; rw [← hu]; exact hx7.1
        | 1, hu => injection hu with hu; rw [← hu]; exact hx7.2)
      have HB7 := Lib.hid (chain HB6.out HL7.out)
      have HOW := Lib.hid (own_below (own_below HK.out.own HL6.out) HL7.out)
      have HEA := Lib.hid ((HK.out.each.below HL6.out).below HL7.out)
      replace HO1 := Lib.hid (own_below HO1.out HL7.out)
      replace HO2 := Lib.hid (own_below HO2.out HL7.out)
      clear hx7
      go_upto_region 6 with (first | (at_builtin; (try rw [← hW7]); (try rw [← hgc]); refine wpList_append_fits _ rfl _ _ 25 rfl w.heap.size 24 i0 2 Try.underlying25 hi0 hz1 g k n (ys.flatMap ovC) rfl HOW.out ⟨gc, 0, none⟩ 1 1 [.slice X1 xo.1.length k1, .slice X2 xo.2.length k2] rfl rfl HAD.out (by intro u hu; simp at hu; rcases hu with rfl | rfl <;> rfl) (by omega) ?_; intro w8 hown8 hg8))
      have HK8 := Lib.hid (show CpK xs n g w (k + 1) (ys ++ [⟨.slice X1 xo.1.length k1, .slice X2 xo.2.length k2, xo⟩]) w8 from {
        len := by rw [List.length_append, HK.out.len]; rfl
        eq := by rw [HT.out, ← HK.out.eq]; simp
        own := by rw [List.flatMap_append]; exact hown8
        each := fun y hy => by
          rcases List.mem_append.1 hy with hy | hy
          · exact HEA.out.grown HOW.out hg8 y hy
          · rw [List.mem_singleton.1 hy]
            exact ⟨own_grown (by decide) HO1.out HOW.out hg8, own_grown (by decide) HO2.out HOW.out hg8⟩
        below := below_append HB7.out HOW.out (Nat.le_refl _) HB7.out.size hg8 })
      clear hown8 hg8 HO1 HO2 HEA HOW HAD HT hW7 hgc
      go_wp2
      go_roundw
      case rel => exact ⟨k + 1, _, by omega, by go_num, rfl, HK8⟩
      case measure => simp [intOf]; omega
    · obtain rfl : n = k := by omega
      clear h3 hmk
      go_wp2
      go_ret
      refine ⟨g, ys, rfl, ?_, ⟨?_, HK.out.each⟩, HK.out.below⟩
      · rw [HK.out.eq, List.take_of_length_le (by have := HN.out; omega)]
      · show World.ownsRow _ _ _ _ _ _ _
        rw [HK.out.len]; exact HK.out.own
end Go.Proofs.Ytodpajnpnobfmaa
