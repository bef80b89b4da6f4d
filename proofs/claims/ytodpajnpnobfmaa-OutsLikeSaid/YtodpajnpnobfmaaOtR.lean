/-
  THE DOCUMENT'S ends: Same; and which rows are too great.
-/
import Derived.Test.YtodpajnpnobfmaaOtQ
namespace Go.Proofs.Ytodpajnpnobfmaa
open Go.RowKit
set_option linter.unusedVariables false
set_option linter.unusedSimpArgs false
open OtM

set_option maxHeartbeats 4000000 in
set_option maxRecDepth 100000 in
theorem rsame_any {B : Nat} {v u : Value} {xs ys : List OV} (w : World) (hv : OutsX B w v xs) (hu : OutsX B w u ys) (hBB : B ≤ w.heap.size) (hl : xs.length ≤ 1000000) (hl2 : ys.length ≤ 1000000) :
    Calls Try.prog 15 #[v, u] w fun e w' => e = .returned (.bool (decide (os xs = os ys))) ∧ Below w.heap.size w w' := by
  obtain ⟨⟨A, c, rfl, h1, h2, h0, h3⟩, hov⟩ := hv
  obtain ⟨⟨D, d, rfl, g1, g2, g0, g3⟩, huv⟩ := hu
  unfold maxLen at h2 g2
  have h3 := ov_at h3
  have g3 := ov_at g3
  by_cases hlen : xs.length = ys.length
  · obtain ⟨n, hn⟩ : ∃ n, n = xs.length := ⟨_, rfl⟩
    have HN := Lib.hid hn
    have HM := Lib.hid (show n = ys.length from by omega)
    rw [← hlen, ← hn]
    rw [← hn] at h1 hl
    rw [← hlen, ← hn] at g1
    clear hn hlen hl2
    have HC := Lib.hid (fun (i : Nat) (hi : i < xs.length) (hj : i < ys.length) (W : World) (hW : Below w.heap.size w W) => rsout_any W (((hov xs[i] (List.getElem_mem hi)).below (hW.mono hBB)).out) (((huv ys[i] (List.getElem_mem hj)).below (hW.mono hBB)).out) (Nat.le_trans hBB hW.size))
    have HSL := Lib.hid (fun (k : Nat) (hk : k < xs.length) => And.intro (hov xs[k] (List.getElem_mem hk)).1.sl (hov xs[k] (List.getElem_mem hk)).2.sl)
    have HSM := Lib.hid (fun (k : Nat) (hk : k < ys.length) => And.intro (huv ys[k] (List.getElem_mem hk)).1.sl (huv ys[k] (List.getElem_mem hk)).2.sl)
    clear hov huv h0 g0
    go_enter Try.func15, Try.ntmps15
    go_wp2
    go_loopw [5] (fun i wr => ∃ k : Nat, k ≤ n ∧ i = .int .i64 k ∧ Hid (os (xs.take k) = os (ys.take k)) ∧ Below w.heap.size w wr) (fun i _ => n - (intOf i).toNat)
    case atStart => exact ⟨0, Nat.zero_le _, rfl, Lib.hid rfl, Below.refl _ _⟩
    case round =>
      obtain ⟨k, hk, rfl, HF, hB⟩ := hrel
      by_cases hlt : k < n
      · have hkx : k < xs.length := by have := HN.out; omega
        have hky : k < ys.length := by have := HM.out; omega
        obtain ⟨b1, f1, rfl, hl1, hc1⟩ := h3 (by omega)
        obtain ⟨b2, f2, rfl, hm1, hc2⟩ := g3 (by omega)
        obtain ⟨p0, p1⟩ := hc1 k hkx
        obtain ⟨q0, q1⟩ := hc2 k hky
        have d1 := ((hB.mono hBB).cell (p := ⟨b1, f1 + k * 2, none⟩) hl1).trans p0
        have d2 := ((hB.mono hBB).cell (p := ⟨b1, f1 + k * 2 + 1, none⟩) hl1).trans p1
        have e1 := ((hB.mono hBB).cell (p := ⟨b2, f2 + k * 2, none⟩) hm1).trans q0
        have e2 := ((hB.mono hBB).cell (p := ⟨b2, f2 + k * 2 + 1, none⟩) hm1).trans q1
        have HC1 := HC.out k hkx hky
        have HSL1 := HSL.out k hkx
        have HSL2 := HSM.out k hky
        have HT := Lib.hid (show os (xs.take (k + 1)) = os (xs.take k) ++ [xs[k].o] from os_take hkx)
        have HU := Lib.hid (show os (ys.take (k + 1)) = os (ys.take k) ++ [ys[k].o] from os_take hky)
        have HNE := Lib.hid (fun (h : ¬ xs[k].o = ys[k].o) => show ¬ os xs = os ys from fun e => h (by
          have := congrArg (fun l => l[k]?) e
          simp only [List.getElem?_map, List.getElem?_eq_getElem hkx, List.getElem?_eq_getElem hky] at this
          exact Option.some.inj this))
        obtain ⟨x, hx⟩ : ∃ x, x = xs[k] := ⟨_, rfl⟩
        obtain ⟨y, hy⟩ : ∃ x, x = ys[k] := ⟨_, rfl⟩
        rw [← hx] at d1 d2 HC1 HSL1 HT HNE
        rw [← hy] at e1 e2 HC1 HSL2 HU HNE
        clear hx hy hc1 hc2 h3 g3 p0 p1 q0 q1 hkx hky
        obtain ⟨xm, xr, xo⟩ := x
        obtain ⟨ym, yr, yo⟩ := y
        dsimp only at d1 d2 e1 e2 HC1 HSL1 HSL2 HT HU HNE
        obtain ⟨⟨A1, n1, c1, rfl⟩, A2, n2, c2, rfl⟩ := HSL1
        obtain ⟨⟨E1, l1, k1, rfl⟩, E2, l2, k2, rfl⟩ := HSL2
        obtain ⟨bb, hbb⟩ : ∃ b, b = decide (xo = yo) := ⟨_, rfl⟩
        rw [← hbb] at HC1
        have HBD := Lib.hid hbb
        have HC2 := Lib.hid HC1
        have hS : wr.cell? ⟨b1, f1 + k * 2, none⟩ = some (.slice A1 n1 c1) ∧ wr.cell? ⟨b1, f1 + k * 2 + 1, none⟩ = some (.slice A2 n2 c2) ∧ wr.cell? ⟨b2, f2 + k * 2, none⟩ = some (.slice E1 l1 k1) ∧ wr.cell? ⟨b2, f2 + k * 2 + 1, none⟩ = some (.slice E2 l2 k2) ∧ Below w.heap.size w wr := ⟨d1, d2, e1, e2, hB⟩
        clear HC1 hbb d1 d2 e1 e2
        go_upto_region 6 with fail
        go_region_held3 (fun w' => w'.cell? ⟨b1, f1 + k * 2, none⟩ = some (.slice A1 n1 c1) ∧ w'.cell? ⟨b1, f1 + k * 2 + 1, none⟩ = some (.slice A2 n2 c2) ∧ w'.cell? ⟨b2, f2 + k * 2, none⟩ = some (.slice E1 l1 k1) ∧ w'.cell? ⟨b2, f2 + k * 2 + 1, none⟩ = some (.slice E2 l2 k2) ∧ Below w.heap.size w w') (first | (exact keepF (by assumption) (by assumption)) | (exact keepF (by assumption) (below_drewN (Below.refl _ _) 1)))
          (first | (go_at_call 24; refine (HC2.out _ (blE (by assumption))).mono ?_; rintro e w' ⟨rfl, hb2⟩))
        all_goals
          rename_i hHeld
          have HBF := Lib.hid (blE hHeld)
          clear hHeld hS hb2
          cases bb
          · have HE := Lib.hid (show decide (os xs = os ys) = false from decide_eq_false (HNE.out (of_decide_eq_false HBD.out.symm)))
            go_wp2
            go_ret
            exact ⟨by rw [HE.out]; rfl, HBF.out⟩
          · have HE := Lib.hid (show os (xs.take (k + 1)) = os (ys.take (k + 1)) from by rw [HT.out, HU.out, HF.out, show xo = yo from of_decide_eq_true HBD.out.symm])
            go_wp2
            go_roundw
            case rel => exact ⟨k + 1, by omega, by go_num, HE, HBF.out⟩
            case measure => simp [intOf]; omega
      · obtain rfl : n = k := by omega
        have HE := Lib.hid (show decide (os xs = os ys) = true from decide_eq_true (by have := HF.out; rwa [List.take_of_length_le (by have := HN.out; omega), List.take_of_length_le (by have := HM.out; omega)] at this))
        clear h3 g3 HF
        go_wp2
        go_ret
        exact ⟨by rw [HE.out]; rfl, hB⟩
  · have HE := Lib.hid (show decide (os xs = os ys) = false from decide_eq_false (fun e => hlen (by have := congrArg List.length e; simpa using this)))
    have hq : ((xs.length : Int) != (ys.length : Int)) = true := by
      rw [bne, beq_eq_false_iff_ne.2 (by omega)]; rfl
    clear h3 g3 hov huv h0 g0
    go_enter Try.func15, Try.ntmps15
    go_wp2
    go_ret
    exact ⟨by rw [HE.out]; rfl, Below.refl _ _⟩
/-- What is not too great. -/
structure Fits (xs : List OV) : Prop where
  len : xs.length ≤ 150
  each : ∀ x ∈ xs, x.o.1.length ≤ 100 ∧ x.o.2.length ≤ 100
theorem Fits.sm {xs : List OV} (h : Fits xs) : SmO xs := fun x hx => ⟨Nat.le_trans (h.each x hx).1 (by decide), Nat.le_trans (h.each x hx).2 (by decide)⟩
theorem Fits.len6 {xs : List OV} (h : Fits xs) : xs.length ≤ 1000000 := Nat.le_trans h.len (by decide)
def BigRet (xs : List OV) (w : World) (e : Ending) (w' : World) : Prop := ∃ b, e = .returned (.bool b) ∧ (b = false → Fits xs) ∧ Below w.heap.size w w'
theorem IntR.sl2 {B : Nat} {w : World} {v : Value} {l : List Int} (h : IntR B w v l) : ∃ A c, v = .slice A l.length c ∧ l.length ≤ c ∧ c ≤ 9223372036854775807 := by obtain ⟨A, c, rfl, h1, h2, _⟩ := h; exact ⟨_, _, rfl, h1, h2⟩
set_option maxHeartbeats 4000000 in
set_option maxRecDepth 100000 in
theorem big_any {B : Nat} {v : Value} {xs : List OV} (w : World) (hv : OutsX B w v xs) (hBB : B ≤ w.heap.size) :
    Calls Try.prog 10 #[v] w (BigRet xs w) := by
  obtain ⟨⟨A, c, rfl, h1, h2, h0, h3⟩, hov⟩ := hv
  unfold maxLen at h2
  have h3 := ov_at h3
  by_cases hbig : 150 < xs.length
  · have hb2 : (150 : Int) < (xs.length : Int) := by omega
    go_enter Try.func10, Try.ntmps10
    go_wp2
    go_ret
    exact ⟨true, rfl, fun h => (by cases h), Below.refl _ _⟩
  · obtain ⟨n, hn⟩ : ∃ n, n = xs.length := ⟨_, rfl⟩
    have HN := Lib.hid hn
    rw [← hn] at h1 hbig ⊢
    have hb2 : ¬ (150 : Int) < (n : Int) := by omega
    have HSL := Lib.hid (fun (k : Nat) (hk : k < xs.length) => And.intro (hov xs[k] (List.getElem_mem hk)).1.sl2 (hov xs[k] (List.getElem_mem hk)).2.sl2)
    clear hn h0 hov
    go_enter Try.func10, Try.ntmps10
    go_wp2
    go_loopw [3] (fun i wr => ∃ k : Nat, k ≤ n ∧ i = .int .i64 k ∧ Hid (∀ x ∈ xs.take k, x.o.1.length ≤ 100 ∧ x.o.2.length ≤ 100) ∧ Below w.heap.size w wr) (fun i _ => n - (intOf i).toNat)
    case atStart => exact ⟨0, Nat.zero_le _, rfl, Lib.hid (by simp), Below.refl _ _⟩
    case round =>
      obtain ⟨k, hk, rfl, HF, hB⟩ := hrel
      by_cases hlt : k < n
      · have hkx : k < xs.length := by have := HN.out; omega
        obtain ⟨b1, f1, rfl, hl1, hc1⟩ := h3 (by omega)
        obtain ⟨p0, p1⟩ := hc1 k hkx
        have d1 := ((hB.mono hBB).cell (p := ⟨b1, f1 + k * 2, none⟩) hl1).trans p0
        have d2 := ((hB.mono hBB).cell (p := ⟨b1, f1 + k * 2 + 1, none⟩) hl1).trans p1
        obtain ⟨⟨A1, c1, e1, q1, q2⟩, A2, c2, e2, q3, q4⟩ := HSL.out k hkx
        have HT := Lib.hid (fun (h : xs[k].o.1.length ≤ 100 ∧ xs[k].o.2.length ≤ 100) => show ∀ x ∈ xs.take (k + 1), x.o.1.length ≤ 100 ∧ x.o.2.length ≤ 100 from fun x hx => by
          rw [List.take_succ_eq_append_getElem hkx] at hx
          rcases List.mem_append.1 hx with hx | hx
          · exact HF.out x hx
          · rw [List.mem_singleton.1 hx]; exact h)
        rw [e1] at d1
        rw [e2] at d2
        clear e1 e2 p0 p1 hc1 h3
        generalize xs[k].o.1.length = l1 at *
        generalize xs[k].o.2.length = l2 at *
        by_cases h1l : 100 < l1
        · have hi1 : (100 : Int) < (l1 : Int) := by omega
          clear HT
          go_wp2
          go_ret
          exact ⟨true, rfl, fun h => (by cases h), hB⟩
        · have hi1 : ¬ (100 : Int) < (l1 : Int) := by omega
          by_cases h2l : 100 < l2
          · have hi2 : (100 : Int) < (l2 : Int) := by omega
            clear HT
            go_wp2
            go_ret
            exact ⟨true, rfl, fun h => (by cases h), hB⟩
          · have hi2 : ¬ (100 : Int) < (l2 : Int) := by omega
            have HE := Lib.hid (HT.out ⟨by omega, by omega⟩)
            clear HT
            go_wp2
            go_roundw
            case rel => exact ⟨k + 1, by omega, by go_num, HE, hB⟩
            case measure => simp [intOf]; omega
      · obtain rfl : n = k := by omega
        have HE := Lib.hid (show Fits xs from ⟨by have := HN.out; omega, by have := HF.out; rwa [List.take_of_length_le (by have := HN.out; omega)] at this⟩)
        clear h3 HF
        go_wp2
        go_ret
        exact ⟨false, rfl, fun _ => HE.out, hB⟩
end Go.Proofs.Ytodpajnpnobfmaa
