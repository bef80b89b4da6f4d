/-
  LAYER 13: the walk of RunLong.
-/
import Derived.Test.YtbgjamoflbdhoaaRuT
import Derived.Deep.RegionHeld3
import Derived.Deep.DeepCutAuto
namespace Go.Proofs.Ytbgjamoflbdhoaa
open Go.RowKit
set_option linter.unusedVariables false
set_option linter.unusedSimpArgs false
open CodM (St Pg rightP)
open BfM (Wr plc)
open ScM

theorem sum80 {P : Pg} (h : rightP P = true) : ∀ k, ((P.ths.take k).map List.length).sum ≤ k * 80
  | 0 => by simp
  | k + 1 => by
    have ih := sum80 h k
    by_cases hk : k < P.ths.length
    · rw [List.take_succ_eq_append_getElem hk, List.map_append, List.sum_append]
      have := (right_ths h).2.2.2 k hk
      simp only [List.map_cons, List.map_nil, List.sum_cons, List.sum_nil]
      omega
    · rw [List.take_of_length_le (by omega)] at ih ⊢
      omega
set_option maxHeartbeats 16000000 in
set_option maxRecDepth 100000 in
theorem runlong_any {B : Nat} {v vl : Value} {P : Pg} {l : List (Int × Bool)} {wk : Bool} (w : World) (hv : PgZ B w v P) (hl : KiR B w vl l) (hBB : B ≤ w.heap.size) :
    Calls Try.prog 8 #[v, vl, .bool wk] w fun e w' => e = .returned (.bool true) ∧ Below w.heap.size w w' := by
  have HPZ := Lib.hid (fun W (hW : Below w.heap.size w W) => (show PgZ W.heap.size W v P from (hv.below (hW.mono hBB)).more (Nat.le_trans hBB hW.size)))
  have HKL := Lib.hid (fun W (hW : Below w.heap.size w W) => (show KiR W.heap.size W vl l from (hl.below (hW.mono hBB)).more (Nat.le_trans hBB hW.size)))
  obtain ⟨pi, pt, rfl, hpm, -⟩ := hv
  obtain ⟨⟨P0, d0, rfl, -⟩, ⟨P1, d1, rfl, l1, l2, l3⟩⟩ := hpm
  obtain ⟨Al, cl, rfl, q1, q2, q0, q3⟩ := hl
  unfold maxLen at l2 q2
  have HL3 := Lib.hid l3
  have HQ3 := Lib.hid q3
  have HQ0 := Lib.hid q0
  clear l3 q3 q0
  have HSM := Lib.hid (fun k => show ((P.ths.take k).map List.length).sum ≤ k * 80 ∨ ¬ rightP P = true from (by
    by_cases h : rightP P = true
    · left; exact sum80 h k
    · exact .inr h))
  obtain ⟨W2, hW2⟩ : ∃ W, W = w.alloc (.cells #[.slice P0 P.init.length d0, .slice P1 P.ths.length d1] 25) := ⟨_, rfl⟩
  obtain ⟨gp, hgp⟩ : ∃ g, g = w.heap.size := ⟨_, rfl⟩
  have HX := Lib.hid (show BoxC W2 gp 25 #[.slice P0 P.init.length d0, .slice P1 P.ths.length d1] from by rw [hW2, hgp]; exact BoxC.new w _ _)
  have HB := Lib.hid (show Below w.heap.size w W2 from by rw [hW2]; exact below_al (Below.refl _ _) _)
  go_enter Try.func8, Try.ntmps8
  go_upto_region 1 with fail
  rw [← hW2]
  (try rw [← hgp])
  clear hW2 hgp
  go_wp2_with fail
  refine (head13_any _).mono ?_
  rintro e V1 ⟨rfl, hb⟩
  have HST := Lib.hid hb
  clear hb
  replace HX := Lib.hid (HX.out.below HST.out HX.out.lt)
  replace HB := Lib.hid (chain HB.out HST.out)
  have x0 := HX.out.cell 0 _ rfl
  have x1 := HX.out.cell 1 _ rfl
  go_wp2_with fail
  refine (great13_any _ (HPZ.out _ HB.out).v (HKL.out _ HB.out) (Nat.le_refl _)).mono ?_
  rintro e V2 ⟨gb, rfl, hg, hb⟩
  replace HST := Lib.hid hb
  clear hb x0 x1
  replace HX := Lib.hid (HX.out.below HST.out HX.out.lt)
  replace HB := Lib.hid (chain HB.out HST.out)
  cases gb
  case true =>
    go_wp2
    go_ret
    exact ⟨rfl, HB.out⟩
  have HRP := Lib.hid (hg rfl).1
  have HLE := Lib.hid (hg rfl).2
  have HN5 := Lib.hid (show l.length ≤ 50000 from Nat.le_trans (hg rfl).2 (by decide))
  clear hg
  obtain ⟨-, -, r3, r4⟩ := right_ths HRP.out
  go_wp2
  go_loopw [8, 9] (fun m i wr => ∃ k : Nat, k ≤ P.ths.length ∧ i = .int .i64 k ∧ m = .int .i64 (((P.ths.take k).map List.length).sum : Nat) ∧ Below V2.heap.size V2 wr) (fun _ i _ => P.ths.length - (intOf i).toNat)
  case atStart => exact ⟨0, Nat.zero_le _, rfl, rfl, Below.refl _ _⟩
  case round =>
    obtain ⟨k, hk, rfl, rfl, hbw⟩ := hrel
    have HBW := Lib.hid hbw
    have HB3 := Lib.hid (chain HB.out hbw)
    have x1 := (HX.out.below hbw HX.out.lt).cell 1 _ rfl
    clear hbw
    by_cases hlt : k < P.ths.length
    · obtain ⟨b3, f3, rfl, hb3, hcl⟩ := HL3.out (by omega)
      obtain ⟨uu, z0, hS⟩ := (hcl k hlt).below (HB3.out.mono hBB) hb3
      obtain ⟨A5, c5, rfl, n1, n2, -⟩ := hS
      unfold maxLen at n2
      have hr4 := r4 k hlt
      have HNX := Lib.hid (show ((P.ths.take (k + 1)).map List.length).sum = ((P.ths.take k).map List.length).sum + P.ths[k].length from by rw [List.take_succ_eq_append_getElem hlt, List.map_append, List.sum_append]; simp)
      have hs80 : ((P.ths.take k).map List.length).sum ≤ k * 80 := by rcases HSM.out k with h | h; exact h; exact absurd HRP.out h
      generalize ((P.ths.take k).map List.length).sum = sm at *
      obtain ⟨jl, hjl⟩ : ∃ a, a = P.ths[k].length := ⟨_, rfl⟩
      rw [← hjl] at z0 n1 hr4 HNX
      clear hjl hcl
      go_upto_region 8 with fail
      go_wp2
      go_roundw
      case rel => exact ⟨k + 1, by omega, by go_num, by rw [HNX.out]; go_num, HBW.out⟩
      case measure => simp [intOf]; omega
    · obtain rfl : P.ths.length = k := by omega
      have hs80 : ((P.ths.take P.ths.length).map List.length).sum ≤ P.ths.length * 80 := by rcases HSM.out P.ths.length with h | h; exact h; exact absurd HRP.out h
      have HRL := Lib.hid (run_long HRP.out l wk)
      have HRM := Lib.hid (runS_many (P := P) (wk := wk) l (beg P))
      rw [List.take_length] at hs80 ⊢
      obtain ⟨sm, hsm⟩ : ∃ m, m = (P.ths.map List.length).sum := ⟨_, rfl⟩
      rw [← hsm] at HRL hs80 ⊢
      clear hsm
      have hsb : sm ≤ 240 := by omega
      have hw2 : IntKind.i64.wrap (2 * (sm : Int)) = 2 * (sm : Int) := IntWalk.i64_in _ (by omega)
      obtain ⟨my, hmy⟩ : ∃ m, m = if wk then 2 * sm else sm := ⟨_, rfl⟩
      rw [← hmy] at HRL
      have HMY := Lib.hid hmy
      clear hmy
      go_upto_if 33 with fail
      clear x1
      replace HX := Lib.hid (HX.out.below HBW.out HX.out.lt)
      replace HB := Lib.hid HB3.out
      go_cut [8] (fun m wx => m = .int .i64 (my : Int) ∧ wx = wr)
      case first =>
        have hmy := HMY.out
        cases wk
        · simp only [Bool.false_eq_true, if_false] at hmy
          subst hmy
          go_wp2_with fail
          go_meet
          exact ⟨rfl, rfl⟩
        · simp only [if_true] at hmy
          go_wp2_with fail
          go_meet
          exact ⟨by rw [hmy]; simp, rfl⟩
      case rest =>
      obtain ⟨rfl, hwx⟩ := hcut
      replace hwx := hwx.symm
      subst hwx
      have x0 := HX.out.cell 0 _ rfl
      have x1 := HX.out.cell 1 _ rfl
      go_wp2_with fail
      refine (run_any (l := l) wk _ (HPZ.out _ HB.out) (HKL.out _ HB.out) (Nat.le_refl _) HRP.out HN5.out).mono ?_
      rintro e V10 ⟨vm, vt, ps10, rfl, hos, hb⟩
      obtain ⟨⟨s10, n10, a10⟩, hr10⟩ : ∃ r, r = runS P wk (beg P) (l) := ⟨_, rfl⟩
      have HR10 := Lib.hid hr10.symm
      rw [← hr10] at hos ⊢
      clear hr10
      dsimp only at hos ⊢
      obtain ⟨A10, c10, rfl⟩ := own_slice hos.mem
      obtain ⟨B10, e10, rfl⟩ := own_slice hos.ths
      obtain ⟨m10, hm10⟩ : ∃ m, m = s10.mem.length := ⟨_, rfl⟩
      obtain ⟨k10, hk10⟩ : ∃ m, m = s10.ths.length := ⟨_, rfl⟩
      have HM10 := Lib.hid hm10
      have HK10 := Lib.hid hk10
      rw [← hm10, ← hk10] at hos ⊢
      have HO10 := Lib.hid (show OwnSt 0 V10 (.slice A10 m10 c10) (.slice B10 k10 e10) s10 ps10 from hos.base (Nat.zero_le _))
      replace HST := Lib.hid hb
      clear hos hb hm10 hk10 x0 x1
      replace HX := Lib.hid (HX.out.below HST.out HX.out.lt)
      replace HB := Lib.hid (chain HB.out HST.out)
      go_upto_region 12 with fail
      obtain ⟨Z10, hZ⟩ : ∃ W, W = V10.alloc (.cells #[.slice A10 m10 c10, .slice B10 k10 e10] 31) := ⟨_, rfl⟩
      obtain ⟨g10, hg⟩ : ∃ g, g = V10.heap.size := ⟨_, rfl⟩
      have HQ10 := Lib.hid (show BoxC Z10 g10 31 #[.slice A10 m10 c10, .slice B10 k10 e10] from by rw [hZ, hg]; exact BoxC.new V10 _ _)
      replace HST := Lib.hid (show Below V10.heap.size V10 Z10 from by rw [hZ]; exact below_al (Below.refl _ _) _)
      rw [← hZ]
      (try rw [← hg])
      clear hZ hg
      replace HX := Lib.hid (HX.out.below HST.out HX.out.lt)
      replace HO10 := Lib.hid (HO10.out.below HST.out)
      replace HB := Lib.hid (chain HB.out HST.out)
      have h1 := HRL.out
      have h2 := HRM.out.1
      have h3 := HRM.out.2
      rw [HR10.out] at h1 h2 h3
      dsimp only at h1 h2 h3
      have HA := Lib.hid h3
      have d1 : decide (0 ≤ (n10 : Int)) = true := decide_eq_true (by omega)
      have d2 : decide ((n10 : Int) ≥ 0) = true := decide_eq_true (by omega)
      have d3 : decide ((n10 : Int) ≤ (my : Int)) = true := decide_eq_true (by omega)
      have d3' : decide (n10 ≤ my) = true := decide_eq_true (by omega)
      have d4 : decide ((n10 : Int) ≤ (l.length : Int)) = true := decide_eq_true (by omega)
      have d4' : decide (n10 ≤ l.length) = true := decide_eq_true (by omega)
      have hq : ((n10 : Int) == (l.length : Int)) = a10 := by
        rw [h3]
        by_cases e : n10 = l.length
        · rw [decide_eq_true e, beq_iff_eq]; omega
        · rw [decide_eq_false e, beq_eq_false_iff_ne]; omega
      clear h1 h2 h3
      go_wp2
      go_ret
      exact ⟨rfl, HB.out⟩
end Go.Proofs.Ytbgjamoflbdhoaa
