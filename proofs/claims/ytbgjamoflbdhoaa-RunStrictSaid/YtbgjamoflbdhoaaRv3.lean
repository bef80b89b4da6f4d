/-
  LAYER 13: the walk of RunStrict.
-/
import Derived.Test.YtbgjamoflbdhoaaRuT
import Derived.Test.YtbgjamoflbdhoaaScX
import Derived.Deep.RegionHeld3
import Derived.Deep.DeepCutAuto
namespace Go.Proofs.Ytbgjamoflbdhoaa
open Go.RowKit
set_option linter.unusedVariables false
set_option linter.unusedSimpArgs false
open CodM (St Pg rightP)
open BfM (Wr plc)
open ScM

set_option maxHeartbeats 16000000 in
set_option maxRecDepth 100000 in
theorem runstrict_any {B : Nat} {v vl : Value} {P : Pg} {l : List (Int × Bool)}  (w : World) (hv : PgZ B w v P) (hl : KiR B w vl l) (hBB : B ≤ w.heap.size) :
    Calls Try.prog 5 #[v, vl] w fun e w' => e = .returned (.bool true) ∧ Below w.heap.size w w' := by
  have HPZ := Lib.hid (fun W (hW : Below w.heap.size w W) => (show PgZ W.heap.size W v P from (hv.below (hW.mono hBB)).more (Nat.le_trans hBB hW.size)))
  have HKL := Lib.hid (fun W (hW : Below w.heap.size w W) => (show KiR W.heap.size W vl l from (hl.below (hW.mono hBB)).more (Nat.le_trans hBB hW.size)))
  obtain ⟨pi, pt, rfl, hpm, -⟩ := hv
  obtain ⟨⟨P0, d0, rfl, -⟩, ⟨P1, d1, rfl, l1, l2, l3⟩⟩ := hpm
  obtain ⟨Al, cl, rfl, q1, q2, q0, q3⟩ := hl
  unfold maxLen at l2 q2
  have HL3 := Lib.hid l3
  have HQ3 := Lib.hid q3
  have HQ0 := Lib.hid q0
  clear l3 q3 q0
  obtain ⟨W2, hW2⟩ : ∃ W, W = w.alloc (.cells #[.slice P0 P.init.length d0, .slice P1 P.ths.length d1] 25) := ⟨_, rfl⟩
  obtain ⟨gp, hgp⟩ : ∃ g, g = w.heap.size := ⟨_, rfl⟩
  have HX := Lib.hid (show BoxC W2 gp 25 #[.slice P0 P.init.length d0, .slice P1 P.ths.length d1] from by rw [hW2, hgp]; exact BoxC.new w _ _)
  have HB := Lib.hid (show Below w.heap.size w W2 from by rw [hW2]; exact below_al (Below.refl _ _) _)
  go_enter Try.func5, Try.ntmps5
  go_upto_region 1 with fail
  rw [← hW2]
  (try rw [← hgp])
  clear hW2 hgp
  go_wp2_with fail
  refine (head13_any _).mono ?_
  rintro e V1 ⟨rfl, hb⟩
  have HST := Lib.hid hb
  clear hb
  replace HX := Lib.hid (HX.out.below HST.out HX.out.lt)
  replace HB := Lib.hid (chain HB.out HST.out)
  have x0 := HX.out.cell 0 _ rfl
  have x1 := HX.out.cell 1 _ rfl
  go_wp2_with fail
  refine (great13_any _ (HPZ.out _ HB.out).v (HKL.out _ HB.out) (Nat.le_refl _)).mono ?_
  rintro e V2 ⟨gb, rfl, hg, hb⟩
  replace HST := Lib.hid hb
  clear hb x0 x1
  replace HX := Lib.hid (HX.out.below HST.out HX.out.lt)
  replace HB := Lib.hid (chain HB.out HST.out)
  cases gb
  case true =>
    go_wp2
    go_ret
    exact ⟨rfl, HB.out⟩
  have HRP := Lib.hid (hg rfl).1
  have HLE := Lib.hid (hg rfl).2
  have HN5 := Lib.hid (show l.length ≤ 50000 from Nat.le_trans (hg rfl).2 (by decide))
  clear hg
  have x0 := HX.out.cell 0 _ rfl
  have x1 := HX.out.cell 1 _ rfl
  go_wp2_with fail
  refine (run_any (l := l) false _ (HPZ.out _ HB.out) (HKL.out _ HB.out) (Nat.le_refl _) HRP.out HN5.out).mono ?_
  rintro e V6 ⟨vm, vt, ps6, rfl, hos, hb⟩
  obtain ⟨⟨s6, n6, a6⟩, hr6⟩ : ∃ r, r = runS P false (beg P) (l) := ⟨_, rfl⟩
  have HR6 := Lib.hid hr6.symm
  rw [← hr6] at hos ⊢
  clear hr6
  dsimp only at hos ⊢
  obtain ⟨A6, c6, rfl⟩ := own_slice hos.mem
  obtain ⟨B6, e6, rfl⟩ := own_slice hos.ths
  obtain ⟨m6, hm6⟩ : ∃ m, m = s6.mem.length := ⟨_, rfl⟩
  obtain ⟨k6, hk6⟩ : ∃ m, m = s6.ths.length := ⟨_, rfl⟩
  have HM6 := Lib.hid hm6
  have HK6 := Lib.hid hk6
  rw [← hm6, ← hk6] at hos ⊢
  have HO6 := Lib.hid (show OwnSt 0 V6 (.slice A6 m6 c6) (.slice B6 k6 e6) s6 ps6 from hos.base (Nat.zero_le _))
  replace HST := Lib.hid hb
  clear hos hb hm6 hk6 x0 x1
  replace HX := Lib.hid (HX.out.below HST.out HX.out.lt)
  replace HB := Lib.hid (chain HB.out HST.out)
  go_upto_region 5 with fail
  obtain ⟨Z6, hZ⟩ : ∃ W, W = V6.alloc (.cells #[.slice A6 m6 c6, .slice B6 k6 e6] 31) := ⟨_, rfl⟩
  obtain ⟨g6, hg⟩ : ∃ g, g = V6.heap.size := ⟨_, rfl⟩
  have HQ6 := Lib.hid (show BoxC Z6 g6 31 #[.slice A6 m6 c6, .slice B6 k6 e6] from by rw [hZ, hg]; exact BoxC.new V6 _ _)
  replace HST := Lib.hid (show Below V6.heap.size V6 Z6 from by rw [hZ]; exact below_al (Below.refl _ _) _)
  rw [← hZ]
  (try rw [← hg])
  clear hZ hg
  replace HX := Lib.hid (HX.out.below HST.out HX.out.lt)
  replace HO6 := Lib.hid (HO6.out.below HST.out)
  replace HB := Lib.hid (chain HB.out HST.out)
  have HP6 := Lib.hid (show OkSt P s6 ∧ WideS s6 from by
    have h1 := runS_ok HRP.out (wk := false) (l) (beg_ok P)
    have h2 := wide_run HRP.out false (l) (n := 50000) HN5.out (by decide)
    rw [HR6.out] at h1 h2
    exact ⟨h1, h2⟩)
  have x0 := HX.out.cell 0 _ rfl
  have x1 := HX.out.cell 1 _ rfl
  go_wp2_with fail
  refine (strict_run_any (l := l) _ (HPZ.out _ HB.out) (HKL.out _ HB.out) (Nat.le_refl _) HRP.out HN5.out).mono ?_
  rintro e V9 ⟨A9, n9, c9, rfl, hn, hrow, hb⟩
  have HN9 := Lib.hid hn
  have HW9 := Lib.hid (own_base hrow (Nat.zero_le _))
  have HEQ := Lib.hid (show (runS P false (beg P) l).2.2 = a6 from by rw [HR6.out])
  rw [HEQ.out]
  replace HST := Lib.hid hb
  clear hn hrow hb x0 x1
  replace HX := Lib.hid (HX.out.below HST.out HX.out.lt)
  replace HQ6 := Lib.hid (HQ6.out.below HST.out HQ6.out.lt)
  replace HO6 := Lib.hid (HO6.out.below HST.out)
  replace HB := Lib.hid (chain HB.out HST.out)
  have HSR := Lib.hid (strict_run HRP.out l (beg_ok P) (nbuf_beg P))
  rw [HR6.out] at HSR
  go_upto_region 6 with fail
  cases a6
  · have HSL := Lib.hid (show strL P l = [] from by
      rcases HSR.out with ⟨_, h⟩ | ⟨h, _⟩
      · unfold strL; rw [h]; rfl
      · exact absurd h (by simp))
    have hn9 : n9 = 0 := by have := HN9.out; rw [HSL.out] at this; exact this
    subst hn9
    go_wp2
    go_ret
    exact ⟨rfl, HB.out⟩
  · have HSW := Lib.hid (show runS P true (beg P) (strL P l) = (s6, (strL P l).length, true) ∧ l.length ≤ (strL P l).length ∧ (strL P l).length ≤ 2 * l.length from by
      rcases HSR.out with ⟨h, _⟩ | ⟨_, w', h1, h2, h3, h4⟩
      · exact absurd h (by simp)
      · have : strL P l = w' := by unfold strL; rw [h1]; rfl
        rw [this]
        exact ⟨h2, h3, h4⟩)
    have HN6 := Lib.hid (show (strL P l).length ≤ 50000 from by have h1 := HSW.out.2.2; have h2 := HLE.out; omega)
    have HEB := Lib.hid (show endB P true (strL P l) = endB P false l from by unfold endB; rw [HSW.out.1, HR6.out])
    have HEO := Lib.hid (show endO P true (strL P l) = endO P false l from by unfold endO; rw [HEB.out, HSW.out.1, HR6.out])
    have HKW := Lib.hid (fun W (h : W.ownsRow 0 47 2 (.slice A9 n9 c9) n9 ((strL P l).flatMap kiC)) => show KiR W.heap.size W (.slice A9 n9 c9) (strL P l) from Rw.own (by rw [← HN9.out]; exact h) (Nat.le_refl _))
    have x0 := HX.out.cell 0 _ rfl
    have x1 := HX.out.cell 1 _ rfl
    go_wp2_with fail
    refine (run_any (l := strL P l) true _ (HPZ.out _ HB.out) (HKW.out _ HW9.out) (Nat.le_refl _) HRP.out HN6.out).mono ?_
    rintro e V11 ⟨vm, vt, ps11, rfl, hos, hb⟩
    obtain ⟨⟨s11, n11, a11⟩, hr11⟩ : ∃ r, r = runS P true (beg P) (strL P l) := ⟨_, rfl⟩
    have HR11 := Lib.hid hr11.symm
    rw [← hr11] at hos ⊢
    clear hr11
    dsimp only at hos ⊢
    obtain ⟨A11, c11, rfl⟩ := own_slice hos.mem
    obtain ⟨B11, e11, rfl⟩ := own_slice hos.ths
    obtain ⟨m11, hm11⟩ : ∃ m, m = s11.mem.length := ⟨_, rfl⟩
    obtain ⟨k11, hk11⟩ : ∃ m, m = s11.ths.length := ⟨_, rfl⟩
    have HM11 := Lib.hid hm11
    have HK11 := Lib.hid hk11
    rw [← hm11, ← hk11] at hos ⊢
    have HO11 := Lib.hid (show OwnSt 0 V11 (.slice A11 m11 c11) (.slice B11 k11 e11) s11 ps11 from hos.base (Nat.zero_le _))
    replace HST := Lib.hid hb
    clear hos hb hm11 hk11 x0 x1
    replace HX := Lib.hid (HX.out.below HST.out HX.out.lt)
    replace HQ6 := Lib.hid (HQ6.out.below HST.out HQ6.out.lt)
    replace HW9 := Lib.hid (own_below HW9.out HST.out)
    replace HO6 := Lib.hid (HO6.out.below HST.out)
    replace HB := Lib.hid (chain HB.out HST.out)
    go_upto_region 11 with fail
    obtain ⟨Z11, hZ⟩ : ∃ W, W = V11.alloc (.cells #[.slice A11 m11 c11, .slice B11 k11 e11] 31) := ⟨_, rfl⟩
    obtain ⟨g11, hg⟩ : ∃ g, g = V11.heap.size := ⟨_, rfl⟩
    have HQ11 := Lib.hid (show BoxC Z11 g11 31 #[.slice A11 m11 c11, .slice B11 k11 e11] from by rw [hZ, hg]; exact BoxC.new V11 _ _)
    replace HST := Lib.hid (show Below V11.heap.size V11 Z11 from by rw [hZ]; exact below_al (Below.refl _ _) _)
    rw [← hZ]
    (try rw [← hg])
    clear hZ hg
    replace HX := Lib.hid (HX.out.below HST.out HX.out.lt)
    replace HQ6 := Lib.hid (HQ6.out.below HST.out HQ6.out.lt)
    replace HW9 := Lib.hid (own_below HW9.out HST.out)
    replace HO6 := Lib.hid (HO6.out.below HST.out)
    replace HO11 := Lib.hid (HO11.out.below HST.out)
    replace HB := Lib.hid (chain HB.out HST.out)
    have HZ := Lib.hid (HR11.out.symm.trans HSW.out.1)
    obtain ⟨rfl, rfl, rfl⟩ : s11 = s6 ∧ n11 = (strL P l).length ∧ a11 = true := by
      have := HZ.out
      injection this with h1 h2
      injection h2 with h2 h3
      exact ⟨h1, h2, h3⟩
    clear HZ HR11
    have x0 := HX.out.cell 0 _ rfl
    have x1 := HX.out.cell 1 _ rfl
    go_wp2_with fail
    refine (ends_any (l := l) false _ (HPZ.out _ HB.out) (HKL.out _ HB.out) (Nat.le_refl _) HRP.out HN5.out).mono ?_
    rintro e V14 ⟨A14, m14, c14, B14, k14, e14, rfl, hm, hn, ho1, ho2, hb⟩
    have HM14 := Lib.hid hm
    have HN14 := Lib.hid hn
    have HE141 := Lib.hid (show V14.ownsRow 0 3 1 (.slice A14 m14 c14) m14 _ from by have := own_base ho1 (Nat.zero_le _); unfold OwnI at this; rwa [← hm] at this)
    have HE142 := Lib.hid (show V14.ownsRow 0 3 1 (.slice B14 k14 e14) k14 _ from by have := own_base ho2 (Nat.zero_le _); unfold OwnI at this; rwa [← hn] at this)
    replace HST := Lib.hid hb
    clear hm hn ho1 ho2 hb x0 x1
    replace HX := Lib.hid (HX.out.below HST.out HX.out.lt)
    replace HQ6 := Lib.hid (HQ6.out.below HST.out HQ6.out.lt)
    replace HQ11 := Lib.hid (HQ11.out.below HST.out HQ11.out.lt)
    replace HW9 := Lib.hid (own_below HW9.out HST.out)
    replace HO6 := Lib.hid (HO6.out.below HST.out)
    replace HO11 := Lib.hid (HO11.out.below HST.out)
    replace HB := Lib.hid (chain HB.out HST.out)
    go_upto_region 12 with fail
    obtain ⟨Z14, hZ⟩ : ∃ W, W = V14.alloc (.cells #[.slice A14 m14 c14, .slice B14 k14 e14] 35) := ⟨_, rfl⟩
    obtain ⟨g14, hg⟩ : ∃ g, g = V14.heap.size := ⟨_, rfl⟩
    have HQ14 := Lib.hid (show BoxC Z14 g14 35 #[.slice A14 m14 c14, .slice B14 k14 e14] from by rw [hZ, hg]; exact BoxC.new V14 _ _)
    replace HST := Lib.hid (show Below V14.heap.size V14 Z14 from by rw [hZ]; exact below_al (Below.refl _ _) _)
    rw [← hZ]
    (try rw [← hg])
    clear hZ hg
    replace HX := Lib.hid (HX.out.below HST.out HX.out.lt)
    replace HQ6 := Lib.hid (HQ6.out.below HST.out HQ6.out.lt)
    replace HQ11 := Lib.hid (HQ11.out.below HST.out HQ11.out.lt)
    replace HW9 := Lib.hid (own_below HW9.out HST.out)
    replace HE141 := Lib.hid (own_below HE141.out HST.out)
    replace HE142 := Lib.hid (own_below HE142.out HST.out)
    replace HO6 := Lib.hid (HO6.out.below HST.out)
    replace HO11 := Lib.hid (HO11.out.below HST.out)
    replace HB := Lib.hid (chain HB.out HST.out)
    have x0 := HX.out.cell 0 _ rfl
    have x1 := HX.out.cell 1 _ rfl
    go_wp2_with fail
    refine (ends_any (l := strL P l) true _ (HPZ.out _ HB.out) (HKW.out _ HW9.out) (Nat.le_refl _) HRP.out HN6.out).mono ?_
    rintro e V16 ⟨A16, m16, c16, B16, k16, e16, rfl, hm, hn, ho1, ho2, hb⟩
    have HM16 := Lib.hid hm
    have HN16 := Lib.hid hn
    have HE161 := Lib.hid (show V16.ownsRow 0 3 1 (.slice A16 m16 c16) m16 _ from by have := own_base ho1 (Nat.zero_le _); unfold OwnI at this; rwa [← hm] at this)
    have HE162 := Lib.hid (show V16.ownsRow 0 3 1 (.slice B16 k16 e16) k16 _ from by have := own_base ho2 (Nat.zero_le _); unfold OwnI at this; rwa [← hn] at this)
    replace HST := Lib.hid hb
    clear hm hn ho1 ho2 hb x0 x1
    replace HX := Lib.hid (HX.out.below HST.out HX.out.lt)
    replace HQ6 := Lib.hid (HQ6.out.below HST.out HQ6.out.lt)
    replace HQ11 := Lib.hid (HQ11.out.below HST.out HQ11.out.lt)
    replace HQ14 := Lib.hid (HQ14.out.below HST.out HQ14.out.lt)
    replace HW9 := Lib.hid (own_below HW9.out HST.out)
    replace HE141 := Lib.hid (own_below HE141.out HST.out)
    replace HE142 := Lib.hid (own_below HE142.out HST.out)
    replace HO6 := Lib.hid (HO6.out.below HST.out)
    replace HO11 := Lib.hid (HO11.out.below HST.out)
    replace HB := Lib.hid (chain HB.out HST.out)
    go_upto_region 13 with fail
    obtain ⟨Z16, hZ⟩ : ∃ W, W = V16.alloc (.cells #[.slice A16 m16 c16, .slice B16 k16 e16] 35) := ⟨_, rfl⟩
    obtain ⟨g16, hg⟩ : ∃ g, g = V16.heap.size := ⟨_, rfl⟩
    have HQ16 := Lib.hid (show BoxC Z16 g16 35 #[.slice A16 m16 c16, .slice B16 k16 e16] from by rw [hZ, hg]; exact BoxC.new V16 _ _)
    replace HST := Lib.hid (show Below V16.heap.size V16 Z16 from by rw [hZ]; exact below_al (Below.refl _ _) _)
    rw [← hZ]
    (try rw [← hg])
    clear hZ hg
    replace HX := Lib.hid (HX.out.below HST.out HX.out.lt)
    replace HQ6 := Lib.hid (HQ6.out.below HST.out HQ6.out.lt)
    replace HQ11 := Lib.hid (HQ11.out.below HST.out HQ11.out.lt)
    replace HQ14 := Lib.hid (HQ14.out.below HST.out HQ14.out.lt)
    replace HW9 := Lib.hid (own_below HW9.out HST.out)
    replace HE141 := Lib.hid (own_below HE141.out HST.out)
    replace HE142 := Lib.hid (own_below HE142.out HST.out)
    replace HE161 := Lib.hid (own_below HE161.out HST.out)
    replace HE162 := Lib.hid (own_below HE162.out HST.out)
    replace HO6 := Lib.hid (HO6.out.below HST.out)
    replace HO11 := Lib.hid (HO11.out.below HST.out)
    replace HB := Lib.hid (chain HB.out HST.out)
    rw [HEB.out] at *
    generalize endB P false l = eb at *
    have hn9 := HN9.out
    have h2 := HSW.out.2
    have d1 : ((strL P l).length : Int) = (n9 : Int) := by rw [hn9]
    have hq : ((n9 : Int) == (n9 : Int)) = true := by simp
    have hw : IntKind.i64.wrap (2 * (l.length : Int)) = 2 * (l.length : Int) := IntWalk.i64_in _ (by have := HLE.out; omega)
    have e1 : decide ((n9 : Int) ≥ (l.length : Int)) = true := decide_eq_true (by omega)
    have e1b : decide ((l.length : Int) ≤ (n9 : Int)) = true := decide_eq_true (by omega)
    have e1c : decide (l.length ≤ n9) = true := decide_eq_true (by omega)
    have e2 : decide ((n9 : Int) ≤ 2 * (l.length : Int)) = true := decide_eq_true (by omega)
    rw [d1]
    clear hn9 h2 d1
    have s0 := HQ6.out.cell 0 _ rfl
    have s1 := HQ6.out.cell 1 _ rfl
    have r0 := HQ11.out.cell 0 _ rfl
    have r1 := HQ11.out.cell 1 _ rfl
    go_wp2_with fail
    refine (stsame_any _ HO6.out.sv HO11.out.sv (Nat.le_refl _)).mono ?_
    rintro e V20 ⟨rfl, hb⟩
    replace HST := Lib.hid hb
    clear hb s0 s1 r0 r1
    replace HX := Lib.hid (HX.out.below HST.out HX.out.lt)
    replace HQ6 := Lib.hid (HQ6.out.below HST.out HQ6.out.lt)
    replace HQ11 := Lib.hid (HQ11.out.below HST.out HQ11.out.lt)
    replace HQ14 := Lib.hid (HQ14.out.below HST.out HQ14.out.lt)
    replace HQ16 := Lib.hid (HQ16.out.below HST.out HQ16.out.lt)
    replace HW9 := Lib.hid (own_below HW9.out HST.out)
    replace HE141 := Lib.hid (own_below HE141.out HST.out)
    replace HE142 := Lib.hid (own_below HE142.out HST.out)
    replace HE161 := Lib.hid (own_below HE161.out HST.out)
    replace HE162 := Lib.hid (own_below HE162.out HST.out)
    replace HO6 := Lib.hid (HO6.out.below HST.out)
    replace HO11 := Lib.hid (HO11.out.below HST.out)
    replace HB := Lib.hid (chain HB.out HST.out)
    have heb : (eb == eb) = true := by simp
    have o0 := HQ14.out.cell 0 _ rfl
    have o1 := HQ14.out.cell 1 _ rfl
    have p0 := HQ16.out.cell 0 _ rfl
    have p1 := HQ16.out.cell 1 _ rfl
    go_wp2_with fail
    refine (osame_any (o := endO P false l) _ (out_own HM14.out HN14.out (by unfold OwnI; rw [← HM14.out]; exact HE141.out) (by unfold OwnI; rw [← HN14.out]; exact HE142.out)) (by have h1 := HM16.out; have h2 := HN16.out; have h3 := HE161.out; have h4 := HE162.out; rw [HEO.out] at h1 h2 h3 h4; exact out_own h1 h2 (by unfold OwnI; rw [← h1]; exact h3) (by unfold OwnI; rw [← h2]; exact h4)) (Nat.le_refl _)).mono ?_
    rintro e V21 ⟨rfl, hb⟩
    replace HST := Lib.hid hb
    clear hb o0 o1 p0 p1
    replace HX := Lib.hid (HX.out.below HST.out HX.out.lt)
    replace HQ6 := Lib.hid (HQ6.out.below HST.out HQ6.out.lt)
    replace HQ11 := Lib.hid (HQ11.out.below HST.out HQ11.out.lt)
    replace HQ14 := Lib.hid (HQ14.out.below HST.out HQ14.out.lt)
    replace HQ16 := Lib.hid (HQ16.out.below HST.out HQ16.out.lt)
    replace HW9 := Lib.hid (own_below HW9.out HST.out)
    replace HE141 := Lib.hid (own_below HE141.out HST.out)
    replace HE142 := Lib.hid (own_below HE142.out HST.out)
    replace HE161 := Lib.hid (own_below HE161.out HST.out)
    replace HE162 := Lib.hid (own_below HE162.out HST.out)
    replace HO6 := Lib.hid (HO6.out.below HST.out)
    replace HO11 := Lib.hid (HO11.out.below HST.out)
    replace HB := Lib.hid (chain HB.out HST.out)
    go_wp2
    go_ret
    exact ⟨rfl, HB.out⟩
end Go.Proofs.Ytbgjamoflbdhoaa
