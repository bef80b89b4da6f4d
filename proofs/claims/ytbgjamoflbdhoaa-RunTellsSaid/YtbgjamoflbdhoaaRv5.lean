/-
  LAYER 13: the walk of RunTells.
-/
import Derived.Test.YtbgjamoflbdhoaaRuT
import Derived.Test.YtbgjamoflbdhoaaScX
import Derived.Test.YtbgjamoflbdhoaaK40
import Derived.Test.YtbgjamoflbdhoaaRuR
import Derived.Deep.RegionHeld3
import Derived.Deep.DeepCutAuto
namespace Go.Proofs.Ytbgjamoflbdhoaa
open Go.RowKit
set_option linter.unusedVariables false
set_option linter.unusedSimpArgs false
open CodM (St Pg rightP)
open BfM (Wr plc)
open ScM

set_option maxHeartbeats 16000000 in
set_option maxRecDepth 100000 in
theorem runtells_any {B : Nat} {v vl : Value} {P : Pg} {l : List (Int × Bool)} {wk : Bool} (w : World) (hv : PgZ B w v P) (hl : KiR B w vl l) (hBB : B ≤ w.heap.size) :
    Calls Try.prog 3 #[v, vl, .bool wk] w fun e w' => e = .returned (.bool true) ∧ Below w.heap.size w w' := by
  have HPZ := Lib.hid (fun W (hW : Below w.heap.size w W) => (show PgZ W.heap.size W v P from (hv.below (hW.mono hBB)).more (Nat.le_trans hBB hW.size)))
  have HKL := Lib.hid (fun W (hW : Below w.heap.size w W) => (show KiR W.heap.size W vl l from (hl.below (hW.mono hBB)).more (Nat.le_trans hBB hW.size)))
  obtain ⟨pi, pt, rfl, hpm, -⟩ := hv
  obtain ⟨⟨P0, d0, rfl, -⟩, ⟨P1, d1, rfl, l1, l2, l3⟩⟩ := hpm
  obtain ⟨Al, cl, rfl, q1, q2, q0, q3⟩ := hl
  unfold maxLen at l2 q2
  have HL3 := Lib.hid l3
  have HQ3 := Lib.hid q3
  have HQ0 := Lib.hid q0
  clear l3 q3 q0
  obtain ⟨W2, hW2⟩ : ∃ W, W = w.alloc (.cells #[.slice P0 P.init.length d0, .slice P1 P.ths.length d1] 25) := ⟨_, rfl⟩
  obtain ⟨gp, hgp⟩ : ∃ g, g = w.heap.size := ⟨_, rfl⟩
  have HX := Lib.hid (show BoxC W2 gp 25 #[.slice P0 P.init.length d0, .slice P1 P.ths.length d1] from by rw [hW2, hgp]; exact BoxC.new w _ _)
  have HB := Lib.hid (show Below w.heap.size w W2 from by rw [hW2]; exact below_al (Below.refl _ _) _)
  go_enter Try.func3, Try.ntmps3
  go_upto_region 1 with fail
  rw [← hW2]
  (try rw [← hgp])
  clear hW2 hgp
  go_wp2_with fail
  refine (head13_any _).mono ?_
  rintro e V1 ⟨rfl, hb⟩
  have HST := Lib.hid hb
  clear hb
  replace HX := Lib.hid (HX.out.below HST.out HX.out.lt)
  replace HB := Lib.hid (chain HB.out HST.out)
  have x0 := HX.out.cell 0 _ rfl
  have x1 := HX.out.cell 1 _ rfl
  go_wp2_with fail
  refine (great13_any _ (HPZ.out _ HB.out).v (HKL.out _ HB.out) (Nat.le_refl _)).mono ?_
  rintro e V2 ⟨gb, rfl, hg, hb⟩
  replace HST := Lib.hid hb
  clear hb x0 x1
  replace HX := Lib.hid (HX.out.below HST.out HX.out.lt)
  replace HB := Lib.hid (chain HB.out HST.out)
  cases gb
  case true =>
    go_wp2
    go_ret
    exact ⟨rfl, HB.out⟩
  have HRP := Lib.hid (hg rfl).1
  have HLE := Lib.hid (hg rfl).2
  have HN5 := Lib.hid (show l.length ≤ 50000 from Nat.le_trans (hg rfl).2 (by decide))
  clear hg
  have x0 := HX.out.cell 0 _ rfl
  have x1 := HX.out.cell 1 _ rfl
  go_wp2_with fail
  refine (run_any (l := l) wk _ (HPZ.out _ HB.out) (HKL.out _ HB.out) (Nat.le_refl _) HRP.out HN5.out).mono ?_
  rintro e V8 ⟨vm, vt, ps8, rfl, hos, hb⟩
  obtain ⟨⟨s8, n8, a8⟩, hr8⟩ : ∃ r, r = runS P wk (beg P) (l) := ⟨_, rfl⟩
  have HR8 := Lib.hid hr8.symm
  rw [← hr8] at hos ⊢
  clear hr8
  dsimp only at hos ⊢
  obtain ⟨A8, c8, rfl⟩ := own_slice hos.mem
  obtain ⟨B8, e8, rfl⟩ := own_slice hos.ths
  obtain ⟨m8, hm8⟩ : ∃ m, m = s8.mem.length := ⟨_, rfl⟩
  obtain ⟨k8, hk8⟩ : ∃ m, m = s8.ths.length := ⟨_, rfl⟩
  have HM8 := Lib.hid hm8
  have HK8 := Lib.hid hk8
  rw [← hm8, ← hk8] at hos ⊢
  have HO8 := Lib.hid (show OwnSt 0 V8 (.slice A8 m8 c8) (.slice B8 k8 e8) s8 ps8 from hos.base (Nat.zero_le _))
  replace HST := Lib.hid hb
  clear hos hb hm8 hk8 x0 x1
  replace HX := Lib.hid (HX.out.below HST.out HX.out.lt)
  replace HB := Lib.hid (chain HB.out HST.out)
  go_upto_region 5 with fail
  obtain ⟨Z8, hZ⟩ : ∃ W, W = V8.alloc (.cells #[.slice A8 m8 c8, .slice B8 k8 e8] 31) := ⟨_, rfl⟩
  obtain ⟨g8, hg⟩ : ∃ g, g = V8.heap.size := ⟨_, rfl⟩
  have HQ8 := Lib.hid (show BoxC Z8 g8 31 #[.slice A8 m8 c8, .slice B8 k8 e8] from by rw [hZ, hg]; exact BoxC.new V8 _ _)
  replace HST := Lib.hid (show Below V8.heap.size V8 Z8 from by rw [hZ]; exact below_al (Below.refl _ _) _)
  rw [← hZ]
  (try rw [← hg])
  clear hZ hg
  replace HX := Lib.hid (HX.out.below HST.out HX.out.lt)
  replace HO8 := Lib.hid (HO8.out.below HST.out)
  replace HB := Lib.hid (chain HB.out HST.out)
  have HP8 := Lib.hid (show OkSt P s8 ∧ WideS s8 from by
    have h1 := runS_ok HRP.out (wk := wk) (l) (beg_ok P)
    have h2 := wide_run HRP.out wk (l) (n := 50000) HN5.out (by decide)
    rw [HR8.out] at h1 h2
    exact ⟨h1, h2⟩)
  have x0 := HX.out.cell 0 _ rfl
  have x1 := HX.out.cell 1 _ rfl
  go_wp2_with fail
  refine (rrun13_any (l := l) wk _ (HPZ.out _ HB.out) (HKL.out _ HB.out) (Nat.le_refl _) HRP.out HN5.out).mono ?_
  rintro e V11 ⟨vm, vt, ps11, rfl, hos, hb⟩
  obtain ⟨A11, c11, rfl⟩ := own_slice hos.mem
  obtain ⟨B11, e11, rfl⟩ := own_slice hos.ths
  rw [HR8.out] at hos ⊢
  dsimp only at hos ⊢
  rw [← HM8.out, ← HK8.out] at hos ⊢
  have HO11 := Lib.hid (show OwnSt 0 V11 (.slice A11 m8 c11) (.slice B11 k8 e11) s8 ps11 from hos.base (Nat.zero_le _))
  replace HST := Lib.hid hb
  clear hos hb x0 x1
  replace HX := Lib.hid (HX.out.below HST.out HX.out.lt)
  replace HQ8 := Lib.hid (HQ8.out.below HST.out HQ8.out.lt)
  replace HO8 := Lib.hid (HO8.out.below HST.out)
  replace HB := Lib.hid (chain HB.out HST.out)
  go_upto_region 6 with fail
  obtain ⟨Z11, hZ⟩ : ∃ W, W = V11.alloc (.cells #[.slice A11 m8 c11, .slice B11 k8 e11] 31) := ⟨_, rfl⟩
  obtain ⟨g11, hg⟩ : ∃ g, g = V11.heap.size := ⟨_, rfl⟩
  have HQ11 := Lib.hid (show BoxC Z11 g11 31 #[.slice A11 m8 c11, .slice B11 k8 e11] from by rw [hZ, hg]; exact BoxC.new V11 _ _)
  replace HST := Lib.hid (show Below V11.heap.size V11 Z11 from by rw [hZ]; exact below_al (Below.refl _ _) _)
  rw [← hZ]
  (try rw [← hg])
  clear hZ hg
  replace HX := Lib.hid (HX.out.below HST.out HX.out.lt)
  replace HQ8 := Lib.hid (HQ8.out.below HST.out HQ8.out.lt)
  replace HO8 := Lib.hid (HO8.out.below HST.out)
  replace HO11 := Lib.hid (HO11.out.below HST.out)
  replace HB := Lib.hid (chain HB.out HST.out)
  have x0 := HX.out.cell 0 _ rfl
  have x1 := HX.out.cell 1 _ rfl
  go_wp2_with fail
  refine (ends_any (l := l) wk _ (HPZ.out _ HB.out) (HKL.out _ HB.out) (Nat.le_refl _) HRP.out HN5.out).mono ?_
  rintro e V14 ⟨A14, m14, c14, B14, k14, e14, rfl, hm, hn, ho1, ho2, hb⟩
  have HM14 := Lib.hid hm
  have HN14 := Lib.hid hn
  have HE141 := Lib.hid (show V14.ownsRow 0 3 1 (.slice A14 m14 c14) m14 _ from by have := own_base ho1 (Nat.zero_le _); unfold OwnI at this; rwa [← hm] at this)
  have HE142 := Lib.hid (show V14.ownsRow 0 3 1 (.slice B14 k14 e14) k14 _ from by have := own_base ho2 (Nat.zero_le _); unfold OwnI at this; rwa [← hn] at this)
  replace HST := Lib.hid hb
  clear hm hn ho1 ho2 hb x0 x1
  replace HX := Lib.hid (HX.out.below HST.out HX.out.lt)
  replace HQ8 := Lib.hid (HQ8.out.below HST.out HQ8.out.lt)
  replace HQ11 := Lib.hid (HQ11.out.below HST.out HQ11.out.lt)
  replace HO8 := Lib.hid (HO8.out.below HST.out)
  replace HO11 := Lib.hid (HO11.out.below HST.out)
  replace HB := Lib.hid (chain HB.out HST.out)
  go_upto_region 7 with fail
  obtain ⟨Z14, hZ⟩ : ∃ W, W = V14.alloc (.cells #[.slice A14 m14 c14, .slice B14 k14 e14] 35) := ⟨_, rfl⟩
  obtain ⟨g14, hg⟩ : ∃ g, g = V14.heap.size := ⟨_, rfl⟩
  have HQ14 := Lib.hid (show BoxC Z14 g14 35 #[.slice A14 m14 c14, .slice B14 k14 e14] from by rw [hZ, hg]; exact BoxC.new V14 _ _)
  replace HST := Lib.hid (show Below V14.heap.size V14 Z14 from by rw [hZ]; exact below_al (Below.refl _ _) _)
  rw [← hZ]
  (try rw [← hg])
  clear hZ hg
  replace HX := Lib.hid (HX.out.below HST.out HX.out.lt)
  replace HQ8 := Lib.hid (HQ8.out.below HST.out HQ8.out.lt)
  replace HQ11 := Lib.hid (HQ11.out.below HST.out HQ11.out.lt)
  replace HE141 := Lib.hid (own_below HE141.out HST.out)
  replace HE142 := Lib.hid (own_below HE142.out HST.out)
  replace HO8 := Lib.hid (HO8.out.below HST.out)
  replace HO11 := Lib.hid (HO11.out.below HST.out)
  replace HB := Lib.hid (chain HB.out HST.out)
  have x0 := HX.out.cell 0 _ rfl
  have x1 := HX.out.cell 1 _ rfl
  go_wp2_with fail
  refine (rends_any (l := l) wk _ (HPZ.out _ HB.out) (HKL.out _ HB.out) (Nat.le_refl _) HRP.out HN5.out).mono ?_
  rintro e V16 ⟨A16, m16, c16, B16, k16, e16, rfl, hm, hn, ho1, ho2, hb⟩
  have HM16 := Lib.hid hm
  have HN16 := Lib.hid hn
  have HE161 := Lib.hid (show V16.ownsRow 0 3 1 (.slice A16 m16 c16) m16 _ from by have := own_base ho1 (Nat.zero_le _); unfold OwnI at this; rwa [← hm] at this)
  have HE162 := Lib.hid (show V16.ownsRow 0 3 1 (.slice B16 k16 e16) k16 _ from by have := own_base ho2 (Nat.zero_le _); unfold OwnI at this; rwa [← hn] at this)
  replace HST := Lib.hid hb
  clear hm hn ho1 ho2 hb x0 x1
  replace HX := Lib.hid (HX.out.below HST.out HX.out.lt)
  replace HQ8 := Lib.hid (HQ8.out.below HST.out HQ8.out.lt)
  replace HQ11 := Lib.hid (HQ11.out.below HST.out HQ11.out.lt)
  replace HQ14 := Lib.hid (HQ14.out.below HST.out HQ14.out.lt)
  replace HE141 := Lib.hid (own_below HE141.out HST.out)
  replace HE142 := Lib.hid (own_below HE142.out HST.out)
  replace HO8 := Lib.hid (HO8.out.below HST.out)
  replace HO11 := Lib.hid (HO11.out.below HST.out)
  replace HB := Lib.hid (chain HB.out HST.out)
  go_upto_region 8 with fail
  obtain ⟨Z16, hZ⟩ : ∃ W, W = V16.alloc (.cells #[.slice A16 m16 c16, .slice B16 k16 e16] 35) := ⟨_, rfl⟩
  obtain ⟨g16, hg⟩ : ∃ g, g = V16.heap.size := ⟨_, rfl⟩
  have HQ16 := Lib.hid (show BoxC Z16 g16 35 #[.slice A16 m16 c16, .slice B16 k16 e16] from by rw [hZ, hg]; exact BoxC.new V16 _ _)
  replace HST := Lib.hid (show Below V16.heap.size V16 Z16 from by rw [hZ]; exact below_al (Below.refl _ _) _)
  rw [← hZ]
  (try rw [← hg])
  clear hZ hg
  replace HX := Lib.hid (HX.out.below HST.out HX.out.lt)
  replace HQ8 := Lib.hid (HQ8.out.below HST.out HQ8.out.lt)
  replace HQ11 := Lib.hid (HQ11.out.below HST.out HQ11.out.lt)
  replace HQ14 := Lib.hid (HQ14.out.below HST.out HQ14.out.lt)
  replace HE141 := Lib.hid (own_below HE141.out HST.out)
  replace HE142 := Lib.hid (own_below HE142.out HST.out)
  replace HE161 := Lib.hid (own_below HE161.out HST.out)
  replace HE162 := Lib.hid (own_below HE162.out HST.out)
  replace HO8 := Lib.hid (HO8.out.below HST.out)
  replace HO11 := Lib.hid (HO11.out.below HST.out)
  replace HB := Lib.hid (chain HB.out HST.out)
  have x0 := HX.out.cell 0 _ rfl
  have x1 := HX.out.cell 1 _ rfl
  go_wp2_with fail
  refine (strict_run_any (l := l) _ (HPZ.out _ HB.out) (HKL.out _ HB.out) (Nat.le_refl _) HRP.out HN5.out).mono ?_
  rintro e V18 ⟨A18, n18, c18, rfl, hn, hrow, hb⟩
  have HN18 := Lib.hid hn
  have HW18 := Lib.hid (own_base hrow (Nat.zero_le _))
  replace HST := Lib.hid hb
  clear hn hrow hb x0 x1
  replace HX := Lib.hid (HX.out.below HST.out HX.out.lt)
  replace HQ8 := Lib.hid (HQ8.out.below HST.out HQ8.out.lt)
  replace HQ11 := Lib.hid (HQ11.out.below HST.out HQ11.out.lt)
  replace HQ14 := Lib.hid (HQ14.out.below HST.out HQ14.out.lt)
  replace HQ16 := Lib.hid (HQ16.out.below HST.out HQ16.out.lt)
  replace HE141 := Lib.hid (own_below HE141.out HST.out)
  replace HE142 := Lib.hid (own_below HE142.out HST.out)
  replace HE161 := Lib.hid (own_below HE161.out HST.out)
  replace HE162 := Lib.hid (own_below HE162.out HST.out)
  replace HO8 := Lib.hid (HO8.out.below HST.out)
  replace HO11 := Lib.hid (HO11.out.below HST.out)
  replace HB := Lib.hid (chain HB.out HST.out)
  go_upto_region 9 with fail
  have x0 := HX.out.cell 0 _ rfl
  have x1 := HX.out.cell 1 _ rfl
  go_wp2_with fail
  refine (rstrict13_any (l := l) _ (HPZ.out _ HB.out) (HKL.out _ HB.out) (Nat.le_refl _) HRP.out HN5.out).mono ?_
  rintro e V20 ⟨A20, n20, c20, rfl, hn, hrow, hb⟩
  have HN20 := Lib.hid hn
  have HW20 := Lib.hid (own_base hrow (Nat.zero_le _))
  replace HST := Lib.hid hb
  clear hn hrow hb x0 x1
  replace HX := Lib.hid (HX.out.below HST.out HX.out.lt)
  replace HQ8 := Lib.hid (HQ8.out.below HST.out HQ8.out.lt)
  replace HQ11 := Lib.hid (HQ11.out.below HST.out HQ11.out.lt)
  replace HQ14 := Lib.hid (HQ14.out.below HST.out HQ14.out.lt)
  replace HQ16 := Lib.hid (HQ16.out.below HST.out HQ16.out.lt)
  replace HE141 := Lib.hid (own_below HE141.out HST.out)
  replace HE142 := Lib.hid (own_below HE142.out HST.out)
  replace HE161 := Lib.hid (own_below HE161.out HST.out)
  replace HE162 := Lib.hid (own_below HE162.out HST.out)
  replace HW18 := Lib.hid (own_below HW18.out HST.out)
  replace HO8 := Lib.hid (HO8.out.below HST.out)
  replace HO11 := Lib.hid (HO11.out.below HST.out)
  replace HB := Lib.hid (chain HB.out HST.out)
  go_upto_region 10 with fail
  obtain ⟨ov, hov⟩ : ∃ q, q = overB P s8 := ⟨_, rfl⟩
  have HOV := Lib.hid hov
  clear hov
  generalize endB P wk l = eb at *
  generalize (runS P false (beg P) l).2.2 = sb at *
  have HKW := Lib.hid (fun W A n c (hn : n = (strL P l).length) (h : W.ownsRow 0 47 2 (.slice A n c) n ((strL P l).flatMap kiC)) => show KiR W.heap.size W (.slice A n c) (strL P l) from Rw.own (by rw [← hn]; exact h) (Nat.le_refl _))
  have HOE := Lib.hid (fun W (A D : Option Addr) (m c n d : Nat) (hm : m = (endO P wk l).1.length) (hn : n = (endO P wk l).2.length) (h1 : W.ownsRow 0 3 1 (.slice A m c) m ((endO P wk l).1.flatMap nuC)) (h2 : W.ownsRow 0 3 1 (.slice D n d) n ((endO P wk l).2.flatMap nuC)) => show OutR W.heap.size W (.agg #[.slice A m c, .slice D n d]) (endO P wk l) from out_own hm hn (by unfold OwnI; rw [← hm]; exact h1) (by unfold OwnI; rw [← hn]; exact h2))
  have hbb : ∀ b : Bool, (b == b) = true := fun b => by simp
  have hb1 : (a8 == a8) = true := by simp
  have hb2 : (eb == eb) = true := by simp
  have hb3 : (sb == sb) = true := by simp
  have hb4 : (ov == ov) = true := by simp
  have hi1 : ((n8 : Int) == (n8 : Int)) = true := by simp
  have x0 := HX.out.cell 0 _ rfl
  have x1 := HX.out.cell 1 _ rfl
  have s0 := HQ8.out.cell 0 _ rfl
  have s1 := HQ8.out.cell 1 _ rfl
  have r0 := HQ11.out.cell 0 _ rfl
  have r1 := HQ11.out.cell 1 _ rfl
  have o0 := HQ14.out.cell 0 _ rfl
  have o1 := HQ14.out.cell 1 _ rfl
  have p0 := HQ16.out.cell 0 _ rfl
  have p1 := HQ16.out.cell 1 _ rfl
  refine wp_region_held_drew (S := (fun w' => (w'.cell? ⟨gp, 0, none⟩ = some (.slice P0 P.init.length d0) ∧ w'.cell? ⟨gp, 1, none⟩ = some (.slice P1 P.ths.length d1) ∧ w'.cell? ⟨g8, 0, none⟩ = some (.slice A8 m8 c8) ∧ w'.cell? ⟨g8, 1, none⟩ = some (.slice B8 k8 e8) ∧ w'.cell? ⟨g11, 0, none⟩ = some (.slice A11 m8 c11) ∧ w'.cell? ⟨g11, 1, none⟩ = some (.slice B11 k8 e11) ∧ w'.cell? ⟨g14, 0, none⟩ = some (.slice A14 m14 c14) ∧ w'.cell? ⟨g14, 1, none⟩ = some (.slice B14 k14 e14) ∧ w'.cell? ⟨g16, 0, none⟩ = some (.slice A16 m16 c16) ∧ w'.cell? ⟨g16, 1, none⟩ = some (.slice B16 k16 e16) ∧ True) ∧ Below V20.heap.size V20 w')) (by kernel_rfl) ⟨⟨x0, x1, s0, s1, r0, r1, o0, o1, p0, p1, trivial⟩, below_drewN (Below.refl _ _) 1⟩ (fun hHeld => ?_)
  refine wpAnyH_take (i := 0) (v := ?_) rfl (by kernel_rfl) (by kernel_rfl) (by kernel_rfl) (fun _ _ _ h => h) (Or.inl ⟨by rfl, ?_⟩) (by assumption) ?_
  rotate_left
  · intro w hSw; (try dsimp only at hSw); go_simp; (try with_reducible rfl)
  (try simp only [Act.put, pt8])
  refine wpAnyH_take (i := 1) (v := ?_) rfl (by kernel_rfl) (by kernel_rfl) (by kernel_rfl) (fun _ _ _ h => h) (Or.inl ⟨by rfl, ?_⟩) (by assumption) ?_
  rotate_left
  · intro w hSw; (try dsimp only at hSw); go_simp; (try with_reducible rfl)
  (try simp only [Act.put, pt8])
  refine wpAnyH_take (i := 2) (v := ?_) rfl (by kernel_rfl) (by kernel_rfl) (by kernel_rfl) (fun _ _ _ h => h) (Or.inl ⟨by rfl, ?_⟩) (by assumption) ?_
  rotate_left
  · intro w hSw; (try dsimp only at hSw); go_simp; (try with_reducible rfl)
  (try simp only [Act.put, pt8])
  refine wpAnyH_take (i := 3) (v := ?_) rfl (by kernel_rfl) (by kernel_rfl) (by kernel_rfl) (fun _ _ _ h => h) (Or.inl ⟨by rfl, ?_⟩) (by assumption) ?_
  rotate_left
  · intro w hSw; (try dsimp only at hSw); go_simp; (try with_reducible rfl)
  (try simp only [Act.put, pt8])
  refine wpAnyH_ready (rs := [4]) (by kernel_rfl) (by simp) ?_
  refine AllReadyH.cons rfl (fun K hK => ?_) AllReadyH.nil
  go_simp
  refine (stsame_any _ (HO8.out.below hHeld.2).sv (HO11.out.below hHeld.2).sv (Nat.le_refl _)).mono ?_
  rintro e U4 ⟨rfl, hb⟩
  have HBU := Lib.hid (chain hHeld.2 hb)
  refine hK.out _ _ ⟨⟨kc HBU.out x0, kc HBU.out x1, kc HBU.out s0, kc HBU.out s1, kc HBU.out r0, kc HBU.out r1, kc HBU.out o0, kc HBU.out o1, kc HBU.out p0, kc HBU.out p1, trivial⟩, HBU.out⟩ (fun hHeld => ?_)
  clear hK K
  (try simp only [Act.put, pt8])
  clear hb
  refine wpAnyH_take (i := 5) (v := ?_) rfl (by kernel_rfl) (by kernel_rfl) (by kernel_rfl) (fun _ _ _ h => h) (Or.inl ⟨by rfl, ?_⟩) (by assumption) ?_
  rotate_left
  · intro w hSw; (try dsimp only at hSw); go_simp; (try with_reducible rfl)
  (try simp only [Act.put, pt8])
  refine wpAnyH_take (i := 6) (v := ?_) rfl (by kernel_rfl) (by kernel_rfl) (by kernel_rfl) (fun _ _ _ h => h) (Or.inl ⟨by rfl, ?_⟩) (by assumption) ?_
  rotate_left
  · intro w hSw; (try dsimp only at hSw); go_simp; (try with_reducible rfl)
  (try simp only [Act.put, pt8])
  refine wpAnyH_take (i := 7) (v := ?_) rfl (by kernel_rfl) (by kernel_rfl) (by kernel_rfl) (fun _ _ _ h => h) (Or.inl ⟨by rfl, ?_⟩) (by assumption) ?_
  rotate_left
  · intro w hSw; (try dsimp only at hSw); go_simp; (try with_reducible rfl)
  (try simp only [Act.put, pt8])
  refine wpAnyH_take (i := 8) (v := ?_) rfl (by kernel_rfl) (by kernel_rfl) (by kernel_rfl) (fun _ _ _ h => h) (Or.inl ⟨by rfl, ?_⟩) (by assumption) ?_
  rotate_left
  · intro w hSw; (try dsimp only at hSw); go_simp; (try with_reducible rfl)
  (try simp only [Act.put, pt8])
  refine wpAnyH_take (i := 9) (v := ?_) rfl (by kernel_rfl) (by kernel_rfl) (by kernel_rfl) (fun _ _ _ h => h) (Or.inl ⟨by rfl, ?_⟩) (by assumption) ?_
  rotate_left
  · intro w hSw; (try dsimp only at hSw); go_simp; (try with_reducible rfl)
  (try simp only [Act.put, pt8])
  refine wpAnyH_take (i := 10) (v := ?_) rfl (by kernel_rfl) (by kernel_rfl) (by kernel_rfl) (fun _ _ _ h => h) (Or.inl ⟨by rfl, ?_⟩) (by assumption) ?_
  rotate_left
  · intro w hSw; (try dsimp only at hSw); go_simp; (try with_reducible rfl)
  (try simp only [Act.put, pt8])
  refine wpAnyH_take (i := 11) (v := ?_) rfl (by kernel_rfl) (by kernel_rfl) (by kernel_rfl) (fun _ _ _ h => h) (Or.inl ⟨by rfl, ?_⟩) (by assumption) ?_
  rotate_left
  · intro w hSw; (try dsimp only at hSw); go_simp; (try with_reducible rfl)
  (try simp only [Act.put, pt8])
  refine wpAnyH_take (i := 12) (v := ?_) rfl (by kernel_rfl) (by kernel_rfl) (by kernel_rfl) (fun _ _ _ h => h) (Or.inl ⟨by rfl, ?_⟩) (by assumption) ?_
  rotate_left
  · intro w hSw; (try dsimp only at hSw); go_simp; (try with_reducible rfl)
  (try simp only [Act.put, pt8])
  refine wpAnyH_take (i := 13) (v := ?_) rfl (by kernel_rfl) (by kernel_rfl) (by kernel_rfl) (fun _ _ _ h => h) (Or.inl ⟨by rfl, ?_⟩) (by assumption) ?_
  rotate_left
  · intro w hSw; (try dsimp only at hSw); go_simp; (try with_reducible rfl)
  (try simp only [Act.put, pt8])
  refine wpAnyH_take (i := 14) (v := ?_) rfl (by kernel_rfl) (by kernel_rfl) (by kernel_rfl) (fun _ _ _ h => h) (Or.inl ⟨by rfl, ?_⟩) (by assumption) ?_
  rotate_left
  · intro w hSw; (try dsimp only at hSw); go_simp; (try with_reducible rfl)
  (try simp only [Act.put, pt8])
  refine wpAnyH_take (i := 15) (v := ?_) rfl (by kernel_rfl) (by kernel_rfl) (by kernel_rfl) (fun _ _ _ h => h) (Or.inl ⟨by rfl, ?_⟩) (by assumption) ?_
  rotate_left
  · intro w hSw; (try dsimp only at hSw); go_simp; (try with_reducible rfl)
  (try simp only [Act.put, pt8])
  refine wpAnyH_take (i := 16) (v := ?_) rfl (by kernel_rfl) (by kernel_rfl) (by kernel_rfl) (fun _ _ _ h => h) (Or.inl ⟨by rfl, ?_⟩) (by assumption) ?_
  rotate_left
  · intro w hSw; (try dsimp only at hSw); go_simp; (try with_reducible rfl)
  (try simp only [Act.put, pt8])
  refine wpAnyH_take (i := 17) (v := ?_) rfl (by kernel_rfl) (by kernel_rfl) (by kernel_rfl) (fun _ _ _ h => h) (Or.inl ⟨by rfl, ?_⟩) (by assumption) ?_
  rotate_left
  · intro w hSw; (try dsimp only at hSw); go_simp; (try with_reducible rfl)
  (try simp only [Act.put, pt8])
  refine wpAnyH_take (i := 18) (v := ?_) rfl (by kernel_rfl) (by kernel_rfl) (by kernel_rfl) (fun _ _ _ h => h) (Or.inl ⟨by rfl, ?_⟩) (by assumption) ?_
  rotate_left
  · intro w hSw; (try dsimp only at hSw); go_simp; (try with_reducible rfl)
  (try simp only [Act.put, pt8])
  refine wpAnyH_ready (rs := [19]) (by kernel_rfl) (by simp) ?_
  refine AllReadyH.cons rfl (fun K hK => ?_) AllReadyH.nil
  go_simp
  refine (osame_any (o := endO P wk l) _ (HOE.out _ _ _ _ _ _ _ HM14.out HN14.out (own_below HE141.out hHeld.2) (own_below HE142.out hHeld.2)) (HOE.out _ _ _ _ _ _ _ HM16.out HN16.out (own_below HE161.out hHeld.2) (own_below HE162.out hHeld.2)) (Nat.le_refl _)).mono ?_
  rintro e U19 ⟨rfl, hb⟩
  have HBU := Lib.hid (chain hHeld.2 hb)
  refine hK.out _ _ ⟨⟨kc HBU.out x0, kc HBU.out x1, kc HBU.out s0, kc HBU.out s1, kc HBU.out r0, kc HBU.out r1, kc HBU.out o0, kc HBU.out o1, kc HBU.out p0, kc HBU.out p1, trivial⟩, HBU.out⟩ (fun hHeld => ?_)
  clear hK K
  (try simp only [Act.put, pt8])
  clear hb
  refine wpAnyH_take (i := 20) (v := ?_) rfl (by kernel_rfl) (by kernel_rfl) (by kernel_rfl) (fun _ _ _ h => h) (Or.inl ⟨by rfl, ?_⟩) (by assumption) ?_
  rotate_left
  · intro w hSw; (try dsimp only at hSw); go_simp; (try with_reducible rfl)
  (try simp only [Act.put, pt8])
  refine wpAnyH_take (i := 21) (v := ?_) rfl (by kernel_rfl) (by kernel_rfl) (by kernel_rfl) (fun _ _ _ h => h) (Or.inl ⟨by rfl, ?_⟩) (by assumption) ?_
  rotate_left
  · intro w hSw; (try dsimp only at hSw); go_simp; (try with_reducible rfl)
  (try simp only [Act.put, pt8])
  refine wpAnyH_take (i := 22) (v := ?_) rfl (by kernel_rfl) (by kernel_rfl) (by kernel_rfl) (fun _ _ _ h => h) (Or.inl ⟨by rfl, ?_⟩) (by assumption) ?_
  rotate_left
  · intro w hSw; (try dsimp only at hSw); go_simp; (try with_reducible rfl)
  (try simp only [Act.put, pt8])
  refine wpAnyH_take (i := 23) (v := ?_) rfl (by kernel_rfl) (by kernel_rfl) (by kernel_rfl) (fun _ _ _ h => h) (Or.inl ⟨by rfl, ?_⟩) (by assumption) ?_
  rotate_left
  · intro w hSw; (try dsimp only at hSw); go_simp; (try with_reducible rfl)
  (try simp only [Act.put, pt8])
  refine wpAnyH_take (i := 24) (v := ?_) rfl (by kernel_rfl) (by kernel_rfl) (by kernel_rfl) (fun _ _ _ h => h) (Or.inl ⟨by rfl, ?_⟩) (by assumption) ?_
  rotate_left
  · intro w hSw; (try dsimp only at hSw); go_simp; (try with_reducible rfl)
  (try simp only [Act.put, pt8])
  refine wpAnyH_take (i := 25) (v := ?_) rfl (by kernel_rfl) (by kernel_rfl) (by kernel_rfl) (fun _ _ _ h => h) (Or.inl ⟨by rfl, ?_⟩) (by assumption) ?_
  rotate_left
  · intro w hSw; (try dsimp only at hSw); go_simp; (try with_reducible rfl)
  (try simp only [Act.put, pt8])
  refine wpAnyH_take (i := 26) (v := ?_) rfl (by kernel_rfl) (by kernel_rfl) (by kernel_rfl) (fun _ _ _ h => h) (Or.inl ⟨by rfl, ?_⟩) (by assumption) ?_
  rotate_left
  · intro w hSw; (try dsimp only at hSw); go_simp; (try with_reducible rfl)
  (try simp only [Act.put, pt8])
  refine wpAnyH_take (i := 27) (v := ?_) rfl (by kernel_rfl) (by kernel_rfl) (by kernel_rfl) (fun _ _ _ h => h) (Or.inl ⟨by rfl, ?_⟩) (by assumption) ?_
  rotate_left
  · intro w hSw; (try dsimp only at hSw); go_simp; (try with_reducible rfl)
  (try simp only [Act.put, pt8])
  refine wpAnyH_take (i := 28) (v := ?_) rfl (by kernel_rfl) (by kernel_rfl) (by kernel_rfl) (fun _ _ _ h => h) (Or.inl ⟨by rfl, ?_⟩) (by assumption) ?_
  rotate_left
  · intro w hSw; (try dsimp only at hSw); go_simp; (try with_reducible rfl)
  (try simp only [Act.put, pt8])
  refine wpAnyH_ready (rs := [29]) (by kernel_rfl) (by simp) ?_
  refine AllReadyH.cons rfl (fun K hK => ?_) AllReadyH.nil
  go_simp
  refine (kisame_any (ns := strL P l) _ (HKW.out _ _ _ _ HN18.out (own_below HW18.out hHeld.2)) (HKW.out _ _ _ _ HN20.out (own_below HW20.out hHeld.2)) (Nat.le_refl _)).mono ?_
  rintro e U29 ⟨rfl, hb⟩
  have HBU := Lib.hid (chain hHeld.2 hb)
  refine hK.out _ _ ⟨⟨kc HBU.out x0, kc HBU.out x1, kc HBU.out s0, kc HBU.out s1, kc HBU.out r0, kc HBU.out r1, kc HBU.out o0, kc HBU.out o1, kc HBU.out p0, kc HBU.out p1, trivial⟩, HBU.out⟩ (fun hHeld => ?_)
  clear hK K
  (try simp only [Act.put, pt8])
  clear hb
  refine wpAnyH_take (i := 30) (v := ?_) rfl (by kernel_rfl) (by kernel_rfl) (by kernel_rfl) (fun _ _ _ h => h) (Or.inl ⟨by rfl, ?_⟩) (by assumption) ?_
  rotate_left
  · intro w hSw; (try dsimp only at hSw); go_simp; (try with_reducible rfl)
  (try simp only [Act.put, pt8])
  refine wpAnyH_take (i := 31) (v := ?_) rfl (by kernel_rfl) (by kernel_rfl) (by kernel_rfl) (fun _ _ _ h => h) (Or.inl ⟨by rfl, ?_⟩) (by assumption) ?_
  rotate_left
  · intro w hSw; (try dsimp only at hSw); go_simp; (try with_reducible rfl)
  (try simp only [Act.put, pt8])
  refine wpAnyH_take (i := 32) (v := ?_) rfl (by kernel_rfl) (by kernel_rfl) (by kernel_rfl) (fun _ _ _ h => h) (Or.inl ⟨by rfl, ?_⟩) (by assumption) ?_
  rotate_left
  · intro w hSw; (try dsimp only at hSw); go_simp; (try with_reducible rfl)
  (try simp only [Act.put, pt8])
  refine wpAnyH_take (i := 33) (v := ?_) rfl (by kernel_rfl) (by kernel_rfl) (by kernel_rfl) (fun _ _ _ h => h) (Or.inl ⟨by rfl, ?_⟩) (by assumption) ?_
  rotate_left
  · intro w hSw; (try dsimp only at hSw); go_simp; (try with_reducible rfl)
  (try simp only [Act.put, pt8])
  refine wpAnyH_take (i := 34) (v := ?_) rfl (by kernel_rfl) (by kernel_rfl) (by kernel_rfl) (fun _ _ _ h => h) (Or.inl ⟨by rfl, ?_⟩) (by assumption) ?_
  rotate_left
  · intro w hSw; (try dsimp only at hSw); go_simp; (try with_reducible rfl)
  (try simp only [Act.put, pt8])
  refine wpAnyH_take (i := 35) (v := ?_) rfl (by kernel_rfl) (by kernel_rfl) (by kernel_rfl) (fun _ _ _ h => h) (Or.inl ⟨by rfl, ?_⟩) (by assumption) ?_
  rotate_left
  · intro w hSw; (try dsimp only at hSw); go_simp; (try with_reducible rfl)
  (try simp only [Act.put, pt8])
  refine wpAnyH_take (i := 36) (v := ?_) rfl (by kernel_rfl) (by kernel_rfl) (by kernel_rfl) (fun _ _ _ h => h) (Or.inl ⟨by rfl, ?_⟩) (by assumption) ?_
  rotate_left
  · intro w hSw; (try dsimp only at hSw); go_simp; (try with_reducible rfl)
  (try simp only [Act.put, pt8])
  refine wpAnyH_take (i := 37) (v := ?_) rfl (by kernel_rfl) (by kernel_rfl) (by kernel_rfl) (fun _ _ _ h => h) (Or.inl ⟨by rfl, ?_⟩) (by assumption) ?_
  rotate_left
  · intro w hSw; (try dsimp only at hSw); go_simp; (try with_reducible rfl)
  (try simp only [Act.put, pt8])
  refine wpAnyH_take (i := 38) (v := ?_) rfl (by kernel_rfl) (by kernel_rfl) (by kernel_rfl) (fun _ _ _ h => h) (Or.inl ⟨by rfl, ?_⟩) (by assumption) ?_
  rotate_left
  · intro w hSw; (try dsimp only at hSw); go_simp; (try with_reducible rfl)
  (try simp only [Act.put, pt8])
  refine wpAnyH_take (i := 40) (v := ?_) rfl (by kernel_rfl) (by kernel_rfl) (by kernel_rfl) (fun _ _ _ h => h) (Or.inl ⟨by rfl, ?_⟩) (by assumption) ?_
  rotate_left
  · intro w hSw; (try dsimp only at hSw); go_simp; (try with_reducible rfl)
  (try simp only [Act.put, pt8])
  refine wpAnyH_take (i := 41) (v := ?_) rfl (by kernel_rfl) (by kernel_rfl) (by kernel_rfl) (fun _ _ _ h => h) (Or.inl ⟨by rfl, ?_⟩) (by assumption) ?_
  rotate_left
  · intro w hSw; (try dsimp only at hSw); go_simp; (try with_reducible rfl)
  (try simp only [Act.put, pt8])
  refine wpAnyH_ready (rs := [39]) (by kernel_rfl) (by simp) ?_
  refine AllReadyH.cons rfl (fun K hK => ?_) AllReadyH.nil
  go_simp
  refine (over_any _ (HPZ.out _ (chain HB.out hHeld.2)).v (HO8.out.below hHeld.2 |> fun _ => (HO11.out.below hHeld.2).sv) (Nat.le_refl _) HRP.out HP8.out.1).mono ?_
  rintro e U39 ⟨rfl, hb⟩
  rw [← HOV.out]
  have HBU := Lib.hid (chain hHeld.2 hb)
  refine hK.out _ _ ⟨⟨kc HBU.out x0, kc HBU.out x1, kc HBU.out s0, kc HBU.out s1, kc HBU.out r0, kc HBU.out r1, kc HBU.out o0, kc HBU.out o1, kc HBU.out p0, kc HBU.out p1, trivial⟩, HBU.out⟩ (fun hHeld => ?_)
  clear hK K
  (try simp only [Act.put, pt8])
  clear hb
  refine wpAnyH_ready (rs := [42]) (by kernel_rfl) (by simp) ?_
  refine AllReadyH.cons rfl (fun K hK => ?_) AllReadyH.nil
  go_simp
  refine (rover_any _ (HPZ.out _ (chain HB.out hHeld.2)).v (HO11.out.below hHeld.2).sv (Nat.le_refl _) HRP.out HP8.out.1).mono ?_
  rintro e U42 ⟨rfl, hb⟩
  rw [← HOV.out]
  have HBU := Lib.hid (chain hHeld.2 hb)
  refine hK.out _ _ ⟨⟨kc HBU.out x0, kc HBU.out x1, kc HBU.out s0, kc HBU.out s1, kc HBU.out r0, kc HBU.out r1, kc HBU.out o0, kc HBU.out o1, kc HBU.out p0, kc HBU.out p1, trivial⟩, HBU.out⟩ (fun hHeld => ?_)
  clear hK K
  (try simp only [Act.put, pt8])
  clear hb
  refine wpAnyH_take (i := 43) (v := ?_) rfl (by kernel_rfl) (by kernel_rfl) (by kernel_rfl) (fun _ _ _ h => h) (Or.inl ⟨by rfl, ?_⟩) (by assumption) ?_
  rotate_left
  · intro w hSw; (try dsimp only at hSw); go_simp; (try with_reducible rfl)
  (try simp only [Act.put, pt8])
  refine wpAnyH_take (i := 44) (v := ?_) rfl (by kernel_rfl) (by kernel_rfl) (by kernel_rfl) (fun _ _ _ h => h) (Or.inl ⟨by rfl, ?_⟩) (by assumption) ?_
  rotate_left
  · intro w hSw; (try dsimp only at hSw); go_simp; (try with_reducible rfl)
  (try simp only [Act.put, pt8])
  refine wpAnyH_take (i := 45) (v := ?_) rfl (by kernel_rfl) (by kernel_rfl) (by kernel_rfl) (fun _ _ _ h => h) (Or.inl ⟨by rfl, ?_⟩) (by assumption) ?_
  rotate_left
  · intro w hSw; (try dsimp only at hSw); go_simp; (try with_reducible rfl)
  (try simp only [Act.put, pt8])
  refine wpAnyH_take (i := 46) (v := ?_) rfl (by kernel_rfl) (by kernel_rfl) (by kernel_rfl) (fun _ _ _ h => h) (Or.inl ⟨by rfl, ?_⟩) (by assumption) ?_
  rotate_left
  · intro w hSw; (try dsimp only at hSw); go_simp; (try with_reducible rfl)
  (try simp only [Act.put, pt8])
  refine wpAnyH_take (i := 48) (v := ?_) rfl (by kernel_rfl) (by kernel_rfl) (by kernel_rfl) (fun _ _ _ h => h) (Or.inl ⟨by rfl, ?_⟩) (by assumption) ?_
  rotate_left
  · intro w hSw; (try dsimp only at hSw); go_simp; (try with_reducible rfl)
  (try simp only [Act.put, pt8])
  refine wpAnyH_ready (rs := [47]) (by kernel_rfl) (by simp) ?_
  refine AllReadyH.cons rfl (fun K hK => ?_) AllReadyH.nil
  go_simp
  refine (end_any _ (HO11.out.below hHeld.2).sv (Nat.le_refl _) HP8.out.2).mono ?_
  rintro e U47 ⟨ARa, mRa, cRa, BRa, kRa, eRa, rfl, hm, hn, ho1, ho2, hb⟩
  have HRa := Lib.hid (out_own (o := (s8.mem, endR s8)) hm hn ho1 ho2)
  have HBU := Lib.hid (chain hHeld.2 hb)
  refine hK.out _ _ ⟨⟨kc HBU.out x0, kc HBU.out x1, kc HBU.out s0, kc HBU.out s1, kc HBU.out r0, kc HBU.out r1, kc HBU.out o0, kc HBU.out o1, kc HBU.out p0, kc HBU.out p1, trivial⟩, HBU.out⟩ (fun hHeld => ?_)
  clear hK K
  (try simp only [Act.put, pt8])
  clear hb ho1 ho2 hm hn
  refine wpAnyH_ready (rs := [49]) (by kernel_rfl) (by simp) ?_
  refine AllReadyH.cons rfl (fun K hK => ?_) AllReadyH.nil
  go_simp
  refine (rend_any _ (HO11.out.below hHeld.2).sv (Nat.le_refl _) HP8.out.2).mono ?_
  rintro e U49 ⟨ARb, mRb, cRb, BRb, kRb, eRb, rfl, hm, hn, ho1, ho2, hb⟩
  have HRb := Lib.hid (out_own (o := (s8.mem, endR s8)) hm hn ho1 ho2)
  replace HRa := Lib.hid ((HRa.out.below hb).more hb.size)
  have HBU := Lib.hid (chain hHeld.2 hb)
  refine hK.out _ _ ⟨⟨kc HBU.out x0, kc HBU.out x1, kc HBU.out s0, kc HBU.out s1, kc HBU.out r0, kc HBU.out r1, kc HBU.out o0, kc HBU.out o1, kc HBU.out p0, kc HBU.out p1, trivial⟩, HBU.out⟩ (fun hHeld => ?_)
  clear hK K
  (try simp only [Act.put, pt8])
  clear hb ho1 ho2 hm hn
  refine wpAnyH_ready (rs := [50]) (by kernel_rfl) (by simp) ?_
  refine AllReadyH.cons rfl (fun K hK => ?_) AllReadyH.nil
  go_simp
  refine (osame_any (o := (s8.mem, endR s8)) _ HRa.out HRb.out (Nat.le_refl _)).mono ?_
  rintro e U50 ⟨rfl, hb⟩
  have HBU := Lib.hid (chain hHeld.2 hb)
  refine hK.out _ _ ⟨⟨kc HBU.out x0, kc HBU.out x1, kc HBU.out s0, kc HBU.out s1, kc HBU.out r0, kc HBU.out r1, kc HBU.out o0, kc HBU.out o1, kc HBU.out p0, kc HBU.out p1, trivial⟩, HBU.out⟩ (fun hHeld => ?_)
  clear hK K
  (try simp only [Act.put, pt8])
  clear hb
  refine wpAnyH_take (i := 51) (v := ?_) rfl (by kernel_rfl) (by kernel_rfl) (by kernel_rfl) (fun _ _ _ h => h) (Or.inl ⟨by rfl, ?_⟩) (by assumption) ?_
  rotate_left
  · intro w hSw; (try dsimp only at hSw); go_simp; (try with_reducible rfl)
  (try simp only [Act.put, pt8])
  refine wpAnyH_ready (rs := [52]) (by kernel_rfl) (by simp) ?_
  refine AllReadyH.cons rfl (fun K hK => ?_) AllReadyH.nil
  go_simp
  refine hK.out _ _ hHeld (fun hHeld => ?_)
  clear hK K
  (try simp only [Act.put, pt8])
  refine wpAnyH_done (by kernel_rfl) ?_ _
  clear hHeld x0 x1 s0 s1 r0 r1 o0 o1 p0 p1
  go_wp2
  go_ret
  exact ⟨rfl, chain HB.out HBU.out⟩
end Go.Proofs.Ytbgjamoflbdhoaa
