/-
  LAYER 13: the walk of RunEnd.
-/
import Derived.Test.YtbgjamoflbdhoaaRuT
import Derived.Test.YtbgjamoflbdhoaaScY
import Derived.Test.YtbgjamoflbdhoaaK11
import Derived.Deep.RegionHeld3
import Derived.Deep.DeepCutAuto
namespace Go.Proofs.Ytbgjamoflbdhoaa
open Go.RowKit
set_option linter.unusedVariables false
set_option linter.unusedSimpArgs false
open CodM (St Pg rightP)
open BfM (Wr plc)
open ScM

set_option maxHeartbeats 16000000 in
set_option maxRecDepth 100000 in
theorem runend_any {B : Nat} {v vl : Value} {P : Pg} {l : List (Int × Bool)} {wk : Bool} {b : Nat} (hb8 : b < 256) (w : World) (hv : PgZ B w v P) (hl : KiR B w vl l) (hBB : B ≤ w.heap.size) :
    Calls Try.prog 7 #[v, vl, .bool wk, .int .u8 (b : Int)] w fun e w' => e = .returned (.bool true) ∧ Below w.heap.size w w' := by
  have HPZ := Lib.hid (fun W (hW : Below w.heap.size w W) => (show PgZ W.heap.size W v P from (hv.below (hW.mono hBB)).more (Nat.le_trans hBB hW.size)))
  have HKL := Lib.hid (fun W (hW : Below w.heap.size w W) => (show KiR W.heap.size W vl l from (hl.below (hW.mono hBB)).more (Nat.le_trans hBB hW.size)))
  obtain ⟨pi, pt, rfl, hpm, -⟩ := hv
  obtain ⟨⟨P0, d0, rfl, -⟩, ⟨P1, d1, rfl, l1, l2, l3⟩⟩ := hpm
  obtain ⟨Al, cl, rfl, q1, q2, q0, q3⟩ := hl
  unfold maxLen at l2 q2
  have HL3 := Lib.hid l3
  have HQ3 := Lib.hid q3
  have HQ0 := Lib.hid q0
  clear l3 q3 q0
  obtain ⟨W2, hW2⟩ : ∃ W, W = w.alloc (.cells #[.slice P0 P.init.length d0, .slice P1 P.ths.length d1] 25) := ⟨_, rfl⟩
  obtain ⟨gp, hgp⟩ : ∃ g, g = w.heap.size := ⟨_, rfl⟩
  have HX := Lib.hid (show BoxC W2 gp 25 #[.slice P0 P.init.length d0, .slice P1 P.ths.length d1] from by rw [hW2, hgp]; exact BoxC.new w _ _)
  have HB := Lib.hid (show Below w.heap.size w W2 from by rw [hW2]; exact below_al (Below.refl _ _) _)
  go_enter Try.func7, Try.ntmps7
  go_upto_region 1 with fail
  rw [← hW2]
  (try rw [← hgp])
  clear hW2 hgp
  go_wp2_with fail
  refine (head13_any _).mono ?_
  rintro e V1 ⟨rfl, hb⟩
  have HST := Lib.hid hb
  clear hb
  replace HX := Lib.hid (HX.out.below HST.out HX.out.lt)
  replace HB := Lib.hid (chain HB.out HST.out)
  have x0 := HX.out.cell 0 _ rfl
  have x1 := HX.out.cell 1 _ rfl
  go_wp2_with fail
  refine (great13_any _ (HPZ.out _ HB.out).v (HKL.out _ HB.out) (Nat.le_refl _)).mono ?_
  rintro e V2 ⟨gb, rfl, hg, hb⟩
  replace HST := Lib.hid hb
  clear hb x0 x1
  replace HX := Lib.hid (HX.out.below HST.out HX.out.lt)
  replace HB := Lib.hid (chain HB.out HST.out)
  cases gb
  case true =>
    go_wp2
    go_ret
    exact ⟨rfl, HB.out⟩
  have HRP := Lib.hid (hg rfl).1
  have HLE := Lib.hid (hg rfl).2
  have HN5 := Lib.hid (show l.length ≤ 50000 from Nat.le_trans (hg rfl).2 (by decide))
  clear hg
  have x0 := HX.out.cell 0 _ rfl
  have x1 := HX.out.cell 1 _ rfl
  go_wp2_with fail
  refine (run_any (l := l) wk _ (HPZ.out _ HB.out) (HKL.out _ HB.out) (Nat.le_refl _) HRP.out HN5.out).mono ?_
  rintro e V10 ⟨vm, vt, ps10, rfl, hos, hb⟩
  obtain ⟨⟨s10, n10, a10⟩, hr10⟩ : ∃ r, r = runS P wk (beg P) (l) := ⟨_, rfl⟩
  have HR10 := Lib.hid hr10.symm
  rw [← hr10] at hos ⊢
  clear hr10
  dsimp only at hos ⊢
  obtain ⟨A10, c10, rfl⟩ := own_slice hos.mem
  obtain ⟨B10, e10, rfl⟩ := own_slice hos.ths
  obtain ⟨m10, hm10⟩ : ∃ m, m = s10.mem.length := ⟨_, rfl⟩
  obtain ⟨k10, hk10⟩ : ∃ m, m = s10.ths.length := ⟨_, rfl⟩
  have HM10 := Lib.hid hm10
  have HK10 := Lib.hid hk10
  rw [← hm10, ← hk10] at hos ⊢
  have HO10 := Lib.hid (show OwnSt 0 V10 (.slice A10 m10 c10) (.slice B10 k10 e10) s10 ps10 from hos.base (Nat.zero_le _))
  replace HST := Lib.hid hb
  clear hos hb hm10 hk10 x0 x1
  replace HX := Lib.hid (HX.out.below HST.out HX.out.lt)
  replace HB := Lib.hid (chain HB.out HST.out)
  go_upto_region 5 with fail
  obtain ⟨Z10, hZ⟩ : ∃ W, W = V10.alloc (.cells #[.slice A10 m10 c10, .slice B10 k10 e10] 31) := ⟨_, rfl⟩
  obtain ⟨g10, hg⟩ : ∃ g, g = V10.heap.size := ⟨_, rfl⟩
  have HQ10 := Lib.hid (show BoxC Z10 g10 31 #[.slice A10 m10 c10, .slice B10 k10 e10] from by rw [hZ, hg]; exact BoxC.new V10 _ _)
  replace HST := Lib.hid (show Below V10.heap.size V10 Z10 from by rw [hZ]; exact below_al (Below.refl _ _) _)
  rw [← hZ]
  (try rw [← hg])
  clear hZ hg
  replace HX := Lib.hid (HX.out.below HST.out HX.out.lt)
  replace HO10 := Lib.hid (HO10.out.below HST.out)
  replace HB := Lib.hid (chain HB.out HST.out)
  have HP10 := Lib.hid (show OkSt P s10 ∧ WideS s10 from by
    have h1 := runS_ok HRP.out (wk := wk) (l) (beg_ok P)
    have h2 := wide_run HRP.out wk (l) (n := 50000) HN5.out (by decide)
    rw [HR10.out] at h1 h2
    exact ⟨h1, h2⟩)
  have s0 := HQ10.out.cell 0 _ rfl
  have s1 := HQ10.out.cell 1 _ rfl
  go_wp2_with fail
  refine (end_any _ HO10.out.sv (Nat.le_refl _) HP10.out.2).mono ?_
  rintro e V13 ⟨A13, m13, c13, B13, k13, e13, rfl, hm, hn, ho1, ho2, hb⟩
  have HM13 := Lib.hid hm
  have HN13 := Lib.hid hn
  have HE131 := Lib.hid (show V13.ownsRow 0 3 1 (.slice A13 m13 c13) m13 (s10.mem.flatMap nuC) from by have := own_base ho1 (Nat.zero_le _); unfold OwnI at this; rwa [← hm] at this)
  have HE132 := Lib.hid (show V13.ownsRow 0 3 1 (.slice B13 k13 e13) k13 ((endR s10).flatMap nuC) from by have := own_base ho2 (Nat.zero_le _); unfold OwnI at this; rwa [← hn] at this)
  replace HST := Lib.hid hb
  clear hm hn ho1 ho2 hb s0 s1
  replace HX := Lib.hid (HX.out.below HST.out HX.out.lt)
  replace HQ10 := Lib.hid (HQ10.out.below HST.out HQ10.out.lt)
  replace HO10 := Lib.hid (HO10.out.below HST.out)
  replace HB := Lib.hid (chain HB.out HST.out)
  go_upto_region 6 with fail
  obtain ⟨Z13, hZ⟩ : ∃ W, W = V13.alloc (.cells #[.slice A13 m13 c13, .slice B13 k13 e13] 35) := ⟨_, rfl⟩
  obtain ⟨g13, hg⟩ : ∃ g, g = V13.heap.size := ⟨_, rfl⟩
  have HQ13 := Lib.hid (show BoxC Z13 g13 35 #[.slice A13 m13 c13, .slice B13 k13 e13] from by rw [hZ, hg]; exact BoxC.new V13 _ _)
  replace HST := Lib.hid (show Below V13.heap.size V13 Z13 from by rw [hZ]; exact below_al (Below.refl _ _) _)
  rw [← hZ]
  (try rw [← hg])
  clear hZ hg
  replace HX := Lib.hid (HX.out.below HST.out HX.out.lt)
  replace HQ10 := Lib.hid (HQ10.out.below HST.out HQ10.out.lt)
  replace HE131 := Lib.hid (own_below HE131.out HST.out)
  replace HE132 := Lib.hid (own_below HE132.out HST.out)
  replace HO10 := Lib.hid (HO10.out.below HST.out)
  replace HB := Lib.hid (chain HB.out HST.out)
  have HPK := Lib.hid (right_ths HRP.out)
  have hp1 := HPK.out.2.1
  have hp3 := HPK.out.2.2.1
  have x0 := HX.out.cell 0 _ rfl
  have x1 := HX.out.cell 1 _ rfl
  have s0 := HQ10.out.cell 0 _ rfl
  have s1 := HQ10.out.cell 1 _ rfl
  go_wp2_with fail
  refine (rright_any _ (HPZ.out _ HB.out).v HO10.out.sv (Nat.le_refl _)).mono ?_
  rintro e V14 ⟨d, rfl, hd, hb⟩
  obtain rfl : d = true := hd.2 HP10.out.1
  clear hd
  replace HST := Lib.hid hb
  clear hb x0 x1 s0 s1
  replace HX := Lib.hid (HX.out.below HST.out HX.out.lt)
  replace HQ10 := Lib.hid (HQ10.out.below HST.out HQ10.out.lt)
  replace HQ13 := Lib.hid (HQ13.out.below HST.out HQ13.out.lt)
  replace HE131 := Lib.hid (own_below HE131.out HST.out)
  replace HE132 := Lib.hid (own_below HE132.out HST.out)
  replace HO10 := Lib.hid (HO10.out.below HST.out)
  replace HB := Lib.hid (chain HB.out HST.out)
  have o0 := HQ13.out.cell 0 _ rfl
  have s0 := HQ10.out.cell 0 _ rfl
  go_wp2_with fail
  refine (nsame_any (ns := s10.mem) _ (Rw.own (show OwnI 0 _ _ s10.mem from by unfold OwnI; rw [← HM13.out]; exact HE131.out) (Nat.le_refl _)) (Rw.own (show OwnI 0 _ _ s10.mem from HO10.out.mem) (Nat.le_refl _)) (Nat.le_refl _)).mono ?_
  rintro e V15 ⟨rfl, hb⟩
  replace HST := Lib.hid hb
  clear hb o0 s0
  replace HX := Lib.hid (HX.out.below HST.out HX.out.lt)
  replace HQ10 := Lib.hid (HQ10.out.below HST.out HQ10.out.lt)
  replace HQ13 := Lib.hid (HQ13.out.below HST.out HQ13.out.lt)
  replace HE131 := Lib.hid (own_below HE131.out HST.out)
  replace HE132 := Lib.hid (own_below HE132.out HST.out)
  replace HO10 := Lib.hid (HO10.out.below HST.out)
  replace HB := Lib.hid (chain HB.out HST.out)
  have HEL := Lib.hid (end_len HP10.out.1)
  have hk4 : k13 = 4 * P.ths.length := HN13.out.trans HEL.out
  have hw : IntKind.i64.wrap (4 * (P.ths.length : Int)) = 4 * (P.ths.length : Int) := IntWalk.i64_in _ (by omega)
  have hq : ((k13 : Int) != 4 * (P.ths.length : Int)) = false := by rw [bne_eq_false_iff_eq]; omega
  have HK4 := Lib.hid hk4
  have hpos : 0 < k13 := by omega
  clear hk4
  have o1 := HQ13.out.cell 1 _ rfl
  have x1 := HX.out.cell 1 _ rfl
  go_upto_region 8 with fail
  clear x1 hq hw
  obtain ⟨u, hu⟩ : ∃ u, u = b % k13 := ⟨_, rfl⟩
  have hul : u < k13 := by rw [hu]; exact Nat.mod_lt _ (by omega)
  have hrem : (b : Int).tmod (k13 : Int) = (u : Int) := by rw [hu]; rfl
  have hrem2 : (b : Int) % (k13 : Int) = (u : Int) := by rw [hu]; rfl
  have hz : ¬ k13 = 0 := by omega
  have hz2 : ((k13 : Int) == 0) = false := by rw [beq_eq_false_iff_ne]; omega
  clear hu
  go_upto_region 9 with fail
  clear hz hz2 hrem hrem2 o1
  obtain ⟨u4, hu4⟩ : ∃ a, a = u / 4 := ⟨_, rfl⟩
  obtain ⟨u0, hu0⟩ : ∃ a, a = u % 4 := ⟨_, rfl⟩
  have hq4 : (u : Int).tdiv 4 = (u4 : Int) := by rw [hu4]; rfl
  have hr4 : (u : Int).tmod 4 = (u0 : Int) := by rw [hu0]; rfl
  have hk4 := HK4.out
  have hwa : IntKind.i64.wrap (u4 : Int) = (u4 : Int) := IntWalk.i64_in _ (by omega)
  have hwb : IntKind.i64.wrap (u0 : Int) = (u0 : Int) := IntWalk.i64_in _ (by omega)
  have hs4 : u4 < s10.ths.length := by have := HP10.out.1.ths; omega
  have hr0 : u0 < s10.ths[u4].regs.length := by
    have := (HP10.out.1.th u4 hs4 (by have := HP10.out.1.ths; omega)).regs
    rw [this]; omega
  have hel : u < (endR s10).length := by rw [HEL.out]; omega
  obtain ⟨gt, ct, g2, c2, he, t1, t0⟩ := HO10.out.reg hs4 hr0
  injection he with he1 he2 he3
  subst he1 he3
  have HEV := Lib.hid (show (endR s10)[u] = s10.ths[u4].regs[u0] from by
    have h1 := end_at HP10.out.1 (k := u) (by have := HK4.out; omega) (by rw [← hu4]; exact hs4) (by simp only [← hu4, ← hu0]; exact hr0)
    rw [List.getElem?_eq_getElem hel] at h1
    injection h1 with h1
    rw [h1]
    simp only [← hu4, ← hu0])
  obtain ⟨ge, ce, cur, hge, -, -, hce⟩ := own_nu (show OwnI 0 V15 _ (endR s10) from by unfold OwnI; rw [← HN13.out]; exact HE132.out) hel
  injection hge with hge1 hge2 hge3
  subst hge1
  clear he2 hge2 hge3
  rw [HEV.out] at hce
  have o1 := HQ13.out.cell 1 _ rfl
  have y1 := HQ10.out.cell 1 _ rfl
  obtain ⟨val, hval⟩ : ∃ x, x = s10.ths[u4].regs[u0] := ⟨_, rfl⟩
  obtain ⟨rl, hrl⟩ : ∃ x, x = s10.ths[u4].regs.length := ⟨_, rfl⟩
  rw [← hval] at hce t0
  rw [← hrl] at t1 hr0
  have HK10' := HK10.out
  rw [← HK10'] at hs4
  clear hval hrl hu4 hu0 hel HK10' HEL HEV hk4
  refine wp_region_held_drew (S := (fun w' => (w'.cell? ⟨g13, 1, none⟩ = some (.slice (some ⟨ge, 0, none⟩) k13 e13) ∧ w'.cell? ⟨ge, u, none⟩ = some (.int .i64 val) ∧ w'.cell? ⟨g10, 1, none⟩ = some (.slice (some ⟨gt, 0, none⟩) k10 e10) ∧ w'.cell? ⟨gt, u4 * 4 + 1, none⟩ = some (.slice (some ⟨g2, 0, none⟩) rl c2) ∧ w'.cell? ⟨g2, u0, none⟩ = some (.int .i64 val) ∧ True) ∧ Below V15.heap.size V15 w')) (by kernel_rfl) ⟨⟨o1, hce, y1, t1, t0, trivial⟩, below_drewN (Below.refl _ _) 1⟩ (fun hHeld => ?_)
  obtain ⟨W7, hW7⟩ : ∃ W, W = V15.drew := ⟨_, rfl⟩
  have HX7 := Lib.hid (show Below V15.heap.size V15 W7 from by rw [hW7]; exact below_drewN (Below.refl _ _) 1)
  rw [← hW7] at hHeld ⊢
  clear hW7
  refine wpAnyH_take (i := 0) (v := ?_) rfl (by kernel_rfl) (by kernel_rfl) (by kernel_rfl) (fun _ _ _ h => h) (Or.inl ⟨by rfl, ?_⟩) (by assumption) ?_
  rotate_left
  · intro w hSw; (try dsimp only at hSw); go_simp; (try with_reducible rfl)
  (try simp only [Act.put, pt8])
  refine wpAnyH_take (i := 1) (v := ?_) rfl (by kernel_rfl) (by kernel_rfl) (by kernel_rfl) (fun _ _ _ h => h) (Or.inl ⟨by rfl, ?_⟩) (by assumption) ?_
  rotate_left
  · intro w hSw; (try dsimp only at hSw); go_simp; (try with_reducible rfl)
  (try simp only [Act.put, pt8])
  refine wpAnyH_take (i := 2) (v := ?_) rfl (by kernel_rfl) (by kernel_rfl) (by kernel_rfl) (fun _ _ _ h => h) (Or.inl ⟨by rfl, ?_⟩) (by assumption) ?_
  rotate_left
  · intro w hSw; (try dsimp only at hSw); go_simp; (try with_reducible rfl)
  (try simp only [Act.put, pt8])
  refine wpAnyH_take (i := 3) (v := ?_) rfl (by kernel_rfl) (by kernel_rfl) (by kernel_rfl) (fun _ _ _ h => h) (Or.inl ⟨by rfl, ?_⟩) (by assumption) ?_
  rotate_left
  · intro w hSw; (try dsimp only at hSw); go_simp; (try with_reducible rfl)
  (try simp only [Act.put, pt8])
  refine wpAnyH_take (i := 4) (v := ?_) rfl (by kernel_rfl) (by kernel_rfl) (by kernel_rfl) (fun _ _ _ h => h) (Or.inl ⟨by rfl, ?_⟩) (by assumption) ?_
  rotate_left
  · intro w hSw; (try dsimp only at hSw); go_simp; (try with_reducible rfl)
  (try simp only [Act.put, pt8])
  refine wpAnyH_take (i := 5) (v := ?_) rfl (by kernel_rfl) (by kernel_rfl) (by kernel_rfl) (fun _ _ _ h => h) (Or.inl ⟨by rfl, ?_⟩) (by assumption) ?_
  rotate_left
  · intro w hSw; (try dsimp only at hSw); go_simp; (try with_reducible rfl)
  (try simp only [Act.put, pt8])
  refine wpAnyH_take (i := 6) (v := ?_) rfl (by kernel_rfl) (by kernel_rfl) (by kernel_rfl) (fun _ _ _ h => h) (Or.inl ⟨by rfl, ?_⟩) (by assumption) ?_
  rotate_left
  · intro w hSw; (try dsimp only at hSw); go_simp; (try with_reducible rfl)
  (try simp only [Act.put, pt8])
  refine wpAnyH_take (i := 7) (v := ?_) rfl (by kernel_rfl) (by kernel_rfl) (by kernel_rfl) (fun _ _ _ h => h) (Or.inl ⟨by rfl, ?_⟩) (by assumption) ?_
  rotate_left
  · intro w hSw; (try dsimp only at hSw); go_simp; (try with_reducible rfl)
  (try simp only [Act.put, pt8])
  refine wpAnyH_take (i := 8) (v := ?_) rfl (by kernel_rfl) (by kernel_rfl) (by kernel_rfl) (fun _ _ _ h => h) (Or.inl ⟨by rfl, ?_⟩) (by assumption) ?_
  rotate_left
  · intro w hSw; (try dsimp only at hSw); go_simp; (try with_reducible rfl)
  (try simp only [Act.put, pt8])
  refine wpAnyH_take (i := 9) (v := ?_) rfl (by kernel_rfl) (by kernel_rfl) (by kernel_rfl) (fun _ _ _ h => h) (Or.inl ⟨by rfl, ?_⟩) (by assumption) ?_
  rotate_left
  · intro w hSw; (try dsimp only at hSw); go_simp; (try with_reducible rfl)
  (try simp only [Act.put, pt8])
  refine wpAnyH_take (i := 10) (v := ?_) rfl (by kernel_rfl) (by kernel_rfl) (by kernel_rfl) (fun _ _ _ h => h) (Or.inl ⟨by rfl, ?_⟩) (by assumption) ?_
  rotate_left
  · intro w hSw; (try dsimp only at hSw); go_simp; (try with_reducible rfl)
  (try simp only [Act.put, pt8])
  refine wpAnyH_take (i := 11) (v := ?_) rfl (by kernel_rfl) (by kernel_rfl) (by kernel_rfl) (fun _ _ _ h => h) (Or.inl ⟨by rfl, ?_⟩) (by assumption) ?_
  rotate_left
  · intro w hSw; (try dsimp only at hSw); go_simp; (try with_reducible rfl)
  (try simp only [Act.put, pt8])
  refine wpAnyH_take (i := 12) (v := ?_) rfl (by kernel_rfl) (by kernel_rfl) (by kernel_rfl) (fun _ _ _ h => h) (Or.inl ⟨by rfl, ?_⟩) (by assumption) ?_
  rotate_left
  · intro w hSw; (try dsimp only at hSw); go_simp; (try with_reducible rfl)
  (try simp only [Act.put, pt8])
  refine wpAnyH_take (i := 13) (v := ?_) rfl (by kernel_rfl) (by kernel_rfl) (by kernel_rfl) (fun _ _ _ h => h) (Or.inl ⟨by rfl, ?_⟩) (by assumption) ?_
  rotate_left
  · intro w hSw; (try dsimp only at hSw); go_simp; (try with_reducible rfl)
  (try simp only [Act.put, pt8])
  refine wpAnyH_take (i := 14) (v := ?_) rfl (by kernel_rfl) (by kernel_rfl) (by kernel_rfl) (fun _ _ _ h => h) (Or.inl ⟨by rfl, ?_⟩) (by assumption) ?_
  rotate_left
  · intro w hSw; (try dsimp only at hSw); go_simp; (try with_reducible rfl)
  (try simp only [Act.put, pt8])
  refine wpAnyH_take (i := 15) (v := ?_) rfl (by kernel_rfl) (by kernel_rfl) (by kernel_rfl) (fun _ _ _ h => h) (Or.inl ⟨by rfl, ?_⟩) (by assumption) ?_
  rotate_left
  · intro w hSw; (try dsimp only at hSw); go_simp; (try with_reducible rfl)
  (try simp only [Act.put, pt8])
  refine wpAnyH_take (i := 16) (v := ?_) rfl (by kernel_rfl) (by kernel_rfl) (by kernel_rfl) (fun _ _ _ h => h) (Or.inl ⟨by rfl, ?_⟩) (by assumption) ?_
  rotate_left
  · intro w hSw; (try dsimp only at hSw); go_simp; (try with_reducible rfl)
  (try simp only [Act.put, pt8])
  refine wpAnyH_take (i := 17) (v := ?_) rfl (by kernel_rfl) (by kernel_rfl) (by kernel_rfl) (fun _ _ _ h => h) (Or.inl ⟨by rfl, ?_⟩) (by assumption) ?_
  rotate_left
  · intro w hSw; (try dsimp only at hSw); go_simp; (try with_reducible rfl)
  (try simp only [Act.put, pt8])
  refine wpAnyH_take (i := 18) (v := ?_) rfl (by kernel_rfl) (by kernel_rfl) (by kernel_rfl) (fun _ _ _ h => h) (Or.inl ⟨by rfl, ?_⟩) (by assumption) ?_
  rotate_left
  · intro w hSw; (try dsimp only at hSw); go_simp; (try with_reducible rfl)
  (try simp only [Act.put, pt8])
  refine wpAnyH_take (i := 19) (v := ?_) rfl (by kernel_rfl) (by kernel_rfl) (by kernel_rfl) (fun _ _ _ h => h) (Or.inl ⟨by rfl, ?_⟩) (by assumption) ?_
  rotate_left
  · intro w hSw; (try dsimp only at hSw); go_simp; (try with_reducible rfl)
  (try simp only [Act.put, pt8])
  refine wpAnyH_ready (rs := [20]) (by kernel_rfl) (by simp) ?_
  refine AllReadyH.cons rfl (fun K hK => ?_) AllReadyH.nil
  go_simp
  refine hK.out _ _ hHeld (fun hHeld => ?_)
  clear hK K
  (try simp only [Act.put, pt8])
  refine wpAnyH_done (by kernel_rfl) ?_ _
  clear hHeld o1 hce y1 t1 t0
  go_wp2
  go_ret
  exact ⟨rfl, chain HB.out HX7.out⟩
end Go.Proofs.Ytbgjamoflbdhoaa
