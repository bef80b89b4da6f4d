/-
  LAYER 13: the walk of RunParts.
-/
import Derived.Test.YtbgjamoflbdhoaaRuT
import Derived.Test.YtbgjamoflbdhoaaScX
import Derived.Test.YtbgjamoflbdhoaaScY
import Derived.Test.YtbgjamoflbdhoaaK37
import Derived.Deep.RegionHeld3
import Derived.Deep.DeepCutAuto
namespace Go.Proofs.Ytbgjamoflbdhoaa
open Go.RowKit
set_option linter.unusedVariables false
set_option linter.unusedSimpArgs false
open CodM (St Pg rightP)
open BfM (Wr plc)
open ScM

set_option maxHeartbeats 16000000 in
set_option maxRecDepth 100000 in
theorem runparts_any {B : Nat} {v vl : Value} {P : Pg} {l : List (Int × Bool)} {wk : Bool} {kt : Int} {kd : Bool} (w : World) (hv : PgZ B w v P) (hl : KiR B w vl l) (hBB : B ≤ w.heap.size) :
    Calls Try.prog 4 #[v, vl, .agg #[.int .i64 kt, .bool kd], .bool wk] w fun e w' => e = .returned (.bool true) ∧ Below w.heap.size w w' := by
  have HPZ := Lib.hid (fun W (hW : Below w.heap.size w W) => (show PgZ W.heap.size W v P from (hv.below (hW.mono hBB)).more (Nat.le_trans hBB hW.size)))
  have HKL := Lib.hid (fun W (hW : Below w.heap.size w W) => (show KiR W.heap.size W vl l from (hl.below (hW.mono hBB)).more (Nat.le_trans hBB hW.size)))
  obtain ⟨pi, pt, rfl, hpm, -⟩ := hv
  obtain ⟨⟨P0, d0, rfl, -⟩, ⟨P1, d1, rfl, l1, l2, l3⟩⟩ := hpm
  obtain ⟨Al, cl, rfl, q1, q2, q0, q3⟩ := hl
  unfold maxLen at l2 q2
  have HL3 := Lib.hid l3
  have HQ3 := Lib.hid q3
  have HQ0 := Lib.hid q0
  clear l3 q3 q0
  obtain ⟨W2, hW2⟩ : ∃ W, W = (w.alloc (.cells #[.slice P0 P.init.length d0, .slice P1 P.ths.length d1] 25)).alloc (.cells #[.int .i64 kt, .bool kd] 47) := ⟨_, rfl⟩
  obtain ⟨gk, hgk⟩ : ∃ g, g = w.heap.size + 1 := ⟨_, rfl⟩
  obtain ⟨gp, hgp⟩ : ∃ g, g = w.heap.size := ⟨_, rfl⟩
  have HX := Lib.hid (show BoxC W2 gp 25 #[.slice P0 P.init.length d0, .slice P1 P.ths.length d1] from by rw [hW2, hgp]; exact (BoxC.new w _ _).alloc _)
  have HKX := Lib.hid (show BoxC W2 gk 47 #[.int .i64 kt, .bool kd] from by rw [hW2, hgk]; have := BoxC.new (w.alloc (.cells #[.slice P0 P.init.length d0, .slice P1 P.ths.length d1] 25)) 47 #[.int .i64 kt, .bool kd]; rw [World.size_alloc] at this; exact this)
  have HB := Lib.hid (show Below w.heap.size w W2 from by rw [hW2]; exact below_al (below_al (Below.refl _ _) _) _)
  go_enter Try.func4, Try.ntmps4
  go_upto_region 1 with fail
  rw [← hW2]
  (try rw [← hgk])
  (try rw [← hgp])
  clear hW2 hgp hgk
  go_wp2_with fail
  refine (head13_any _).mono ?_
  rintro e V1 ⟨rfl, hb⟩
  have HST := Lib.hid hb
  clear hb
  replace HX := Lib.hid (HX.out.below HST.out HX.out.lt)
  replace HKX := Lib.hid (HKX.out.below HST.out HKX.out.lt)
  replace HB := Lib.hid (chain HB.out HST.out)
  have x0 := HX.out.cell 0 _ rfl
  have x1 := HX.out.cell 1 _ rfl
  go_wp2_with fail
  refine (great13_any _ (HPZ.out _ HB.out).v (HKL.out _ HB.out) (Nat.le_refl _)).mono ?_
  rintro e V2 ⟨gb, rfl, hg, hb⟩
  replace HST := Lib.hid hb
  clear hb x0 x1
  replace HX := Lib.hid (HX.out.below HST.out HX.out.lt)
  replace HKX := Lib.hid (HKX.out.below HST.out HKX.out.lt)
  replace HB := Lib.hid (chain HB.out HST.out)
  cases gb
  case true =>
    go_wp2
    go_ret
    exact ⟨rfl, HB.out⟩
  have HRP := Lib.hid (hg rfl).1
  have HLE := Lib.hid (hg rfl).2
  have HN5 := Lib.hid (show l.length ≤ 50000 from Nat.le_trans (hg rfl).2 (by decide))
  clear hg
  have x0 := HX.out.cell 0 _ rfl
  have x1 := HX.out.cell 1 _ rfl
  go_wp2_with fail
  refine (run_any (l := l) wk _ (HPZ.out _ HB.out) (HKL.out _ HB.out) (Nat.le_refl _) HRP.out HN5.out).mono ?_
  rintro e V10 ⟨vm, vt, ps10, rfl, hos, hb⟩
  obtain ⟨⟨s10, n10, a10⟩, hr10⟩ : ∃ r, r = runS P wk (beg P) (l) := ⟨_, rfl⟩
  have HR10 := Lib.hid hr10.symm
  rw [← hr10] at hos ⊢
  clear hr10
  dsimp only at hos ⊢
  obtain ⟨A10, c10, rfl⟩ := own_slice hos.mem
  obtain ⟨B10, e10, rfl⟩ := own_slice hos.ths
  obtain ⟨m10, hm10⟩ : ∃ m, m = s10.mem.length := ⟨_, rfl⟩
  obtain ⟨k10, hk10⟩ : ∃ m, m = s10.ths.length := ⟨_, rfl⟩
  have HM10 := Lib.hid hm10
  have HK10 := Lib.hid hk10
  rw [← hm10, ← hk10] at hos ⊢
  have HO10 := Lib.hid (show OwnSt 0 V10 (.slice A10 m10 c10) (.slice B10 k10 e10) s10 ps10 from hos.base (Nat.zero_le _))
  replace HST := Lib.hid hb
  clear hos hb hm10 hk10 x0 x1
  replace HX := Lib.hid (HX.out.below HST.out HX.out.lt)
  replace HKX := Lib.hid (HKX.out.below HST.out HKX.out.lt)
  replace HB := Lib.hid (chain HB.out HST.out)
  go_upto_region 5 with fail
  obtain ⟨Z10, hZ⟩ : ∃ W, W = V10.alloc (.cells #[.slice A10 m10 c10, .slice B10 k10 e10] 31) := ⟨_, rfl⟩
  obtain ⟨g10, hg⟩ : ∃ g, g = V10.heap.size := ⟨_, rfl⟩
  have HQ10 := Lib.hid (show BoxC Z10 g10 31 #[.slice A10 m10 c10, .slice B10 k10 e10] from by rw [hZ, hg]; exact BoxC.new V10 _ _)
  replace HST := Lib.hid (show Below V10.heap.size V10 Z10 from by rw [hZ]; exact below_al (Below.refl _ _) _)
  rw [← hZ]
  (try rw [← hg])
  clear hZ hg
  replace HX := Lib.hid (HX.out.below HST.out HX.out.lt)
  replace HKX := Lib.hid (HKX.out.below HST.out HKX.out.lt)
  replace HO10 := Lib.hid (HO10.out.below HST.out)
  replace HB := Lib.hid (chain HB.out HST.out)
  have HP10 := Lib.hid (show OkSt P s10 ∧ WideS s10 from by
    have h1 := runS_ok HRP.out (wk := wk) (l) (beg_ok P)
    have h2 := wide_run HRP.out wk (l) (n := 50000) HN5.out (by decide)
    rw [HR10.out] at h1 h2
    exact ⟨h1, h2⟩)
  have HMY := Lib.hid (runS_many (P := P) (wk := wk) l (beg P))
  rw [HR10.out] at HMY
  dsimp only at HMY
  obtain ⟨⟨s13, n13, a13⟩, hr13⟩ : ∃ r, r = runS P wk (beg P) (l ++ [(kt, kd)]) := ⟨_, rfl⟩
  have HR13 := Lib.hid hr13.symm
  have HN6 := Lib.hid (show (l ++ [(kt, kd)]).length ≤ 50000 from by rw [List.length_append]; have := HLE.out; simp; omega)
  clear hr13
  obtain ⟨i0, hi, hz0, hz1, hz2⟩ := info_parts info_pk
  obtain ⟨ln, hln⟩ : ∃ n, n = l.length := ⟨_, rfl⟩
  have HLN := Lib.hid hln
  have hln120 : ln ≤ 120 := by rw [hln]; exact HLE.out
  have HSRC := Lib.hid (fun W (hW : Below w.heap.size w W) => src_rw (W := W) kiC_len HQ0.out HQ3.out (hW.mono hBB))
  rw [← hln] at q1 HQ0
  rw [← hln]
  clear hln
  have x0 := HX.out.cell 0 _ rfl
  have x1 := HX.out.cell 1 _ rfl
  have k0 := HKX.out.cell 0 _ rfl
  have k1 := HKX.out.cell 1 _ rfl
  go_upto_region 5 with fail
  go_cut [13, 14, 15] (fun vb vn va wx => ∃ (g : Nat) (A : Option Addr) (c : Nat) (D : Option Addr) (e : Nat) (ps : List TV), vb = .pointer (some ⟨g, 0, none⟩) ∧ vn = .int .i64 (n13 : Nat) ∧ va = .bool a13 ∧ BoxC wx g 31 #[.slice A s13.mem.length c, .slice D s13.ths.length e] ∧ OwnSt 0 wx (.slice A s13.mem.length c) (.slice D s13.ths.length e) s13 ps ∧ Below Z10.heap.size Z10 wx)
  case first =>
    have HQ00 := Lib.hid (show Al = none → l.length = 0 ∧ cl = 0 from by rw [← HLN.out]; exact HQ0.out)
    refine wp_region_held_drew (S := (fun w' => (w'.cell? ⟨gp, 0, none⟩ = some (.slice P0 P.init.length d0) ∧ w'.cell? ⟨gp, 1, none⟩ = some (.slice P1 P.ths.length d1) ∧ w'.cell? ⟨gk, 0, none⟩ = some (.int .i64 kt) ∧ w'.cell? ⟨gk, 1, none⟩ = some (.bool kd) ∧ True) ∧ Below Z10.heap.size Z10 w')) (by kernel_rfl) ⟨⟨x0, x1, k0, k1, trivial⟩, below_drewN (Below.refl _ _) 1⟩ (fun hHeld => ?_)
    obtain ⟨Xs, hXs⟩ : ∃ W, W = Z10.drew := ⟨_, rfl⟩
    have HXs := Lib.hid (show Below Z10.heap.size Z10 Xs from by rw [hXs]; exact below_drewN (Below.refl _ _) 1)
    rw [← hXs] at hHeld ⊢
    clear hXs
    have HSC := Lib.hid (show Z10.heap.size ≤ Xs.heap.size from HXs.out.size)
    refine wpAnyH_take (i := 0) (v := ?_) rfl (by kernel_rfl) (by kernel_rfl) (by kernel_rfl) (fun _ _ _ h => h) (Or.inl ⟨by rfl, ?_⟩) (by assumption) ?_
    rotate_left
    · intro w hSw; (try dsimp only at hSw); go_simp; (try with_reducible rfl)
    (try simp only [Act.put, pt8])
    refine wpAnyH_take (i := 2) (v := ?_) rfl (by kernel_rfl) (by kernel_rfl) (by kernel_rfl) (fun _ _ _ h => h) (Or.inl ⟨by rfl, ?_⟩) (by assumption) ?_
    rotate_left
    · intro w hSw; (try dsimp only at hSw); go_simp; (try with_reducible rfl)
    (try simp only [Act.put, pt8])
    refine wpAnyH_take (i := 4) (v := ?_) rfl (by kernel_rfl) (by kernel_rfl) (by kernel_rfl) (fun _ _ _ h => h) (Or.inl ⟨by rfl, ?_⟩) (by assumption) ?_
    rotate_left
    · intro w hSw; (try dsimp only at hSw); go_simp; (try with_reducible rfl)
    (try simp only [Act.put, pt8])
    refine wpAnyH_take (i := 7) (v := ?_) rfl (by kernel_rfl) (by kernel_rfl) (by kernel_rfl) (fun _ _ _ h => h) (Or.inl ⟨by rfl, ?_⟩) (by assumption) ?_
    rotate_left
    · intro w hSw; (try dsimp only at hSw); go_simp; (try with_reducible rfl)
    (try simp only [Act.put, pt8])
    refine wpAnyH_ready (rs := [1, 5, 13]) (by kernel_rfl) (by simp) ?_
    refine AllReadyH.cons rfl (fun K hK => ?_) (AllReadyH.cons rfl (fun K hK => ?_) (AllReadyH.cons rfl (fun K hK => ?_) (AllReadyH.nil)))
    · -- 1 first
      have HBA := Lib.hid (hHeld.2.alloc hHeld.2.size (.cells #[] 47))
      go_simp
      refine hK.out _ _ ⟨⟨kc HBA.out x0, kc HBA.out x1, kc HBA.out k0, kc HBA.out k1, trivial⟩, HBA.out⟩ (fun hHeld => ?_)
      clear hK K
      (try simp only [Act.put, pt8])
      have HAL := Lib.hid (below_al (Below.refl Xs.heap.size Xs) (.cells #[] 47))
      obtain ⟨X1, hXn⟩ : ∃ W, W = Xs.alloc (.cells #[] 47) := ⟨_, rfl⟩
      obtain ⟨g1, hgn⟩ : ∃ g, g = Xs.heap.size := ⟨_, rfl⟩
      have HSZ := Lib.hid (show Z10.heap.size ≤ g1 from by rw [hgn]; exact HSC.out)
      have HOn := Lib.hid (show X1.ownsRow Z10.heap.size 47 2 (.slice (some ⟨g1, 0, none⟩) 0 0) 0 [] from by rw [hXn, hgn]; exact World.ownsRow_lit (base := Z10.heap.size) (e := 47) (size := 2) Xs #[] 0 HSC.out (by decide) rfl)
      rw [← hXn] at hHeld HBA HAL ⊢
      (try rw [← hgn])
      have HOr := HOn
      clear HOn
      replace HSC := Lib.hid (show Z10.heap.size ≤ X1.heap.size from HBA.out.size)
      clear hXn hgn HAL HSZ HBA
      refine wpAnyH_ready (rs := [3, 5, 13]) (by kernel_rfl) (by simp) ?_
      refine AllReadyH.cons rfl (fun K hK => ?_) (AllReadyH.cons rfl (fun K hK => ?_) (AllReadyH.cons rfl (fun K hK => ?_) (AllReadyH.nil)))
      · -- 3 first
        refine step_append_src (by rfl) _ _ _ (by rfl) Z10.heap.size 47 i0 (.agg #[.int .i64 0, .bool false]) 2 16 Try.underlying26 hi hz0 hz1 hz2 (by rfl) (by decide) _ 0 [] (by rfl) HOr.out Al ln cl (l.flatMap kiC) (by rfl) (by rw [HLN.out]; exact fl_len kiC_len l) (fun h => by rw [HLN.out]; exact HQ00.out h) (HSRC.out _ (HB.out.trans (hHeld.2.mono HB.out.size))) (one_ki l) (by unfold maxLen; omega) (by omega) HSC.out (fun v2 X3 hown hg => ?_)
        rw [Nat.zero_add, List.nil_append] at hown
        obtain ⟨A3r, c3r, rfl⟩ := own_slice hown
        have HBA := Lib.hid (below_append hHeld.2 HOr.out (Nat.le_refl _) HSC.out hg)
        replace HOr := Lib.hid hown
        replace HSC := Lib.hid (show Z10.heap.size ≤ X3.heap.size from HBA.out.size)
        clear hown hg
        refine hK.out _ _ ⟨⟨kc HBA.out x0, kc HBA.out x1, kc HBA.out k0, kc HBA.out k1, trivial⟩, HBA.out⟩ (fun hHeld => ?_)
        clear hK K
        (try simp only [Act.put, pt8])
        clear HBA
        refine wpAnyH_ready (rs := [5, 13]) (by kernel_rfl) (by simp) ?_
        refine AllReadyH.cons rfl (fun K hK => ?_) (AllReadyH.cons rfl (fun K hK => ?_) (AllReadyH.nil))
        · -- 5 first
          have HBA := Lib.hid (hHeld.2.alloc hHeld.2.size (.cells #[.int .i64 kt, .bool kd] 47))
          go_simp
          refine hK.out _ _ ⟨⟨kc HBA.out x0, kc HBA.out x1, kc HBA.out k0, kc HBA.out k1, trivial⟩, HBA.out⟩ (fun hHeld => ?_)
          clear hK K
          (try simp only [Act.put, pt8])
          have HAL := Lib.hid (below_al (Below.refl X3.heap.size X3) (.cells #[.int .i64 kt, .bool kd] 47))
          obtain ⟨X5, hXn⟩ : ∃ W, W = X3.alloc (.cells #[.int .i64 kt, .bool kd] 47) := ⟨_, rfl⟩
          obtain ⟨gl, hgn⟩ : ∃ g, g = X3.heap.size := ⟨_, rfl⟩
          have HSZ := Lib.hid (show Z10.heap.size ≤ gl from by rw [hgn]; exact HSC.out)
          have HLn := Lib.hid (show BoxC X5 gl 47 #[.int .i64 kt, .bool kd] from by rw [hXn, hgn]; exact BoxC.new X3 _ _)
          rw [← hXn] at hHeld HBA HAL ⊢
          (try rw [← hgn])
          replace HOr := Lib.hid (own_below HOr.out HAL.out)
          have HLk := HLn
          clear HLn
          replace HSC := Lib.hid (show Z10.heap.size ≤ X5.heap.size from HBA.out.size)
          clear hXn hgn HAL HSZ HBA
          refine wpAnyH_ready (rs := [6, 13]) (by kernel_rfl) (by simp) ?_
          refine AllReadyH.cons rfl (fun K hK => ?_) (AllReadyH.cons rfl (fun K hK => ?_) (AllReadyH.nil))
          · -- 6 first
            refine step_append_src (by rfl) _ _ _ (by rfl) Z10.heap.size 47 i0 (.agg #[.int .i64 0, .bool false]) 2 16 Try.underlying26 hi hz0 hz1 hz2 (by rfl) (by decide) _ ln (l.flatMap kiC) (by rfl) HOr.out (some ⟨gl, 0, none⟩) 1 1 [.int .i64 kt, .bool kd] (by rfl) (by rfl) (fun c => (by cases c)) (lit_new HLk.out) (by simp [Value.oneCell']) (by unfold maxLen; omega) (by omega) HSC.out (fun v2 X6 hown hg => ?_)
            obtain ⟨A6r, c6r, rfl⟩ := own_slice hown
            have HBA := Lib.hid (below_append hHeld.2 HOr.out (Nat.le_refl _) HSC.out hg)
            replace HOr := Lib.hid hown
            replace HSC := Lib.hid (show Z10.heap.size ≤ X6.heap.size from HBA.out.size)
            clear hown hg
            refine hK.out _ _ ⟨⟨kc HBA.out x0, kc HBA.out x1, kc HBA.out k0, kc HBA.out k1, trivial⟩, HBA.out⟩ (fun hHeld => ?_)
            clear hK K
            (try simp only [Act.put, pt8])
            clear HBA
            refine wpAnyH_ready (rs := [8, 13]) (by kernel_rfl) (by simp) ?_
            refine AllReadyH.cons rfl (fun K hK => ?_) (AllReadyH.cons rfl (fun K hK => ?_) (AllReadyH.nil))
            · -- 8 first
              go_simp
              refine (run_any (l := l ++ [(kt, kd)]) wk _ (HPZ.out _ (chain HB.out hHeld.2)) (Rw.own (show OwnKi _ _ _ (l ++ [(kt, kd)]) from by unfold OwnKi; rw [show (l ++ [(kt, kd)]).length = ln + 1 from by rw [List.length_append, HLN.out]; rfl, List.flatMap_append]; exact HOr.out) (Nat.le_refl _)) (Nat.le_refl _) HRP.out HN6.out).mono ?_
              rintro e X8 ⟨vm, vt, ps13, rfl, hos, hb⟩
              rw [HR13.out] at hos ⊢
              dsimp only at hos ⊢
              obtain ⟨A13, c13, rfl⟩ := own_slice hos.mem
              obtain ⟨B13, e13, rfl⟩ := own_slice hos.ths
              have HOs := Lib.hid (show OwnSt 0 X8 _ _ s13 ps13 from hos.base (Nat.zero_le _))
              have HBA := Lib.hid (chain hHeld.2 hb)
              replace HSC := Lib.hid (show Z10.heap.size ≤ X8.heap.size from HBA.out.size)
              refine hK.out _ _ ⟨⟨kc HBA.out x0, kc HBA.out x1, kc HBA.out k0, kc HBA.out k1, trivial⟩, HBA.out⟩ (fun hHeld => ?_)
              clear hK K
              (try simp only [Act.put, pt8])
              clear hb hos HBA HOr HLk
              refine wpAnyH_take (i := 9) (v := ?_) rfl (by kernel_rfl) (by kernel_rfl) (by kernel_rfl) (fun _ _ _ h => h) (Or.inl ⟨by rfl, ?_⟩) (by assumption) ?_
              rotate_left
              · intro w hSw; (try dsimp only at hSw); go_simp; (try with_reducible rfl)
              (try simp only [Act.put, pt8])
              refine wpAnyH_take (i := 10) (v := ?_) rfl (by kernel_rfl) (by kernel_rfl) (by kernel_rfl) (fun _ _ _ h => h) (Or.inl ⟨by rfl, ?_⟩) (by assumption) ?_
              rotate_left
              · intro w hSw; (try dsimp only at hSw); go_simp; (try with_reducible rfl)
              (try simp only [Act.put, pt8])
              refine wpAnyH_take (i := 11) (v := ?_) rfl (by kernel_rfl) (by kernel_rfl) (by kernel_rfl) (fun _ _ _ h => h) (Or.inl ⟨by rfl, ?_⟩) (by assumption) ?_
              rotate_left
              · intro w hSw; (try dsimp only at hSw); go_simp; (try with_reducible rfl)
              (try simp only [Act.put, pt8])
              refine wpAnyH_take (i := 12) (v := ?_) rfl (by kernel_rfl) (by kernel_rfl) (by kernel_rfl) (fun _ _ _ h => h) (Or.inl ⟨by rfl, ?_⟩) (by assumption) ?_
              rotate_left
              · intro w hSw; (try dsimp only at hSw); go_simp; (try with_reducible rfl)
              (try simp only [Act.put, pt8])
              refine wpAnyH_ready (rs := [13]) (by kernel_rfl) (by simp) ?_
              refine AllReadyH.cons rfl (fun K hK => ?_) AllReadyH.nil
              have HBA := Lib.hid (hHeld.2.alloc hHeld.2.size (.cells #[.slice none 0 0, .slice none 0 0] 31))
              go_simp
              refine hK.out _ _ ⟨⟨kc HBA.out x0, kc HBA.out x1, kc HBA.out k0, kc HBA.out k1, trivial⟩, HBA.out⟩ (fun hHeld => ?_)
              clear hK K
              (try simp only [Act.put, pt8])
              have HAL := Lib.hid (below_al (Below.refl X8.heap.size X8) (.cells #[.slice none 0 0, .slice none 0 0] 31))
              obtain ⟨Xd, hXn⟩ : ∃ W, W = X8.alloc (.cells #[.slice none 0 0, .slice none 0 0] 31) := ⟨_, rfl⟩
              obtain ⟨ga, hgn⟩ : ∃ g, g = X8.heap.size := ⟨_, rfl⟩
              have HSZ := Lib.hid (show Z10.heap.size ≤ ga from by rw [hgn]; exact HSC.out)
              have HQn := Lib.hid (show BoxC Xd ga 31 #[.slice none 0 0, .slice none 0 0] from by rw [hXn, hgn]; exact BoxC.new X8 _ _)
              rw [← hXn] at hHeld HBA HAL ⊢
              (try rw [← hgn])
              replace HOs := Lib.hid (HOs.out.below HAL.out)
              have HQa := HQn
              have HGA := HSZ
              clear HQn
              replace HSC := Lib.hid (show Z10.heap.size ≤ Xd.heap.size from HBA.out.size)
              clear hXn hgn HAL HSZ HBA
              refine wpAnyH_ready (rs := [14]) (by kernel_rfl) (by simp) ?_
              refine AllReadyH.cons rfl (fun K hK => ?_) AllReadyH.nil
              have z0 := HQa.out.cell 0 _ rfl
              have z1 := HQa.out.cell 1 _ rfl
              have u0 := HQa.out.frozen 0
              have u1 := HQa.out.frozen 1
              have HBS2 := Lib.hid (show Below Z10.heap.size Z10 ((Xd.setCell ⟨ga, 0, none⟩ (.slice A13 s13.mem.length c13)).setCell ⟨ga, 1, none⟩ (.slice B13 s13.ths.length e13)) from (hHeld.2.setCell (p := ⟨ga, 0, none⟩) HGA.out _).setCell (p := ⟨ga, 1, none⟩) HGA.out _)
              have HQS := Lib.hid (show BoxC ((Xd.setCell ⟨ga, 0, none⟩ (.slice A13 s13.mem.length c13)).setCell ⟨ga, 1, none⟩ (.slice B13 s13.ths.length e13)) ga 31 #[(.slice A13 s13.mem.length c13), (.slice B13 s13.ths.length e13)] from (HQa.out.set 0 _).set 1 _)
              have HOS := Lib.hid (show OwnSt 0 ((Xd.setCell ⟨ga, 0, none⟩ (.slice A13 s13.mem.length c13)).setCell ⟨ga, 1, none⟩ (.slice B13 s13.ths.length e13)) (.slice A13 s13.mem.length c13) (.slice B13 s13.ths.length e13) s13 ps13 from (HOs.out.box HQa.out (by decide) (by decide) (by decide) 0 _).box (HQa.out.set 0 _) (by decide) (by decide) (by decide) 1 _)
              go_simp
              refine hK.out _ _ ⟨⟨kc HBS2.out x0, kc HBS2.out x1, kc HBS2.out k0, kc HBS2.out k1, trivial⟩, HBS2.out⟩ (fun hHeld => ?_)
              clear z0 z1 u0 u1
              clear hK K
              (try simp only [Act.put, pt8])
              refine wpAnyH_ready (rs := [15]) (by kernel_rfl) (by simp) ?_
              refine AllReadyH.cons rfl (fun K hK => ?_) AllReadyH.nil
              go_simp
              refine hK.out _ _ hHeld (fun hHeld => ?_)
              clear hK K
              (try simp only [Act.put, pt8])
              refine wpAnyH_ready (rs := [16]) (by kernel_rfl) (by simp) ?_
              refine AllReadyH.cons rfl (fun K hK => ?_) AllReadyH.nil
              go_simp
              refine hK.out _ _ hHeld (fun hHeld => ?_)
              clear hK K
              (try simp only [Act.put, pt8])
              refine wpAnyH_done (by kernel_rfl) ?_ _
              clear hHeld
              go_wp2_with fail
              go_meet
              exact ⟨ga, A13, c13, B13, e13, ps13, rfl, rfl, rfl, HQS.out, HOS.out, HBS2.out⟩
            · -- 13 first
              have HBA := Lib.hid (hHeld.2.alloc hHeld.2.size (.cells #[.slice none 0 0, .slice none 0 0] 31))
              go_simp
              refine hK.out _ _ ⟨⟨kc HBA.out x0, kc HBA.out x1, kc HBA.out k0, kc HBA.out k1, trivial⟩, HBA.out⟩ (fun hHeld => ?_)
              clear hK K
              (try simp only [Act.put, pt8])
              have HAL := Lib.hid (below_al (Below.refl X6.heap.size X6) (.cells #[.slice none 0 0, .slice none 0 0] 31))
              obtain ⟨Xd, hXn⟩ : ∃ W, W = X6.alloc (.cells #[.slice none 0 0, .slice none 0 0] 31) := ⟨_, rfl⟩
              obtain ⟨ga, hgn⟩ : ∃ g, g = X6.heap.size := ⟨_, rfl⟩
              have HSZ := Lib.hid (show Z10.heap.size ≤ ga from by rw [hgn]; exact HSC.out)
              have HQn := Lib.hid (show BoxC Xd ga 31 #[.slice none 0 0, .slice none 0 0] from by rw [hXn, hgn]; exact BoxC.new X6 _ _)
              skip
              rw [← hXn] at hHeld HBA HAL ⊢
              (try rw [← hgn])
              replace HOr := Lib.hid (own_below HOr.out HAL.out)
              have HQa := HQn
              have HGA := HSZ
              clear HQn
              replace HSC := Lib.hid (show Z10.heap.size ≤ Xd.heap.size from HBA.out.size)
              clear hXn hgn HAL HSZ HBA
              refine wpAnyH_ready (rs := [8]) (by kernel_rfl) (by simp) ?_
              refine AllReadyH.cons rfl (fun K hK => ?_) AllReadyH.nil
              go_simp
              refine (run_any (l := l ++ [(kt, kd)]) wk _ (HPZ.out _ (chain HB.out hHeld.2)) (Rw.own (show OwnKi _ _ _ (l ++ [(kt, kd)]) from by unfold OwnKi; rw [show (l ++ [(kt, kd)]).length = ln + 1 from by rw [List.length_append, HLN.out]; rfl, List.flatMap_append]; exact HOr.out) (Nat.le_refl _)) (Nat.le_refl _) HRP.out HN6.out).mono ?_
              rintro e X8 ⟨vm, vt, ps13, rfl, hos, hb⟩
              rw [HR13.out] at hos ⊢
              dsimp only at hos ⊢
              obtain ⟨A13, c13, rfl⟩ := own_slice hos.mem
              obtain ⟨B13, e13, rfl⟩ := own_slice hos.ths
              have HOs := Lib.hid (show OwnSt 0 X8 _ _ s13 ps13 from hos.base (Nat.zero_le _))
              have HBA := Lib.hid (chain hHeld.2 hb)
              replace HQa := Lib.hid (HQa.out.below hb HQa.out.lt)
              replace HSC := Lib.hid (show Z10.heap.size ≤ X8.heap.size from HBA.out.size)
              refine hK.out _ _ ⟨⟨kc HBA.out x0, kc HBA.out x1, kc HBA.out k0, kc HBA.out k1, trivial⟩, HBA.out⟩ (fun hHeld => ?_)
              clear hK K
              (try simp only [Act.put, pt8])
              clear hb hos HBA HOr HLk
              refine wpAnyH_take (i := 9) (v := ?_) rfl (by kernel_rfl) (by kernel_rfl) (by kernel_rfl) (fun _ _ _ h => h) (Or.inl ⟨by rfl, ?_⟩) (by assumption) ?_
              rotate_left
              · intro w hSw; (try dsimp only at hSw); go_simp; (try with_reducible rfl)
              (try simp only [Act.put, pt8])
              refine wpAnyH_take (i := 10) (v := ?_) rfl (by kernel_rfl) (by kernel_rfl) (by kernel_rfl) (fun _ _ _ h => h) (Or.inl ⟨by rfl, ?_⟩) (by assumption) ?_
              rotate_left
              · intro w hSw; (try dsimp only at hSw); go_simp; (try with_reducible rfl)
              (try simp only [Act.put, pt8])
              refine wpAnyH_take (i := 11) (v := ?_) rfl (by kernel_rfl) (by kernel_rfl) (by kernel_rfl) (fun _ _ _ h => h) (Or.inl ⟨by rfl, ?_⟩) (by assumption) ?_
              rotate_left
              · intro w hSw; (try dsimp only at hSw); go_simp; (try with_reducible rfl)
              (try simp only [Act.put, pt8])
              refine wpAnyH_take (i := 12) (v := ?_) rfl (by kernel_rfl) (by kernel_rfl) (by kernel_rfl) (fun _ _ _ h => h) (Or.inl ⟨by rfl, ?_⟩) (by assumption) ?_
              rotate_left
              · intro w hSw; (try dsimp only at hSw); go_simp; (try with_reducible rfl)
              (try simp only [Act.put, pt8])
              refine wpAnyH_ready (rs := [14]) (by kernel_rfl) (by simp) ?_
              refine AllReadyH.cons rfl (fun K hK => ?_) AllReadyH.nil
              have z0 := HQa.out.cell 0 _ rfl
              have z1 := HQa.out.cell 1 _ rfl
              have u0 := HQa.out.frozen 0
              have u1 := HQa.out.frozen 1
              have HBS2 := Lib.hid (show Below Z10.heap.size Z10 ((X8.setCell ⟨ga, 0, none⟩ (.slice A13 s13.mem.length c13)).setCell ⟨ga, 1, none⟩ (.slice B13 s13.ths.length e13)) from (hHeld.2.setCell (p := ⟨ga, 0, none⟩) HGA.out _).setCell (p := ⟨ga, 1, none⟩) HGA.out _)
              have HQS := Lib.hid (show BoxC ((X8.setCell ⟨ga, 0, none⟩ (.slice A13 s13.mem.length c13)).setCell ⟨ga, 1, none⟩ (.slice B13 s13.ths.length e13)) ga 31 #[(.slice A13 s13.mem.length c13), (.slice B13 s13.ths.length e13)] from (HQa.out.set 0 _).set 1 _)
              have HOS := Lib.hid (show OwnSt 0 ((X8.setCell ⟨ga, 0, none⟩ (.slice A13 s13.mem.length c13)).setCell ⟨ga, 1, none⟩ (.slice B13 s13.ths.length e13)) (.slice A13 s13.mem.length c13) (.slice B13 s13.ths.length e13) s13 ps13 from (HOs.out.box HQa.out (by decide) (by decide) (by decide) 0 _).box (HQa.out.set 0 _) (by decide) (by decide) (by decide) 1 _)
              go_simp
              refine hK.out _ _ ⟨⟨kc HBS2.out x0, kc HBS2.out x1, kc HBS2.out k0, kc HBS2.out k1, trivial⟩, HBS2.out⟩ (fun hHeld => ?_)
              clear z0 z1 u0 u1
              clear hK K
              (try simp only [Act.put, pt8])
              refine wpAnyH_ready (rs := [15]) (by kernel_rfl) (by simp) ?_
              refine AllReadyH.cons rfl (fun K hK => ?_) AllReadyH.nil
              go_simp
              refine hK.out _ _ hHeld (fun hHeld => ?_)
              clear hK K
              (try simp only [Act.put, pt8])
              refine wpAnyH_ready (rs := [16]) (by kernel_rfl) (by simp) ?_
              refine AllReadyH.cons rfl (fun K hK => ?_) AllReadyH.nil
              go_simp
              refine hK.out _ _ hHeld (fun hHeld => ?_)
              clear hK K
              (try simp only [Act.put, pt8])
              refine wpAnyH_done (by kernel_rfl) ?_ _
              clear hHeld
              go_wp2_with fail
              go_meet
              exact ⟨ga, A13, c13, B13, e13, ps13, rfl, rfl, rfl, HQS.out, HOS.out, HBS2.out⟩
          · -- 13 first
            have HBA := Lib.hid (hHeld.2.alloc hHeld.2.size (.cells #[.slice none 0 0, .slice none 0 0] 31))
            go_simp
            refine hK.out _ _ ⟨⟨kc HBA.out x0, kc HBA.out x1, kc HBA.out k0, kc HBA.out k1, trivial⟩, HBA.out⟩ (fun hHeld => ?_)
            clear hK K
            (try simp only [Act.put, pt8])
            have HAL := Lib.hid (below_al (Below.refl X5.heap.size X5) (.cells #[.slice none 0 0, .slice none 0 0] 31))
            obtain ⟨Xd, hXn⟩ : ∃ W, W = X5.alloc (.cells #[.slice none 0 0, .slice none 0 0] 31) := ⟨_, rfl⟩
            obtain ⟨ga, hgn⟩ : ∃ g, g = X5.heap.size := ⟨_, rfl⟩
            have HSZ := Lib.hid (show Z10.heap.size ≤ ga from by rw [hgn]; exact HSC.out)
            have HQn := Lib.hid (show BoxC Xd ga 31 #[.slice none 0 0, .slice none 0 0] from by rw [hXn, hgn]; exact BoxC.new X5 _ _)
            skip
            rw [← hXn] at hHeld HBA HAL ⊢
            (try rw [← hgn])
            replace HOr := Lib.hid (own_below HOr.out HAL.out)
            replace HLk := Lib.hid (HLk.out.below HAL.out HLk.out.lt)
            have HQa := HQn
            have HGA := HSZ
            clear HQn
            replace HSC := Lib.hid (show Z10.heap.size ≤ Xd.heap.size from HBA.out.size)
            clear hXn hgn HAL HSZ HBA
            refine wpAnyH_ready (rs := [6]) (by kernel_rfl) (by simp) ?_
            refine AllReadyH.cons rfl (fun K hK => ?_) AllReadyH.nil
            refine step_append_src (by rfl) _ _ _ (by rfl) Z10.heap.size 47 i0 (.agg #[.int .i64 0, .bool false]) 2 16 Try.underlying26 hi hz0 hz1 hz2 (by rfl) (by decide) _ ln (l.flatMap kiC) (by rfl) HOr.out (some ⟨gl, 0, none⟩) 1 1 [.int .i64 kt, .bool kd] (by rfl) (by rfl) (fun c => (by cases c)) (lit_new HLk.out) (by simp [Value.oneCell']) (by unfold maxLen; omega) (by omega) HSC.out (fun v2 X6 hown hg => ?_)
            obtain ⟨A6r, c6r, rfl⟩ := own_slice hown
            have HBA := Lib.hid (below_append hHeld.2 HOr.out (Nat.le_refl _) HSC.out hg)
            replace HQa := Lib.hid (HQa.out.grown (by decide) HOr.out hg)
            replace HOr := Lib.hid hown
            replace HSC := Lib.hid (show Z10.heap.size ≤ X6.heap.size from HBA.out.size)
            clear hown hg
            refine hK.out _ _ ⟨⟨kc HBA.out x0, kc HBA.out x1, kc HBA.out k0, kc HBA.out k1, trivial⟩, HBA.out⟩ (fun hHeld => ?_)
            clear hK K
            (try simp only [Act.put, pt8])
            clear HBA
            refine wpAnyH_ready (rs := [8]) (by kernel_rfl) (by simp) ?_
            refine AllReadyH.cons rfl (fun K hK => ?_) AllReadyH.nil
            go_simp
            refine (run_any (l := l ++ [(kt, kd)]) wk _ (HPZ.out _ (chain HB.out hHeld.2)) (Rw.own (show OwnKi _ _ _ (l ++ [(kt, kd)]) from by unfold OwnKi; rw [show (l ++ [(kt, kd)]).length = ln + 1 from by rw [List.length_append, HLN.out]; rfl, List.flatMap_append]; exact HOr.out) (Nat.le_refl _)) (Nat.le_refl _) HRP.out HN6.out).mono ?_
            rintro e X8 ⟨vm, vt, ps13, rfl, hos, hb⟩
            rw [HR13.out] at hos ⊢
            dsimp only at hos ⊢
            obtain ⟨A13, c13, rfl⟩ := own_slice hos.mem
            obtain ⟨B13, e13, rfl⟩ := own_slice hos.ths
            have HOs := Lib.hid (show OwnSt 0 X8 _ _ s13 ps13 from hos.base (Nat.zero_le _))
            have HBA := Lib.hid (chain hHeld.2 hb)
            replace HQa := Lib.hid (HQa.out.below hb HQa.out.lt)
            replace HSC := Lib.hid (show Z10.heap.size ≤ X8.heap.size from HBA.out.size)
            refine hK.out _ _ ⟨⟨kc HBA.out x0, kc HBA.out x1, kc HBA.out k0, kc HBA.out k1, trivial⟩, HBA.out⟩ (fun hHeld => ?_)
            clear hK K
            (try simp only [Act.put, pt8])
            clear hb hos HBA HOr HLk
            refine wpAnyH_take (i := 9) (v := ?_) rfl (by kernel_rfl) (by kernel_rfl) (by kernel_rfl) (fun _ _ _ h => h) (Or.inl ⟨by rfl, ?_⟩) (by assumption) ?_
            rotate_left
            · intro w hSw; (try dsimp only at hSw); go_simp; (try with_reducible rfl)
            (try simp only [Act.put, pt8])
            refine wpAnyH_take (i := 10) (v := ?_) rfl (by kernel_rfl) (by kernel_rfl) (by kernel_rfl) (fun _ _ _ h => h) (Or.inl ⟨by rfl, ?_⟩) (by assumption) ?_
            rotate_left
            · intro w hSw; (try dsimp only at hSw); go_simp; (try with_reducible rfl)
            (try simp only [Act.put, pt8])
            refine wpAnyH_take (i := 11) (v := ?_) rfl (by kernel_rfl) (by kernel_rfl) (by kernel_rfl) (fun _ _ _ h => h) (Or.inl ⟨by rfl, ?_⟩) (by assumption) ?_
            rotate_left
            · intro w hSw; (try dsimp only at hSw); go_simp; (try with_reducible rfl)
            (try simp only [Act.put, pt8])
            refine wpAnyH_take (i := 12) (v := ?_) rfl (by kernel_rfl) (by kernel_rfl) (by kernel_rfl) (fun _ _ _ h => h) (Or.inl ⟨by rfl, ?_⟩) (by assumption) ?_
            rotate_left
            · intro w hSw; (try dsimp only at hSw); go_simp; (try with_reducible rfl)
            (try simp only [Act.put, pt8])
            refine wpAnyH_ready (rs := [14]) (by kernel_rfl) (by simp) ?_
            refine AllReadyH.cons rfl (fun K hK => ?_) AllReadyH.nil
            have z0 := HQa.out.cell 0 _ rfl
            have z1 := HQa.out.cell 1 _ rfl
            have u0 := HQa.out.frozen 0
            have u1 := HQa.out.frozen 1
            have HBS2 := Lib.hid (show Below Z10.heap.size Z10 ((X8.setCell ⟨ga, 0, none⟩ (.slice A13 s13.mem.length c13)).setCell ⟨ga, 1, none⟩ (.slice B13 s13.ths.length e13)) from (hHeld.2.setCell (p := ⟨ga, 0, none⟩) HGA.out _).setCell (p := ⟨ga, 1, none⟩) HGA.out _)
            have HQS := Lib.hid (show BoxC ((X8.setCell ⟨ga, 0, none⟩ (.slice A13 s13.mem.length c13)).setCell ⟨ga, 1, none⟩ (.slice B13 s13.ths.length e13)) ga 31 #[(.slice A13 s13.mem.length c13), (.slice B13 s13.ths.length e13)] from (HQa.out.set 0 _).set 1 _)
            have HOS := Lib.hid (show OwnSt 0 ((X8.setCell ⟨ga, 0, none⟩ (.slice A13 s13.mem.length c13)).setCell ⟨ga, 1, none⟩ (.slice B13 s13.ths.length e13)) (.slice A13 s13.mem.length c13) (.slice B13 s13.ths.length e13) s13 ps13 from (HOs.out.box HQa.out (by decide) (by decide) (by decide) 0 _).box (HQa.out.set 0 _) (by decide) (by decide) (by decide) 1 _)
            go_simp
            refine hK.out _ _ ⟨⟨kc HBS2.out x0, kc HBS2.out x1, kc HBS2.out k0, kc HBS2.out k1, trivial⟩, HBS2.out⟩ (fun hHeld => ?_)
            clear z0 z1 u0 u1
            clear hK K
            (try simp only [Act.put, pt8])
            refine wpAnyH_ready (rs := [15]) (by kernel_rfl) (by simp) ?_
            refine AllReadyH.cons rfl (fun K hK => ?_) AllReadyH.nil
            go_simp
            refine hK.out _ _ hHeld (fun hHeld => ?_)
            clear hK K
            (try simp only [Act.put, pt8])
            refine wpAnyH_ready (rs := [16]) (by kernel_rfl) (by simp) ?_
            refine AllReadyH.cons rfl (fun K hK => ?_) AllReadyH.nil
            go_simp
            refine hK.out _ _ hHeld (fun hHeld => ?_)
            clear hK K
            (try simp only [Act.put, pt8])
            refine wpAnyH_done (by kernel_rfl) ?_ _
            clear hHeld
            go_wp2_with fail
            go_meet
            exact ⟨ga, A13, c13, B13, e13, ps13, rfl, rfl, rfl, HQS.out, HOS.out, HBS2.out⟩
        · -- 13 first
          have HBA := Lib.hid (hHeld.2.alloc hHeld.2.size (.cells #[.slice none 0 0, .slice none 0 0] 31))
          go_simp
          refine hK.out _ _ ⟨⟨kc HBA.out x0, kc HBA.out x1, kc HBA.out k0, kc HBA.out k1, trivial⟩, HBA.out⟩ (fun hHeld => ?_)
          clear hK K
          (try simp only [Act.put, pt8])
          have HAL := Lib.hid (below_al (Below.refl X3.heap.size X3) (.cells #[.slice none 0 0, .slice none 0 0] 31))
          obtain ⟨Xd, hXn⟩ : ∃ W, W = X3.alloc (.cells #[.slice none 0 0, .slice none 0 0] 31) := ⟨_, rfl⟩
          obtain ⟨ga, hgn⟩ : ∃ g, g = X3.heap.size := ⟨_, rfl⟩
          have HSZ := Lib.hid (show Z10.heap.size ≤ ga from by rw [hgn]; exact HSC.out)
          have HQn := Lib.hid (show BoxC Xd ga 31 #[.slice none 0 0, .slice none 0 0] from by rw [hXn, hgn]; exact BoxC.new X3 _ _)
          skip
          rw [← hXn] at hHeld HBA HAL ⊢
          (try rw [← hgn])
          replace HOr := Lib.hid (own_below HOr.out HAL.out)
          have HQa := HQn
          have HGA := HSZ
          clear HQn
          replace HSC := Lib.hid (show Z10.heap.size ≤ Xd.heap.size from HBA.out.size)
          clear hXn hgn HAL HSZ HBA
          refine wpAnyH_ready (rs := [5]) (by kernel_rfl) (by simp) ?_
          refine AllReadyH.cons rfl (fun K hK => ?_) AllReadyH.nil
          have HBA := Lib.hid (hHeld.2.alloc hHeld.2.size (.cells #[.int .i64 kt, .bool kd] 47))
          go_simp
          refine hK.out _ _ ⟨⟨kc HBA.out x0, kc HBA.out x1, kc HBA.out k0, kc HBA.out k1, trivial⟩, HBA.out⟩ (fun hHeld => ?_)
          clear hK K
          (try simp only [Act.put, pt8])
          have HAL := Lib.hid (below_al (Below.refl Xd.heap.size Xd) (.cells #[.int .i64 kt, .bool kd] 47))
          obtain ⟨X5, hXn⟩ : ∃ W, W = Xd.alloc (.cells #[.int .i64 kt, .bool kd] 47) := ⟨_, rfl⟩
          obtain ⟨gl, hgn⟩ : ∃ g, g = Xd.heap.size := ⟨_, rfl⟩
          have HSZ := Lib.hid (show Z10.heap.size ≤ gl from by rw [hgn]; exact HSC.out)
          have HLn := Lib.hid (show BoxC X5 gl 47 #[.int .i64 kt, .bool kd] from by rw [hXn, hgn]; exact BoxC.new Xd _ _)
          rw [← hXn] at hHeld HBA HAL ⊢
          (try rw [← hgn])
          replace HOr := Lib.hid (own_below HOr.out HAL.out)
          replace HQa := Lib.hid (HQa.out.below HAL.out HQa.out.lt)
          have HLk := HLn
          clear HLn
          replace HSC := Lib.hid (show Z10.heap.size ≤ X5.heap.size from HBA.out.size)
          clear hXn hgn HAL HSZ HBA
          refine wpAnyH_ready (rs := [6]) (by kernel_rfl) (by simp) ?_
          refine AllReadyH.cons rfl (fun K hK => ?_) AllReadyH.nil
          refine step_append_src (by rfl) _ _ _ (by rfl) Z10.heap.size 47 i0 (.agg #[.int .i64 0, .bool false]) 2 16 Try.underlying26 hi hz0 hz1 hz2 (by rfl) (by decide) _ ln (l.flatMap kiC) (by rfl) HOr.out (some ⟨gl, 0, none⟩) 1 1 [.int .i64 kt, .bool kd] (by rfl) (by rfl) (fun c => (by cases c)) (lit_new HLk.out) (by simp [Value.oneCell']) (by unfold maxLen; omega) (by omega) HSC.out (fun v2 X6 hown hg => ?_)
          obtain ⟨A6r, c6r, rfl⟩ := own_slice hown
          have HBA := Lib.hid (below_append hHeld.2 HOr.out (Nat.le_refl _) HSC.out hg)
          replace HQa := Lib.hid (HQa.out.grown (by decide) HOr.out hg)
          replace HOr := Lib.hid hown
          replace HSC := Lib.hid (show Z10.heap.size ≤ X6.heap.size from HBA.out.size)
          clear hown hg
          refine hK.out _ _ ⟨⟨kc HBA.out x0, kc HBA.out x1, kc HBA.out k0, kc HBA.out k1, trivial⟩, HBA.out⟩ (fun hHeld => ?_)
          clear hK K
          (try simp only [Act.put, pt8])
          clear HBA
          refine wpAnyH_ready (rs := [8]) (by kernel_rfl) (by simp) ?_
          refine AllReadyH.cons rfl (fun K hK => ?_) AllReadyH.nil
          go_simp
          refine (run_any (l := l ++ [(kt, kd)]) wk _ (HPZ.out _ (chain HB.out hHeld.2)) (Rw.own (show OwnKi _ _ _ (l ++ [(kt, kd)]) from by unfold OwnKi; rw [show (l ++ [(kt, kd)]).length = ln + 1 from by rw [List.length_append, HLN.out]; rfl, List.flatMap_append]; exact HOr.out) (Nat.le_refl _)) (Nat.le_refl _) HRP.out HN6.out).mono ?_
          rintro e X8 ⟨vm, vt, ps13, rfl, hos, hb⟩
          rw [HR13.out] at hos ⊢
          dsimp only at hos ⊢
          obtain ⟨A13, c13, rfl⟩ := own_slice hos.mem
          obtain ⟨B13, e13, rfl⟩ := own_slice hos.ths
          have HOs := Lib.hid (show OwnSt 0 X8 _ _ s13 ps13 from hos.base (Nat.zero_le _))
          have HBA := Lib.hid (chain hHeld.2 hb)
          replace HQa := Lib.hid (HQa.out.below hb HQa.out.lt)
          replace HSC := Lib.hid (show Z10.heap.size ≤ X8.heap.size from HBA.out.size)
          refine hK.out _ _ ⟨⟨kc HBA.out x0, kc HBA.out x1, kc HBA.out k0, kc HBA.out k1, trivial⟩, HBA.out⟩ (fun hHeld => ?_)
          clear hK K
          (try simp only [Act.put, pt8])
          clear hb hos HBA HOr HLk
          refine wpAnyH_take (i := 9) (v := ?_) rfl (by kernel_rfl) (by kernel_rfl) (by kernel_rfl) (fun _ _ _ h => h) (Or.inl ⟨by rfl, ?_⟩) (by assumption) ?_
          rotate_left
          · intro w hSw; (try dsimp only at hSw); go_simp; (try with_reducible rfl)
          (try simp only [Act.put, pt8])
          refine wpAnyH_take (i := 10) (v := ?_) rfl (by kernel_rfl) (by kernel_rfl) (by kernel_rfl) (fun _ _ _ h => h) (Or.inl ⟨by rfl, ?_⟩) (by assumption) ?_
          rotate_left
          · intro w hSw; (try dsimp only at hSw); go_simp; (try with_reducible rfl)
          (try simp only [Act.put, pt8])
          refine wpAnyH_take (i := 11) (v := ?_) rfl (by kernel_rfl) (by kernel_rfl) (by kernel_rfl) (fun _ _ _ h => h) (Or.inl ⟨by rfl, ?_⟩) (by assumption) ?_
          rotate_left
          · intro w hSw; (try dsimp only at hSw); go_simp; (try with_reducible rfl)
          (try simp only [Act.put, pt8])
          refine wpAnyH_take (i := 12) (v := ?_) rfl (by kernel_rfl) (by kernel_rfl) (by kernel_rfl) (fun _ _ _ h => h) (Or.inl ⟨by rfl, ?_⟩) (by assumption) ?_
          rotate_left
          · intro w hSw; (try dsimp only at hSw); go_simp; (try with_reducible rfl)
          (try simp only [Act.put, pt8])
          refine wpAnyH_ready (rs := [14]) (by kernel_rfl) (by simp) ?_
          refine AllReadyH.cons rfl (fun K hK => ?_) AllReadyH.nil
          have z0 := HQa.out.cell 0 _ rfl
          have z1 := HQa.out.cell 1 _ rfl
          have u0 := HQa.out.frozen 0
          have u1 := HQa.out.frozen 1
          have HBS2 := Lib.hid (show Below Z10.heap.size Z10 ((X8.setCell ⟨ga, 0, none⟩ (.slice A13 s13.mem.length c13)).setCell ⟨ga, 1, none⟩ (.slice B13 s13.ths.length e13)) from (hHeld.2.setCell (p := ⟨ga, 0, none⟩) HGA.out _).setCell (p := ⟨ga, 1, none⟩) HGA.out _)
          have HQS := Lib.hid (show BoxC ((X8.setCell ⟨ga, 0, none⟩ (.slice A13 s13.mem.length c13)).setCell ⟨ga, 1, none⟩ (.slice B13 s13.ths.length e13)) ga 31 #[(.slice A13 s13.mem.length c13), (.slice B13 s13.ths.length e13)] from (HQa.out.set 0 _).set 1 _)
          have HOS := Lib.hid (show OwnSt 0 ((X8.setCell ⟨ga, 0, none⟩ (.slice A13 s13.mem.length c13)).setCell ⟨ga, 1, none⟩ (.slice B13 s13.ths.length e13)) (.slice A13 s13.mem.length c13) (.slice B13 s13.ths.length e13) s13 ps13 from (HOs.out.box HQa.out (by decide) (by decide) (by decide) 0 _).box (HQa.out.set 0 _) (by decide) (by decide) (by decide) 1 _)
          go_simp
          refine hK.out _ _ ⟨⟨kc HBS2.out x0, kc HBS2.out x1, kc HBS2.out k0, kc HBS2.out k1, trivial⟩, HBS2.out⟩ (fun hHeld => ?_)
          clear z0 z1 u0 u1
          clear hK K
          (try simp only [Act.put, pt8])
          refine wpAnyH_ready (rs := [15]) (by kernel_rfl) (by simp) ?_
          refine AllReadyH.cons rfl (fun K hK => ?_) AllReadyH.nil
          go_simp
          refine hK.out _ _ hHeld (fun hHeld => ?_)
          clear hK K
          (try simp only [Act.put, pt8])
          refine wpAnyH_ready (rs := [16]) (by kernel_rfl) (by simp) ?_
          refine AllReadyH.cons rfl (fun K hK => ?_) AllReadyH.nil
          go_simp
          refine hK.out _ _ hHeld (fun hHeld => ?_)
          clear hK K
          (try simp only [Act.put, pt8])
          refine wpAnyH_done (by kernel_rfl) ?_ _
          clear hHeld
          go_wp2_with fail
          go_meet
          exact ⟨ga, A13, c13, B13, e13, ps13, rfl, rfl, rfl, HQS.out, HOS.out, HBS2.out⟩
      · -- 5 first
        have HBA := Lib.hid (hHeld.2.alloc hHeld.2.size (.cells #[.int .i64 kt, .bool kd] 47))
        go_simp
        refine hK.out _ _ ⟨⟨kc HBA.out x0, kc HBA.out x1, kc HBA.out k0, kc HBA.out k1, trivial⟩, HBA.out⟩ (fun hHeld => ?_)
        clear hK K
        (try simp only [Act.put, pt8])
        have HAL := Lib.hid (below_al (Below.refl X1.heap.size X1) (.cells #[.int .i64 kt, .bool kd] 47))
        obtain ⟨X5, hXn⟩ : ∃ W, W = X1.alloc (.cells #[.int .i64 kt, .bool kd] 47) := ⟨_, rfl⟩
        obtain ⟨gl, hgn⟩ : ∃ g, g = X1.heap.size := ⟨_, rfl⟩
        have HSZ := Lib.hid (show Z10.heap.size ≤ gl from by rw [hgn]; exact HSC.out)
        have HLn := Lib.hid (show BoxC X5 gl 47 #[.int .i64 kt, .bool kd] from by rw [hXn, hgn]; exact BoxC.new X1 _ _)
        have HNE := Lib.hid (show g1 ≠ gl from by have := (HOr.out.lt g1 rfl).2; change g1 < X1.heap.size at this; omega)
        rw [← hXn] at hHeld HBA HAL ⊢
        (try rw [← hgn])
        replace HOr := Lib.hid (own_below HOr.out HAL.out)
        have HLk := HLn
        clear HLn
        replace HSC := Lib.hid (show Z10.heap.size ≤ X5.heap.size from HBA.out.size)
        clear hXn hgn HAL HSZ HBA
        refine wpAnyH_ready (rs := [3, 13]) (by kernel_rfl) (by simp) ?_
        refine AllReadyH.cons rfl (fun K hK => ?_) (AllReadyH.cons rfl (fun K hK => ?_) (AllReadyH.nil))
        · -- 3 first
          refine step_append_src (by rfl) _ _ _ (by rfl) Z10.heap.size 47 i0 (.agg #[.int .i64 0, .bool false]) 2 16 Try.underlying26 hi hz0 hz1 hz2 (by rfl) (by decide) _ 0 [] (by rfl) HOr.out Al ln cl (l.flatMap kiC) (by rfl) (by rw [HLN.out]; exact fl_len kiC_len l) (fun h => by rw [HLN.out]; exact HQ00.out h) (HSRC.out _ (HB.out.trans (hHeld.2.mono HB.out.size))) (one_ki l) (by unfold maxLen; omega) (by omega) HSC.out (fun v2 X3 hown hg => ?_)
          rw [Nat.zero_add, List.nil_append] at hown
          obtain ⟨A3r, c3r, rfl⟩ := own_slice hown
          have HBA := Lib.hid (below_append hHeld.2 HOr.out (Nat.le_refl _) HSC.out hg)
          replace HLk := Lib.hid (show BoxC X3 gl 47 #[.int .i64 kt, .bool kd] from (hg.block gl HLk.out.lt (fun e => by injection e with e; exact HNE.out e.symm)).trans HLk.out)
          replace HOr := Lib.hid hown
          replace HSC := Lib.hid (show Z10.heap.size ≤ X3.heap.size from HBA.out.size)
          clear hown hg
          refine hK.out _ _ ⟨⟨kc HBA.out x0, kc HBA.out x1, kc HBA.out k0, kc HBA.out k1, trivial⟩, HBA.out⟩ (fun hHeld => ?_)
          clear hK K
          (try simp only [Act.put, pt8])
          clear HBA
          refine wpAnyH_ready (rs := [6, 13]) (by kernel_rfl) (by simp) ?_
          refine AllReadyH.cons rfl (fun K hK => ?_) (AllReadyH.cons rfl (fun K hK => ?_) (AllReadyH.nil))
          · -- 6 first
            refine step_append_src (by rfl) _ _ _ (by rfl) Z10.heap.size 47 i0 (.agg #[.int .i64 0, .bool false]) 2 16 Try.underlying26 hi hz0 hz1 hz2 (by rfl) (by decide) _ ln (l.flatMap kiC) (by rfl) HOr.out (some ⟨gl, 0, none⟩) 1 1 [.int .i64 kt, .bool kd] (by rfl) (by rfl) (fun c => (by cases c)) (lit_new HLk.out) (by simp [Value.oneCell']) (by unfold maxLen; omega) (by omega) HSC.out (fun v2 X6 hown hg => ?_)
            obtain ⟨A6r, c6r, rfl⟩ := own_slice hown
            have HBA := Lib.hid (below_append hHeld.2 HOr.out (Nat.le_refl _) HSC.out hg)
            replace HOr := Lib.hid hown
            replace HSC := Lib.hid (show Z10.heap.size ≤ X6.heap.size from HBA.out.size)
            clear hown hg
            refine hK.out _ _ ⟨⟨kc HBA.out x0, kc HBA.out x1, kc HBA.out k0, kc HBA.out k1, trivial⟩, HBA.out⟩ (fun hHeld => ?_)
            clear hK K
            (try simp only [Act.put, pt8])
            clear HBA
            refine wpAnyH_ready (rs := [8, 13]) (by kernel_rfl) (by simp) ?_
            refine AllReadyH.cons rfl (fun K hK => ?_) (AllReadyH.cons rfl (fun K hK => ?_) (AllReadyH.nil))
            · -- 8 first
              go_simp
              refine (run_any (l := l ++ [(kt, kd)]) wk _ (HPZ.out _ (chain HB.out hHeld.2)) (Rw.own (show OwnKi _ _ _ (l ++ [(kt, kd)]) from by unfold OwnKi; rw [show (l ++ [(kt, kd)]).length = ln + 1 from by rw [List.length_append, HLN.out]; rfl, List.flatMap_append]; exact HOr.out) (Nat.le_refl _)) (Nat.le_refl _) HRP.out HN6.out).mono ?_
              rintro e X8 ⟨vm, vt, ps13, rfl, hos, hb⟩
              rw [HR13.out] at hos ⊢
              dsimp only at hos ⊢
              obtain ⟨A13, c13, rfl⟩ := own_slice hos.mem
              obtain ⟨B13, e13, rfl⟩ := own_slice hos.ths
              have HOs := Lib.hid (show OwnSt 0 X8 _ _ s13 ps13 from hos.base (Nat.zero_le _))
              have HBA := Lib.hid (chain hHeld.2 hb)
              replace HSC := Lib.hid (show Z10.heap.size ≤ X8.heap.size from HBA.out.size)
              refine hK.out _ _ ⟨⟨kc HBA.out x0, kc HBA.out x1, kc HBA.out k0, kc HBA.out k1, trivial⟩, HBA.out⟩ (fun hHeld => ?_)
              clear hK K
              (try simp only [Act.put, pt8])
              clear hb hos HBA HOr HLk
              refine wpAnyH_take (i := 9) (v := ?_) rfl (by kernel_rfl) (by kernel_rfl) (by kernel_rfl) (fun _ _ _ h => h) (Or.inl ⟨by rfl, ?_⟩) (by assumption) ?_
              rotate_left
              · intro w hSw; (try dsimp only at hSw); go_simp; (try with_reducible rfl)
              (try simp only [Act.put, pt8])
              refine wpAnyH_take (i := 10) (v := ?_) rfl (by kernel_rfl) (by kernel_rfl) (by kernel_rfl) (fun _ _ _ h => h) (Or.inl ⟨by rfl, ?_⟩) (by assumption) ?_
              rotate_left
              · intro w hSw; (try dsimp only at hSw); go_simp; (try with_reducible rfl)
              (try simp only [Act.put, pt8])
              refine wpAnyH_take (i := 11) (v := ?_) rfl (by kernel_rfl) (by kernel_rfl) (by kernel_rfl) (fun _ _ _ h => h) (Or.inl ⟨by rfl, ?_⟩) (by assumption) ?_
              rotate_left
              · intro w hSw; (try dsimp only at hSw); go_simp; (try with_reducible rfl)
              (try simp only [Act.put, pt8])
              refine wpAnyH_take (i := 12) (v := ?_) rfl (by kernel_rfl) (by kernel_rfl) (by kernel_rfl) (fun _ _ _ h => h) (Or.inl ⟨by rfl, ?_⟩) (by assumption) ?_
              rotate_left
              · intro w hSw; (try dsimp only at hSw); go_simp; (try with_reducible rfl)
              (try simp only [Act.put, pt8])
              refine wpAnyH_ready (rs := [13]) (by kernel_rfl) (by simp) ?_
              refine AllReadyH.cons rfl (fun K hK => ?_) AllReadyH.nil
              have HBA := Lib.hid (hHeld.2.alloc hHeld.2.size (.cells #[.slice none 0 0, .slice none 0 0] 31))
              go_simp
              refine hK.out _ _ ⟨⟨kc HBA.out x0, kc HBA.out x1, kc HBA.out k0, kc HBA.out k1, trivial⟩, HBA.out⟩ (fun hHeld => ?_)
              clear hK K
              (try simp only [Act.put, pt8])
              have HAL := Lib.hid (below_al (Below.refl X8.heap.size X8) (.cells #[.slice none 0 0, .slice none 0 0] 31))
              obtain ⟨Xd, hXn⟩ : ∃ W, W = X8.alloc (.cells #[.slice none 0 0, .slice none 0 0] 31) := ⟨_, rfl⟩
              obtain ⟨ga, hgn⟩ : ∃ g, g = X8.heap.size := ⟨_, rfl⟩
              have HSZ := Lib.hid (show Z10.heap.size ≤ ga from by rw [hgn]; exact HSC.out)
              have HQn := Lib.hid (show BoxC Xd ga 31 #[.slice none 0 0, .slice none 0 0] from by rw [hXn, hgn]; exact BoxC.new X8 _ _)
              rw [← hXn] at hHeld HBA HAL ⊢
              (try rw [← hgn])
              replace HOs := Lib.hid (HOs.out.below HAL.out)
              have HQa := HQn
              have HGA := HSZ
              clear HQn
              replace HSC := Lib.hid (show Z10.heap.size ≤ Xd.heap.size from HBA.out.size)
              clear hXn hgn HAL HSZ HBA
              refine wpAnyH_ready (rs := [14]) (by kernel_rfl) (by simp) ?_
              refine AllReadyH.cons rfl (fun K hK => ?_) AllReadyH.nil
              have z0 := HQa.out.cell 0 _ rfl
              have z1 := HQa.out.cell 1 _ rfl
              have u0 := HQa.out.frozen 0
              have u1 := HQa.out.frozen 1
              have HBS2 := Lib.hid (show Below Z10.heap.size Z10 ((Xd.setCell ⟨ga, 0, none⟩ (.slice A13 s13.mem.length c13)).setCell ⟨ga, 1, none⟩ (.slice B13 s13.ths.length e13)) from (hHeld.2.setCell (p := ⟨ga, 0, none⟩) HGA.out _).setCell (p := ⟨ga, 1, none⟩) HGA.out _)
              have HQS := Lib.hid (show BoxC ((Xd.setCell ⟨ga, 0, none⟩ (.slice A13 s13.mem.length c13)).setCell ⟨ga, 1, none⟩ (.slice B13 s13.ths.length e13)) ga 31 #[(.slice A13 s13.mem.length c13), (.slice B13 s13.ths.length e13)] from (HQa.out.set 0 _).set 1 _)
              have HOS := Lib.hid (show OwnSt 0 ((Xd.setCell ⟨ga, 0, none⟩ (.slice A13 s13.mem.length c13)).setCell ⟨ga, 1, none⟩ (.slice B13 s13.ths.length e13)) (.slice A13 s13.mem.length c13) (.slice B13 s13.ths.length e13) s13 ps13 from (HOs.out.box HQa.out (by decide) (by decide) (by decide) 0 _).box (HQa.out.set 0 _) (by decide) (by decide) (by decide) 1 _)
              go_simp
              refine hK.out _ _ ⟨⟨kc HBS2.out x0, kc HBS2.out x1, kc HBS2.out k0, kc HBS2.out k1, trivial⟩, HBS2.out⟩ (fun hHeld => ?_)
              clear z0 z1 u0 u1
              clear hK K
              (try simp only [Act.put, pt8])
              refine wpAnyH_ready (rs := [15]) (by kernel_rfl) (by simp) ?_
              refine AllReadyH.cons rfl (fun K hK => ?_) AllReadyH.nil
              go_simp
              refine hK.out _ _ hHeld (fun hHeld => ?_)
              clear hK K
              (try simp only [Act.put, pt8])
              refine wpAnyH_ready (rs := [16]) (by kernel_rfl) (by simp) ?_
              refine AllReadyH.cons rfl (fun K hK => ?_) AllReadyH.nil
              go_simp
              refine hK.out _ _ hHeld (fun hHeld => ?_)
              clear hK K
              (try simp only [Act.put, pt8])
              refine wpAnyH_done (by kernel_rfl) ?_ _
              clear hHeld
              go_wp2_with fail
              go_meet
              exact ⟨ga, A13, c13, B13, e13, ps13, rfl, rfl, rfl, HQS.out, HOS.out, HBS2.out⟩
            · -- 13 first
              have HBA := Lib.hid (hHeld.2.alloc hHeld.2.size (.cells #[.slice none 0 0, .slice none 0 0] 31))
              go_simp
              refine hK.out _ _ ⟨⟨kc HBA.out x0, kc HBA.out x1, kc HBA.out k0, kc HBA.out k1, trivial⟩, HBA.out⟩ (fun hHeld => ?_)
              clear hK K
              (try simp only [Act.put, pt8])
              have HAL := Lib.hid (below_al (Below.refl X6.heap.size X6) (.cells #[.slice none 0 0, .slice none 0 0] 31))
              obtain ⟨Xd, hXn⟩ : ∃ W, W = X6.alloc (.cells #[.slice none 0 0, .slice none 0 0] 31) := ⟨_, rfl⟩
              obtain ⟨ga, hgn⟩ : ∃ g, g = X6.heap.size := ⟨_, rfl⟩
              have HSZ := Lib.hid (show Z10.heap.size ≤ ga from by rw [hgn]; exact HSC.out)
              have HQn := Lib.hid (show BoxC Xd ga 31 #[.slice none 0 0, .slice none 0 0] from by rw [hXn, hgn]; exact BoxC.new X6 _ _)
              skip
              rw [← hXn] at hHeld HBA HAL ⊢
              (try rw [← hgn])
              replace HOr := Lib.hid (own_below HOr.out HAL.out)
              have HQa := HQn
              have HGA := HSZ
              clear HQn
              replace HSC := Lib.hid (show Z10.heap.size ≤ Xd.heap.size from HBA.out.size)
              clear hXn hgn HAL HSZ HBA
              refine wpAnyH_ready (rs := [8]) (by kernel_rfl) (by simp) ?_
              refine AllReadyH.cons rfl (fun K hK => ?_) AllReadyH.nil
              go_simp
              refine (run_any (l := l ++ [(kt, kd)]) wk _ (HPZ.out _ (chain HB.out hHeld.2)) (Rw.own (show OwnKi _ _ _ (l ++ [(kt, kd)]) from by unfold OwnKi; rw [show (l ++ [(kt, kd)]).length = ln + 1 from by rw [List.length_append, HLN.out]; rfl, List.flatMap_append]; exact HOr.out) (Nat.le_refl _)) (Nat.le_refl _) HRP.out HN6.out).mono ?_
              rintro e X8 ⟨vm, vt, ps13, rfl, hos, hb⟩
              rw [HR13.out] at hos ⊢
              dsimp only at hos ⊢
              obtain ⟨A13, c13, rfl⟩ := own_slice hos.mem
              obtain ⟨B13, e13, rfl⟩ := own_slice hos.ths
              have HOs := Lib.hid (show OwnSt 0 X8 _ _ s13 ps13 from hos.base (Nat.zero_le _))
              have HBA := Lib.hid (chain hHeld.2 hb)
              replace HQa := Lib.hid (HQa.out.below hb HQa.out.lt)
              replace HSC := Lib.hid (show Z10.heap.size ≤ X8.heap.size from HBA.out.size)
              refine hK.out _ _ ⟨⟨kc HBA.out x0, kc HBA.out x1, kc HBA.out k0, kc HBA.out k1, trivial⟩, HBA.out⟩ (fun hHeld => ?_)
              clear hK K
              (try simp only [Act.put, pt8])
              clear hb hos HBA HOr HLk
              refine wpAnyH_take (i := 9) (v := ?_) rfl (by kernel_rfl) (by kernel_rfl) (by kernel_rfl) (fun _ _ _ h => h) (Or.inl ⟨by rfl, ?_⟩) (by assumption) ?_
              rotate_left
              · intro w hSw; (try dsimp only at hSw); go_simp; (try with_reducible rfl)
              (try simp only [Act.put, pt8])
              refine wpAnyH_take (i := 10) (v := ?_) rfl (by kernel_rfl) (by kernel_rfl) (by kernel_rfl) (fun _ _ _ h => h) (Or.inl ⟨by rfl, ?_⟩) (by assumption) ?_
              rotate_left
              · intro w hSw; (try dsimp only at hSw); go_simp; (try with_reducible rfl)
              (try simp only [Act.put, pt8])
              refine wpAnyH_take (i := 11) (v := ?_) rfl (by kernel_rfl) (by kernel_rfl) (by kernel_rfl) (fun _ _ _ h => h) (Or.inl ⟨by rfl, ?_⟩) (by assumption) ?_
              rotate_left
              · intro w hSw; (try dsimp only at hSw); go_simp; (try with_reducible rfl)
              (try simp only [Act.put, pt8])
              refine wpAnyH_take (i := 12) (v := ?_) rfl (by kernel_rfl) (by kernel_rfl) (by kernel_rfl) (fun _ _ _ h => h) (Or.inl ⟨by rfl, ?_⟩) (by assumption) ?_
              rotate_left
              · intro w hSw; (try dsimp only at hSw); go_simp; (try with_reducible rfl)
              (try simp only [Act.put, pt8])
              refine wpAnyH_ready (rs := [14]) (by kernel_rfl) (by simp) ?_
              refine AllReadyH.cons rfl (fun K hK => ?_) AllReadyH.nil
              have z0 := HQa.out.cell 0 _ rfl
              have z1 := HQa.out.cell 1 _ rfl
              have u0 := HQa.out.frozen 0
              have u1 := HQa.out.frozen 1
              have HBS2 := Lib.hid (show Below Z10.heap.size Z10 ((X8.setCell ⟨ga, 0, none⟩ (.slice A13 s13.mem.length c13)).setCell ⟨ga, 1, none⟩ (.slice B13 s13.ths.length e13)) from (hHeld.2.setCell (p := ⟨ga, 0, none⟩) HGA.out _).setCell (p := ⟨ga, 1, none⟩) HGA.out _)
              have HQS := Lib.hid (show BoxC ((X8.setCell ⟨ga, 0, none⟩ (.slice A13 s13.mem.length c13)).setCell ⟨ga, 1, none⟩ (.slice B13 s13.ths.length e13)) ga 31 #[(.slice A13 s13.mem.length c13), (.slice B13 s13.ths.length e13)] from (HQa.out.set 0 _).set 1 _)
              have HOS := Lib.hid (show OwnSt 0 ((X8.setCell ⟨ga, 0, none⟩ (.slice A13 s13.mem.length c13)).setCell ⟨ga, 1, none⟩ (.slice B13 s13.ths.length e13)) (.slice A13 s13.mem.length c13) (.slice B13 s13.ths.length e13) s13 ps13 from (HOs.out.box HQa.out (by decide) (by decide) (by decide) 0 _).box (HQa.out.set 0 _) (by decide) (by decide) (by decide) 1 _)
              go_simp
              refine hK.out _ _ ⟨⟨kc HBS2.out x0, kc HBS2.out x1, kc HBS2.out k0, kc HBS2.out k1, trivial⟩, HBS2.out⟩ (fun hHeld => ?_)
              clear z0 z1 u0 u1
              clear hK K
              (try simp only [Act.put, pt8])
              refine wpAnyH_ready (rs := [15]) (by kernel_rfl) (by simp) ?_
              refine AllReadyH.cons rfl (fun K hK => ?_) AllReadyH.nil
              go_simp
              refine hK.out _ _ hHeld (fun hHeld => ?_)
              clear hK K
              (try simp only [Act.put, pt8])
              refine wpAnyH_ready (rs := [16]) (by kernel_rfl) (by simp) ?_
              refine AllReadyH.cons rfl (fun K hK => ?_) AllReadyH.nil
              go_simp
              refine hK.out _ _ hHeld (fun hHeld => ?_)
              clear hK K
              (try simp only [Act.put, pt8])
              refine wpAnyH_done (by kernel_rfl) ?_ _
              clear hHeld
              go_wp2_with fail
              go_meet
              exact ⟨ga, A13, c13, B13, e13, ps13, rfl, rfl, rfl, HQS.out, HOS.out, HBS2.out⟩
          · -- 13 first
            have HBA := Lib.hid (hHeld.2.alloc hHeld.2.size (.cells #[.slice none 0 0, .slice none 0 0] 31))
            go_simp
            refine hK.out _ _ ⟨⟨kc HBA.out x0, kc HBA.out x1, kc HBA.out k0, kc HBA.out k1, trivial⟩, HBA.out⟩ (fun hHeld => ?_)
            clear hK K
            (try simp only [Act.put, pt8])
            have HAL := Lib.hid (below_al (Below.refl X3.heap.size X3) (.cells #[.slice none 0 0, .slice none 0 0] 31))
            obtain ⟨Xd, hXn⟩ : ∃ W, W = X3.alloc (.cells #[.slice none 0 0, .slice none 0 0] 31) := ⟨_, rfl⟩
            obtain ⟨ga, hgn⟩ : ∃ g, g = X3.heap.size := ⟨_, rfl⟩
            have HSZ := Lib.hid (show Z10.heap.size ≤ ga from by rw [hgn]; exact HSC.out)
            have HQn := Lib.hid (show BoxC Xd ga 31 #[.slice none 0 0, .slice none 0 0] from by rw [hXn, hgn]; exact BoxC.new X3 _ _)
            skip
            rw [← hXn] at hHeld HBA HAL ⊢
            (try rw [← hgn])
            replace HOr := Lib.hid (own_below HOr.out HAL.out)
            replace HLk := Lib.hid (HLk.out.below HAL.out HLk.out.lt)
            have HQa := HQn
            have HGA := HSZ
            clear HQn
            replace HSC := Lib.hid (show Z10.heap.size ≤ Xd.heap.size from HBA.out.size)
            clear hXn hgn HAL HSZ HBA
            refine wpAnyH_ready (rs := [6]) (by kernel_rfl) (by simp) ?_
            refine AllReadyH.cons rfl (fun K hK => ?_) AllReadyH.nil
            refine step_append_src (by rfl) _ _ _ (by rfl) Z10.heap.size 47 i0 (.agg #[.int .i64 0, .bool false]) 2 16 Try.underlying26 hi hz0 hz1 hz2 (by rfl) (by decide) _ ln (l.flatMap kiC) (by rfl) HOr.out (some ⟨gl, 0, none⟩) 1 1 [.int .i64 kt, .bool kd] (by rfl) (by rfl) (fun c => (by cases c)) (lit_new HLk.out) (by simp [Value.oneCell']) (by unfold maxLen; omega) (by omega) HSC.out (fun v2 X6 hown hg => ?_)
            obtain ⟨A6r, c6r, rfl⟩ := own_slice hown
            have HBA := Lib.hid (below_append hHeld.2 HOr.out (Nat.le_refl _) HSC.out hg)
            replace HQa := Lib.hid (HQa.out.grown (by decide) HOr.out hg)
            replace HOr := Lib.hid hown
            replace HSC := Lib.hid (show Z10.heap.size ≤ X6.heap.size from HBA.out.size)
            clear hown hg
            refine hK.out _ _ ⟨⟨kc HBA.out x0, kc HBA.out x1, kc HBA.out k0, kc HBA.out k1, trivial⟩, HBA.out⟩ (fun hHeld => ?_)
            clear hK K
            (try simp only [Act.put, pt8])
            clear HBA
            refine wpAnyH_ready (rs := [8]) (by kernel_rfl) (by simp) ?_
            refine AllReadyH.cons rfl (fun K hK => ?_) AllReadyH.nil
            go_simp
            refine (run_any (l := l ++ [(kt, kd)]) wk _ (HPZ.out _ (chain HB.out hHeld.2)) (Rw.own (show OwnKi _ _ _ (l ++ [(kt, kd)]) from by unfold OwnKi; rw [show (l ++ [(kt, kd)]).length = ln + 1 from by rw [List.length_append, HLN.out]; rfl, List.flatMap_append]; exact HOr.out) (Nat.le_refl _)) (Nat.le_refl _) HRP.out HN6.out).mono ?_
            rintro e X8 ⟨vm, vt, ps13, rfl, hos, hb⟩
            rw [HR13.out] at hos ⊢
            dsimp only at hos ⊢
            obtain ⟨A13, c13, rfl⟩ := own_slice hos.mem
            obtain ⟨B13, e13, rfl⟩ := own_slice hos.ths
            have HOs := Lib.hid (show OwnSt 0 X8 _ _ s13 ps13 from hos.base (Nat.zero_le _))
            have HBA := Lib.hid (chain hHeld.2 hb)
            replace HQa := Lib.hid (HQa.out.below hb HQa.out.lt)
            replace HSC := Lib.hid (show Z10.heap.size ≤ X8.heap.size from HBA.out.size)
            refine hK.out _ _ ⟨⟨kc HBA.out x0, kc HBA.out x1, kc HBA.out k0, kc HBA.out k1, trivial⟩, HBA.out⟩ (fun hHeld => ?_)
            clear hK K
            (try simp only [Act.put, pt8])
            clear hb hos HBA HOr HLk
            refine wpAnyH_take (i := 9) (v := ?_) rfl (by kernel_rfl) (by kernel_rfl) (by kernel_rfl) (fun _ _ _ h => h) (Or.inl ⟨by rfl, ?_⟩) (by assumption) ?_
            rotate_left
            · intro w hSw; (try dsimp only at hSw); go_simp; (try with_reducible rfl)
            (try simp only [Act.put, pt8])
            refine wpAnyH_take (i := 10) (v := ?_) rfl (by kernel_rfl) (by kernel_rfl) (by kernel_rfl) (fun _ _ _ h => h) (Or.inl ⟨by rfl, ?_⟩) (by assumption) ?_
            rotate_left
            · intro w hSw; (try dsimp only at hSw); go_simp; (try with_reducible rfl)
            (try simp only [Act.put, pt8])
            refine wpAnyH_take (i := 11) (v := ?_) rfl (by kernel_rfl) (by kernel_rfl) (by kernel_rfl) (fun _ _ _ h => h) (Or.inl ⟨by rfl, ?_⟩) (by assumption) ?_
            rotate_left
            · intro w hSw; (try dsimp only at hSw); go_simp; (try with_reducible rfl)
            (try simp only [Act.put, pt8])
            refine wpAnyH_take (i := 12) (v := ?_) rfl (by kernel_rfl) (by kernel_rfl) (by kernel_rfl) (fun _ _ _ h => h) (Or.inl ⟨by rfl, ?_⟩) (by assumption) ?_
            rotate_left
            · intro w hSw; (try dsimp only at hSw); go_simp; (try with_reducible rfl)
            (try simp only [Act.put, pt8])
            refine wpAnyH_ready (rs := [14]) (by kernel_rfl) (by simp) ?_
            refine AllReadyH.cons rfl (fun K hK => ?_) AllReadyH.nil
            have z0 := HQa.out.cell 0 _ rfl
            have z1 := HQa.out.cell 1 _ rfl
            have u0 := HQa.out.frozen 0
            have u1 := HQa.out.frozen 1
            have HBS2 := Lib.hid (show Below Z10.heap.size Z10 ((X8.setCell ⟨ga, 0, none⟩ (.slice A13 s13.mem.length c13)).setCell ⟨ga, 1, none⟩ (.slice B13 s13.ths.length e13)) from (hHeld.2.setCell (p := ⟨ga, 0, none⟩) HGA.out _).setCell (p := ⟨ga, 1, none⟩) HGA.out _)
            have HQS := Lib.hid (show BoxC ((X8.setCell ⟨ga, 0, none⟩ (.slice A13 s13.mem.length c13)).setCell ⟨ga, 1, none⟩ (.slice B13 s13.ths.length e13)) ga 31 #[(.slice A13 s13.mem.length c13), (.slice B13 s13.ths.length e13)] from (HQa.out.set 0 _).set 1 _)
            have HOS := Lib.hid (show OwnSt 0 ((X8.setCell ⟨ga, 0, none⟩ (.slice A13 s13.mem.length c13)).setCell ⟨ga, 1, none⟩ (.slice B13 s13.ths.length e13)) (.slice A13 s13.mem.length c13) (.slice B13 s13.ths.length e13) s13 ps13 from (HOs.out.box HQa.out (by decide) (by decide) (by decide) 0 _).box (HQa.out.set 0 _) (by decide) (by decide) (by decide) 1 _)
            go_simp
            refine hK.out _ _ ⟨⟨kc HBS2.out x0, kc HBS2.out x1, kc HBS2.out k0, kc HBS2.out k1, trivial⟩, HBS2.out⟩ (fun hHeld => ?_)
            clear z0 z1 u0 u1
            clear hK K
            (try simp only [Act.put, pt8])
            refine wpAnyH_ready (rs := [15]) (by kernel_rfl) (by simp) ?_
            refine AllReadyH.cons rfl (fun K hK => ?_) AllReadyH.nil
            go_simp
            refine hK.out _ _ hHeld (fun hHeld => ?_)
            clear hK K
            (try simp only [Act.put, pt8])
            refine wpAnyH_ready (rs := [16]) (by kernel_rfl) (by simp) ?_
            refine AllReadyH.cons rfl (fun K hK => ?_) AllReadyH.nil
            go_simp
            refine hK.out _ _ hHeld (fun hHeld => ?_)
            clear hK K
            (try simp only [Act.put, pt8])
            refine wpAnyH_done (by kernel_rfl) ?_ _
            clear hHeld
            go_wp2_with fail
            go_meet
            exact ⟨ga, A13, c13, B13, e13, ps13, rfl, rfl, rfl, HQS.out, HOS.out, HBS2.out⟩
        · -- 13 first
          have HBA := Lib.hid (hHeld.2.alloc hHeld.2.size (.cells #[.slice none 0 0, .slice none 0 0] 31))
          go_simp
          refine hK.out _ _ ⟨⟨kc HBA.out x0, kc HBA.out x1, kc HBA.out k0, kc HBA.out k1, trivial⟩, HBA.out⟩ (fun hHeld => ?_)
          clear hK K
          (try simp only [Act.put, pt8])
          have HAL := Lib.hid (below_al (Below.refl X5.heap.size X5) (.cells #[.slice none 0 0, .slice none 0 0] 31))
          obtain ⟨Xd, hXn⟩ : ∃ W, W = X5.alloc (.cells #[.slice none 0 0, .slice none 0 0] 31) := ⟨_, rfl⟩
          obtain ⟨ga, hgn⟩ : ∃ g, g = X5.heap.size := ⟨_, rfl⟩
          have HSZ := Lib.hid (show Z10.heap.size ≤ ga from by rw [hgn]; exact HSC.out)
          have HQn := Lib.hid (show BoxC Xd ga 31 #[.slice none 0 0, .slice none 0 0] from by rw [hXn, hgn]; exact BoxC.new X5 _ _)
          skip
          rw [← hXn] at hHeld HBA HAL ⊢
          (try rw [← hgn])
          replace HOr := Lib.hid (own_below HOr.out HAL.out)
          replace HLk := Lib.hid (HLk.out.below HAL.out HLk.out.lt)
          have HQa := HQn
          have HGA := HSZ
          clear HQn
          replace HSC := Lib.hid (show Z10.heap.size ≤ Xd.heap.size from HBA.out.size)
          clear hXn hgn HAL HSZ HBA
          refine wpAnyH_ready (rs := [3]) (by kernel_rfl) (by simp) ?_
          refine AllReadyH.cons rfl (fun K hK => ?_) AllReadyH.nil
          refine step_append_src (by rfl) _ _ _ (by rfl) Z10.heap.size 47 i0 (.agg #[.int .i64 0, .bool false]) 2 16 Try.underlying26 hi hz0 hz1 hz2 (by rfl) (by decide) _ 0 [] (by rfl) HOr.out Al ln cl (l.flatMap kiC) (by rfl) (by rw [HLN.out]; exact fl_len kiC_len l) (fun h => by rw [HLN.out]; exact HQ00.out h) (HSRC.out _ (HB.out.trans (hHeld.2.mono HB.out.size))) (one_ki l) (by unfold maxLen; omega) (by omega) HSC.out (fun v2 X3 hown hg => ?_)
          rw [Nat.zero_add, List.nil_append] at hown
          obtain ⟨A3r, c3r, rfl⟩ := own_slice hown
          have HBA := Lib.hid (below_append hHeld.2 HOr.out (Nat.le_refl _) HSC.out hg)
          replace HQa := Lib.hid (HQa.out.grown (by decide) HOr.out hg)
          replace HLk := Lib.hid (show BoxC X3 gl 47 #[.int .i64 kt, .bool kd] from (hg.block gl HLk.out.lt (fun e => by injection e with e; exact HNE.out e.symm)).trans HLk.out)
          replace HOr := Lib.hid hown
          replace HSC := Lib.hid (show Z10.heap.size ≤ X3.heap.size from HBA.out.size)
          clear hown hg
          refine hK.out _ _ ⟨⟨kc HBA.out x0, kc HBA.out x1, kc HBA.out k0, kc HBA.out k1, trivial⟩, HBA.out⟩ (fun hHeld => ?_)
          clear hK K
          (try simp only [Act.put, pt8])
          clear HBA
          refine wpAnyH_ready (rs := [6]) (by kernel_rfl) (by simp) ?_
          refine AllReadyH.cons rfl (fun K hK => ?_) AllReadyH.nil
          refine step_append_src (by rfl) _ _ _ (by rfl) Z10.heap.size 47 i0 (.agg #[.int .i64 0, .bool false]) 2 16 Try.underlying26 hi hz0 hz1 hz2 (by rfl) (by decide) _ ln (l.flatMap kiC) (by rfl) HOr.out (some ⟨gl, 0, none⟩) 1 1 [.int .i64 kt, .bool kd] (by rfl) (by rfl) (fun c => (by cases c)) (lit_new HLk.out) (by simp [Value.oneCell']) (by unfold maxLen; omega) (by omega) HSC.out (fun v2 X6 hown hg => ?_)
          obtain ⟨A6r, c6r, rfl⟩ := own_slice hown
          have HBA := Lib.hid (below_append hHeld.2 HOr.out (Nat.le_refl _) HSC.out hg)
          replace HQa := Lib.hid (HQa.out.grown (by decide) HOr.out hg)
          replace HOr := Lib.hid hown
          replace HSC := Lib.hid (show Z10.heap.size ≤ X6.heap.size from HBA.out.size)
          clear hown hg
          refine hK.out _ _ ⟨⟨kc HBA.out x0, kc HBA.out x1, kc HBA.out k0, kc HBA.out k1, trivial⟩, HBA.out⟩ (fun hHeld => ?_)
          clear hK K
          (try simp only [Act.put, pt8])
          clear HBA
          refine wpAnyH_ready (rs := [8]) (by kernel_rfl) (by simp) ?_
          refine AllReadyH.cons rfl (fun K hK => ?_) AllReadyH.nil
          go_simp
          refine (run_any (l := l ++ [(kt, kd)]) wk _ (HPZ.out _ (chain HB.out hHeld.2)) (Rw.own (show OwnKi _ _ _ (l ++ [(kt, kd)]) from by unfold OwnKi; rw [show (l ++ [(kt, kd)]).length = ln + 1 from by rw [List.length_append, HLN.out]; rfl, List.flatMap_append]; exact HOr.out) (Nat.le_refl _)) (Nat.le_refl _) HRP.out HN6.out).mono ?_
          rintro e X8 ⟨vm, vt, ps13, rfl, hos, hb⟩
          rw [HR13.out] at hos ⊢
          dsimp only at hos ⊢
          obtain ⟨A13, c13, rfl⟩ := own_slice hos.mem
          obtain ⟨B13, e13, rfl⟩ := own_slice hos.ths
          have HOs := Lib.hid (show OwnSt 0 X8 _ _ s13 ps13 from hos.base (Nat.zero_le _))
          have HBA := Lib.hid (chain hHeld.2 hb)
          replace HQa := Lib.hid (HQa.out.below hb HQa.out.lt)
          replace HSC := Lib.hid (show Z10.heap.size ≤ X8.heap.size from HBA.out.size)
          refine hK.out _ _ ⟨⟨kc HBA.out x0, kc HBA.out x1, kc HBA.out k0, kc HBA.out k1, trivial⟩, HBA.out⟩ (fun hHeld => ?_)
          clear hK K
          (try simp only [Act.put, pt8])
          clear hb hos HBA HOr HLk
          refine wpAnyH_take (i := 9) (v := ?_) rfl (by kernel_rfl) (by kernel_rfl) (by kernel_rfl) (fun _ _ _ h => h) (Or.inl ⟨by rfl, ?_⟩) (by assumption) ?_
          rotate_left
          · intro w hSw; (try dsimp only at hSw); go_simp; (try with_reducible rfl)
          (try simp only [Act.put, pt8])
          refine wpAnyH_take (i := 10) (v := ?_) rfl (by kernel_rfl) (by kernel_rfl) (by kernel_rfl) (fun _ _ _ h => h) (Or.inl ⟨by rfl, ?_⟩) (by assumption) ?_
          rotate_left
          · intro w hSw; (try dsimp only at hSw); go_simp; (try with_reducible rfl)
          (try simp only [Act.put, pt8])
          refine wpAnyH_take (i := 11) (v := ?_) rfl (by kernel_rfl) (by kernel_rfl) (by kernel_rfl) (fun _ _ _ h => h) (Or.inl ⟨by rfl, ?_⟩) (by assumption) ?_
          rotate_left
          · intro w hSw; (try dsimp only at hSw); go_simp; (try with_reducible rfl)
          (try simp only [Act.put, pt8])
          refine wpAnyH_take (i := 12) (v := ?_) rfl (by kernel_rfl) (by kernel_rfl) (by kernel_rfl) (fun _ _ _ h => h) (Or.inl ⟨by rfl, ?_⟩) (by assumption) ?_
          rotate_left
          · intro w hSw; (try dsimp only at hSw); go_simp; (try with_reducible rfl)
          (try simp only [Act.put, pt8])
          refine wpAnyH_ready (rs := [14]) (by kernel_rfl) (by simp) ?_
          refine AllReadyH.cons rfl (fun K hK => ?_) AllReadyH.nil
          have z0 := HQa.out.cell 0 _ rfl
          have z1 := HQa.out.cell 1 _ rfl
          have u0 := HQa.out.frozen 0
          have u1 := HQa.out.frozen 1
          have HBS2 := Lib.hid (show Below Z10.heap.size Z10 ((X8.setCell ⟨ga, 0, none⟩ (.slice A13 s13.mem.length c13)).setCell ⟨ga, 1, none⟩ (.slice B13 s13.ths.length e13)) from (hHeld.2.setCell (p := ⟨ga, 0, none⟩) HGA.out _).setCell (p := ⟨ga, 1, none⟩) HGA.out _)
          have HQS := Lib.hid (show BoxC ((X8.setCell ⟨ga, 0, none⟩ (.slice A13 s13.mem.length c13)).setCell ⟨ga, 1, none⟩ (.slice B13 s13.ths.length e13)) ga 31 #[(.slice A13 s13.mem.length c13), (.slice B13 s13.ths.length e13)] from (HQa.out.set 0 _).set 1 _)
          have HOS := Lib.hid (show OwnSt 0 ((X8.setCell ⟨ga, 0, none⟩ (.slice A13 s13.mem.length c13)).setCell ⟨ga, 1, none⟩ (.slice B13 s13.ths.length e13)) (.slice A13 s13.mem.length c13) (.slice B13 s13.ths.length e13) s13 ps13 from (HOs.out.box HQa.out (by decide) (by decide) (by decide) 0 _).box (HQa.out.set 0 _) (by decide) (by decide) (by decide) 1 _)
          go_simp
          refine hK.out _ _ ⟨⟨kc HBS2.out x0, kc HBS2.out x1, kc HBS2.out k0, kc HBS2.out k1, trivial⟩, HBS2.out⟩ (fun hHeld => ?_)
          clear z0 z1 u0 u1
          clear hK K
          (try simp only [Act.put, pt8])
          refine wpAnyH_ready (rs := [15]) (by kernel_rfl) (by simp) ?_
          refine AllReadyH.cons rfl (fun K hK => ?_) AllReadyH.nil
          go_simp
          refine hK.out _ _ hHeld (fun hHeld => ?_)
          clear hK K
          (try simp only [Act.put, pt8])
          refine wpAnyH_ready (rs := [16]) (by kernel_rfl) (by simp) ?_
          refine AllReadyH.cons rfl (fun K hK => ?_) AllReadyH.nil
          go_simp
          refine hK.out _ _ hHeld (fun hHeld => ?_)
          clear hK K
          (try simp only [Act.put, pt8])
          refine wpAnyH_done (by kernel_rfl) ?_ _
          clear hHeld
          go_wp2_with fail
          go_meet
          exact ⟨ga, A13, c13, B13, e13, ps13, rfl, rfl, rfl, HQS.out, HOS.out, HBS2.out⟩
      · -- 13 first
        have HBA := Lib.hid (hHeld.2.alloc hHeld.2.size (.cells #[.slice none 0 0, .slice none 0 0] 31))
        go_simp
        refine hK.out _ _ ⟨⟨kc HBA.out x0, kc HBA.out x1, kc HBA.out k0, kc HBA.out k1, trivial⟩, HBA.out⟩ (fun hHeld => ?_)
        clear hK K
        (try simp only [Act.put, pt8])
        have HAL := Lib.hid (below_al (Below.refl X1.heap.size X1) (.cells #[.slice none 0 0, .slice none 0 0] 31))
        obtain ⟨Xd, hXn⟩ : ∃ W, W = X1.alloc (.cells #[.slice none 0 0, .slice none 0 0] 31) := ⟨_, rfl⟩
        obtain ⟨ga, hgn⟩ : ∃ g, g = X1.heap.size := ⟨_, rfl⟩
        have HSZ := Lib.hid (show Z10.heap.size ≤ ga from by rw [hgn]; exact HSC.out)
        have HQn := Lib.hid (show BoxC Xd ga 31 #[.slice none 0 0, .slice none 0 0] from by rw [hXn, hgn]; exact BoxC.new X1 _ _)
        skip
        rw [← hXn] at hHeld HBA HAL ⊢
        (try rw [← hgn])
        replace HOr := Lib.hid (own_below HOr.out HAL.out)
        have HQa := HQn
        have HGA := HSZ
        clear HQn
        replace HSC := Lib.hid (show Z10.heap.size ≤ Xd.heap.size from HBA.out.size)
        clear hXn hgn HAL HSZ HBA
        refine wpAnyH_ready (rs := [3, 5]) (by kernel_rfl) (by simp) ?_
        refine AllReadyH.cons rfl (fun K hK => ?_) (AllReadyH.cons rfl (fun K hK => ?_) (AllReadyH.nil))
        · -- 3 first
          refine step_append_src (by rfl) _ _ _ (by rfl) Z10.heap.size 47 i0 (.agg #[.int .i64 0, .bool false]) 2 16 Try.underlying26 hi hz0 hz1 hz2 (by rfl) (by decide) _ 0 [] (by rfl) HOr.out Al ln cl (l.flatMap kiC) (by rfl) (by rw [HLN.out]; exact fl_len kiC_len l) (fun h => by rw [HLN.out]; exact HQ00.out h) (HSRC.out _ (HB.out.trans (hHeld.2.mono HB.out.size))) (one_ki l) (by unfold maxLen; omega) (by omega) HSC.out (fun v2 X3 hown hg => ?_)
          rw [Nat.zero_add, List.nil_append] at hown
          obtain ⟨A3r, c3r, rfl⟩ := own_slice hown
          have HBA := Lib.hid (below_append hHeld.2 HOr.out (Nat.le_refl _) HSC.out hg)
          replace HQa := Lib.hid (HQa.out.grown (by decide) HOr.out hg)
          replace HOr := Lib.hid hown
          replace HSC := Lib.hid (show Z10.heap.size ≤ X3.heap.size from HBA.out.size)
          clear hown hg
          refine hK.out _ _ ⟨⟨kc HBA.out x0, kc HBA.out x1, kc HBA.out k0, kc HBA.out k1, trivial⟩, HBA.out⟩ (fun hHeld => ?_)
          clear hK K
          (try simp only [Act.put, pt8])
          clear HBA
          refine wpAnyH_ready (rs := [5]) (by kernel_rfl) (by simp) ?_
          refine AllReadyH.cons rfl (fun K hK => ?_) AllReadyH.nil
          have HBA := Lib.hid (hHeld.2.alloc hHeld.2.size (.cells #[.int .i64 kt, .bool kd] 47))
          go_simp
          refine hK.out _ _ ⟨⟨kc HBA.out x0, kc HBA.out x1, kc HBA.out k0, kc HBA.out k1, trivial⟩, HBA.out⟩ (fun hHeld => ?_)
          clear hK K
          (try simp only [Act.put, pt8])
          have HAL := Lib.hid (below_al (Below.refl X3.heap.size X3) (.cells #[.int .i64 kt, .bool kd] 47))
          obtain ⟨X5, hXn⟩ : ∃ W, W = X3.alloc (.cells #[.int .i64 kt, .bool kd] 47) := ⟨_, rfl⟩
          obtain ⟨gl, hgn⟩ : ∃ g, g = X3.heap.size := ⟨_, rfl⟩
          have HSZ := Lib.hid (show Z10.heap.size ≤ gl from by rw [hgn]; exact HSC.out)
          have HLn := Lib.hid (show BoxC X5 gl 47 #[.int .i64 kt, .bool kd] from by rw [hXn, hgn]; exact BoxC.new X3 _ _)
          rw [← hXn] at hHeld HBA HAL ⊢
          (try rw [← hgn])
          replace HOr := Lib.hid (own_below HOr.out HAL.out)
          replace HQa := Lib.hid (HQa.out.below HAL.out HQa.out.lt)
          have HLk := HLn
          clear HLn
          replace HSC := Lib.hid (show Z10.heap.size ≤ X5.heap.size from HBA.out.size)
          clear hXn hgn HAL HSZ HBA
          refine wpAnyH_ready (rs := [6]) (by kernel_rfl) (by simp) ?_
          refine AllReadyH.cons rfl (fun K hK => ?_) AllReadyH.nil
          refine step_append_src (by rfl) _ _ _ (by rfl) Z10.heap.size 47 i0 (.agg #[.int .i64 0, .bool false]) 2 16 Try.underlying26 hi hz0 hz1 hz2 (by rfl) (by decide) _ ln (l.flatMap kiC) (by rfl) HOr.out (some ⟨gl, 0, none⟩) 1 1 [.int .i64 kt, .bool kd] (by rfl) (by rfl) (fun c => (by cases c)) (lit_new HLk.out) (by simp [Value.oneCell']) (by unfold maxLen; omega) (by omega) HSC.out (fun v2 X6 hown hg => ?_)
          obtain ⟨A6r, c6r, rfl⟩ := own_slice hown
          have HBA := Lib.hid (below_append hHeld.2 HOr.out (Nat.le_refl _) HSC.out hg)
          replace HQa := Lib.hid (HQa.out.grown (by decide) HOr.out hg)
          replace HOr := Lib.hid hown
          replace HSC := Lib.hid (show Z10.heap.size ≤ X6.heap.size from HBA.out.size)
          clear hown hg
          refine hK.out _ _ ⟨⟨kc HBA.out x0, kc HBA.out x1, kc HBA.out k0, kc HBA.out k1, trivial⟩, HBA.out⟩ (fun hHeld => ?_)
          clear hK K
          (try simp only [Act.put, pt8])
          clear HBA
          refine wpAnyH_ready (rs := [8]) (by kernel_rfl) (by simp) ?_
          refine AllReadyH.cons rfl (fun K hK => ?_) AllReadyH.nil
          go_simp
          refine (run_any (l := l ++ [(kt, kd)]) wk _ (HPZ.out _ (chain HB.out hHeld.2)) (Rw.own (show OwnKi _ _ _ (l ++ [(kt, kd)]) from by unfold OwnKi; rw [show (l ++ [(kt, kd)]).length = ln + 1 from by rw [List.length_append, HLN.out]; rfl, List.flatMap_append]; exact HOr.out) (Nat.le_refl _)) (Nat.le_refl _) HRP.out HN6.out).mono ?_
          rintro e X8 ⟨vm, vt, ps13, rfl, hos, hb⟩
          rw [HR13.out] at hos ⊢
          dsimp only at hos ⊢
          obtain ⟨A13, c13, rfl⟩ := own_slice hos.mem
          obtain ⟨B13, e13, rfl⟩ := own_slice hos.ths
          have HOs := Lib.hid (show OwnSt 0 X8 _ _ s13 ps13 from hos.base (Nat.zero_le _))
          have HBA := Lib.hid (chain hHeld.2 hb)
          replace HQa := Lib.hid (HQa.out.below hb HQa.out.lt)
          replace HSC := Lib.hid (show Z10.heap.size ≤ X8.heap.size from HBA.out.size)
          refine hK.out _ _ ⟨⟨kc HBA.out x0, kc HBA.out x1, kc HBA.out k0, kc HBA.out k1, trivial⟩, HBA.out⟩ (fun hHeld => ?_)
          clear hK K
          (try simp only [Act.put, pt8])
          clear hb hos HBA HOr HLk
          refine wpAnyH_take (i := 9) (v := ?_) rfl (by kernel_rfl) (by kernel_rfl) (by kernel_rfl) (fun _ _ _ h => h) (Or.inl ⟨by rfl, ?_⟩) (by assumption) ?_
          rotate_left
          · intro w hSw; (try dsimp only at hSw); go_simp; (try with_reducible rfl)
          (try simp only [Act.put, pt8])
          refine wpAnyH_take (i := 10) (v := ?_) rfl (by kernel_rfl) (by kernel_rfl) (by kernel_rfl) (fun _ _ _ h => h) (Or.inl ⟨by rfl, ?_⟩) (by assumption) ?_
          rotate_left
          · intro w hSw; (try dsimp only at hSw); go_simp; (try with_reducible rfl)
          (try simp only [Act.put, pt8])
          refine wpAnyH_take (i := 11) (v := ?_) rfl (by kernel_rfl) (by kernel_rfl) (by kernel_rfl) (fun _ _ _ h => h) (Or.inl ⟨by rfl, ?_⟩) (by assumption) ?_
          rotate_left
          · intro w hSw; (try dsimp only at hSw); go_simp; (try with_reducible rfl)
          (try simp only [Act.put, pt8])
          refine wpAnyH_take (i := 12) (v := ?_) rfl (by kernel_rfl) (by kernel_rfl) (by kernel_rfl) (fun _ _ _ h => h) (Or.inl ⟨by rfl, ?_⟩) (by assumption) ?_
          rotate_left
          · intro w hSw; (try dsimp only at hSw); go_simp; (try with_reducible rfl)
          (try simp only [Act.put, pt8])
          refine wpAnyH_ready (rs := [14]) (by kernel_rfl) (by simp) ?_
          refine AllReadyH.cons rfl (fun K hK => ?_) AllReadyH.nil
          have z0 := HQa.out.cell 0 _ rfl
          have z1 := HQa.out.cell 1 _ rfl
          have u0 := HQa.out.frozen 0
          have u1 := HQa.out.frozen 1
          have HBS2 := Lib.hid (show Below Z10.heap.size Z10 ((X8.setCell ⟨ga, 0, none⟩ (.slice A13 s13.mem.length c13)).setCell ⟨ga, 1, none⟩ (.slice B13 s13.ths.length e13)) from (hHeld.2.setCell (p := ⟨ga, 0, none⟩) HGA.out _).setCell (p := ⟨ga, 1, none⟩) HGA.out _)
          have HQS := Lib.hid (show BoxC ((X8.setCell ⟨ga, 0, none⟩ (.slice A13 s13.mem.length c13)).setCell ⟨ga, 1, none⟩ (.slice B13 s13.ths.length e13)) ga 31 #[(.slice A13 s13.mem.length c13), (.slice B13 s13.ths.length e13)] from (HQa.out.set 0 _).set 1 _)
          have HOS := Lib.hid (show OwnSt 0 ((X8.setCell ⟨ga, 0, none⟩ (.slice A13 s13.mem.length c13)).setCell ⟨ga, 1, none⟩ (.slice B13 s13.ths.length e13)) (.slice A13 s13.mem.length c13) (.slice B13 s13.ths.length e13) s13 ps13 from (HOs.out.box HQa.out (by decide) (by decide) (by decide) 0 _).box (HQa.out.set 0 _) (by decide) (by decide) (by decide) 1 _)
          go_simp
          refine hK.out _ _ ⟨⟨kc HBS2.out x0, kc HBS2.out x1, kc HBS2.out k0, kc HBS2.out k1, trivial⟩, HBS2.out⟩ (fun hHeld => ?_)
          clear z0 z1 u0 u1
          clear hK K
          (try simp only [Act.put, pt8])
          refine wpAnyH_ready (rs := [15]) (by kernel_rfl) (by simp) ?_
          refine AllReadyH.cons rfl (fun K hK => ?_) AllReadyH.nil
          go_simp
          refine hK.out _ _ hHeld (fun hHeld => ?_)
          clear hK K
          (try simp only [Act.put, pt8])
          refine wpAnyH_ready (rs := [16]) (by kernel_rfl) (by simp) ?_
          refine AllReadyH.cons rfl (fun K hK => ?_) AllReadyH.nil
          go_simp
          refine hK.out _ _ hHeld (fun hHeld => ?_)
          clear hK K
          (try simp only [Act.put, pt8])
          refine wpAnyH_done (by kernel_rfl) ?_ _
          clear hHeld
          go_wp2_with fail
          go_meet
          exact ⟨ga, A13, c13, B13, e13, ps13, rfl, rfl, rfl, HQS.out, HOS.out, HBS2.out⟩
        · -- 5 first
          have HBA := Lib.hid (hHeld.2.alloc hHeld.2.size (.cells #[.int .i64 kt, .bool kd] 47))
          go_simp
          refine hK.out _ _ ⟨⟨kc HBA.out x0, kc HBA.out x1, kc HBA.out k0, kc HBA.out k1, trivial⟩, HBA.out⟩ (fun hHeld => ?_)
          clear hK K
          (try simp only [Act.put, pt8])
          have HAL := Lib.hid (below_al (Below.refl Xd.heap.size Xd) (.cells #[.int .i64 kt, .bool kd] 47))
          obtain ⟨X5, hXn⟩ : ∃ W, W = Xd.alloc (.cells #[.int .i64 kt, .bool kd] 47) := ⟨_, rfl⟩
          obtain ⟨gl, hgn⟩ : ∃ g, g = Xd.heap.size := ⟨_, rfl⟩
          have HSZ := Lib.hid (show Z10.heap.size ≤ gl from by rw [hgn]; exact HSC.out)
          have HLn := Lib.hid (show BoxC X5 gl 47 #[.int .i64 kt, .bool kd] from by rw [hXn, hgn]; exact BoxC.new Xd _ _)
          have HNE := Lib.hid (show g1 ≠ gl from by have := (HOr.out.lt g1 rfl).2; change g1 < Xd.heap.size at this; omega)
          rw [← hXn] at hHeld HBA HAL ⊢
          (try rw [← hgn])
          replace HOr := Lib.hid (own_below HOr.out HAL.out)
          replace HQa := Lib.hid (HQa.out.below HAL.out HQa.out.lt)
          have HLk := HLn
          clear HLn
          replace HSC := Lib.hid (show Z10.heap.size ≤ X5.heap.size from HBA.out.size)
          clear hXn hgn HAL HSZ HBA
          refine wpAnyH_ready (rs := [3]) (by kernel_rfl) (by simp) ?_
          refine AllReadyH.cons rfl (fun K hK => ?_) AllReadyH.nil
          refine step_append_src (by rfl) _ _ _ (by rfl) Z10.heap.size 47 i0 (.agg #[.int .i64 0, .bool false]) 2 16 Try.underlying26 hi hz0 hz1 hz2 (by rfl) (by decide) _ 0 [] (by rfl) HOr.out Al ln cl (l.flatMap kiC) (by rfl) (by rw [HLN.out]; exact fl_len kiC_len l) (fun h => by rw [HLN.out]; exact HQ00.out h) (HSRC.out _ (HB.out.trans (hHeld.2.mono HB.out.size))) (one_ki l) (by unfold maxLen; omega) (by omega) HSC.out (fun v2 X3 hown hg => ?_)
          rw [Nat.zero_add, List.nil_append] at hown
          obtain ⟨A3r, c3r, rfl⟩ := own_slice hown
          have HBA := Lib.hid (below_append hHeld.2 HOr.out (Nat.le_refl _) HSC.out hg)
          replace HQa := Lib.hid (HQa.out.grown (by decide) HOr.out hg)
          replace HLk := Lib.hid (show BoxC X3 gl 47 #[.int .i64 kt, .bool kd] from (hg.block gl HLk.out.lt (fun e => by injection e with e; exact HNE.out e.symm)).trans HLk.out)
          replace HOr := Lib.hid hown
          replace HSC := Lib.hid (show Z10.heap.size ≤ X3.heap.size from HBA.out.size)
          clear hown hg
          refine hK.out _ _ ⟨⟨kc HBA.out x0, kc HBA.out x1, kc HBA.out k0, kc HBA.out k1, trivial⟩, HBA.out⟩ (fun hHeld => ?_)
          clear hK K
          (try simp only [Act.put, pt8])
          clear HBA
          refine wpAnyH_ready (rs := [6]) (by kernel_rfl) (by simp) ?_
          refine AllReadyH.cons rfl (fun K hK => ?_) AllReadyH.nil
          refine step_append_src (by rfl) _ _ _ (by rfl) Z10.heap.size 47 i0 (.agg #[.int .i64 0, .bool false]) 2 16 Try.underlying26 hi hz0 hz1 hz2 (by rfl) (by decide) _ ln (l.flatMap kiC) (by rfl) HOr.out (some ⟨gl, 0, none⟩) 1 1 [.int .i64 kt, .bool kd] (by rfl) (by rfl) (fun c => (by cases c)) (lit_new HLk.out) (by simp [Value.oneCell']) (by unfold maxLen; omega) (by omega) HSC.out (fun v2 X6 hown hg => ?_)
          obtain ⟨A6r, c6r, rfl⟩ := own_slice hown
          have HBA := Lib.hid (below_append hHeld.2 HOr.out (Nat.le_refl _) HSC.out hg)
          replace HQa := Lib.hid (HQa.out.grown (by decide) HOr.out hg)
          replace HOr := Lib.hid hown
          replace HSC := Lib.hid (show Z10.heap.size ≤ X6.heap.size from HBA.out.size)
          clear hown hg
          refine hK.out _ _ ⟨⟨kc HBA.out x0, kc HBA.out x1, kc HBA.out k0, kc HBA.out k1, trivial⟩, HBA.out⟩ (fun hHeld => ?_)
          clear hK K
          (try simp only [Act.put, pt8])
          clear HBA
          refine wpAnyH_ready (rs := [8]) (by kernel_rfl) (by simp) ?_
          refine AllReadyH.cons rfl (fun K hK => ?_) AllReadyH.nil
          go_simp
          refine (run_any (l := l ++ [(kt, kd)]) wk _ (HPZ.out _ (chain HB.out hHeld.2)) (Rw.own (show OwnKi _ _ _ (l ++ [(kt, kd)]) from by unfold OwnKi; rw [show (l ++ [(kt, kd)]).length = ln + 1 from by rw [List.length_append, HLN.out]; rfl, List.flatMap_append]; exact HOr.out) (Nat.le_refl _)) (Nat.le_refl _) HRP.out HN6.out).mono ?_
          rintro e X8 ⟨vm, vt, ps13, rfl, hos, hb⟩
          rw [HR13.out] at hos ⊢
          dsimp only at hos ⊢
          obtain ⟨A13, c13, rfl⟩ := own_slice hos.mem
          obtain ⟨B13, e13, rfl⟩ := own_slice hos.ths
          have HOs := Lib.hid (show OwnSt 0 X8 _ _ s13 ps13 from hos.base (Nat.zero_le _))
          have HBA := Lib.hid (chain hHeld.2 hb)
          replace HQa := Lib.hid (HQa.out.below hb HQa.out.lt)
          replace HSC := Lib.hid (show Z10.heap.size ≤ X8.heap.size from HBA.out.size)
          refine hK.out _ _ ⟨⟨kc HBA.out x0, kc HBA.out x1, kc HBA.out k0, kc HBA.out k1, trivial⟩, HBA.out⟩ (fun hHeld => ?_)
          clear hK K
          (try simp only [Act.put, pt8])
          clear hb hos HBA HOr HLk
          refine wpAnyH_take (i := 9) (v := ?_) rfl (by kernel_rfl) (by kernel_rfl) (by kernel_rfl) (fun _ _ _ h => h) (Or.inl ⟨by rfl, ?_⟩) (by assumption) ?_
          rotate_left
          · intro w hSw; (try dsimp only at hSw); go_simp; (try with_reducible rfl)
          (try simp only [Act.put, pt8])
          refine wpAnyH_take (i := 10) (v := ?_) rfl (by kernel_rfl) (by kernel_rfl) (by kernel_rfl) (fun _ _ _ h => h) (Or.inl ⟨by rfl, ?_⟩) (by assumption) ?_
          rotate_left
          · intro w hSw; (try dsimp only at hSw); go_simp; (try with_reducible rfl)
          (try simp only [Act.put, pt8])
          refine wpAnyH_take (i := 11) (v := ?_) rfl (by kernel_rfl) (by kernel_rfl) (by kernel_rfl) (fun _ _ _ h => h) (Or.inl ⟨by rfl, ?_⟩) (by assumption) ?_
          rotate_left
          · intro w hSw; (try dsimp only at hSw); go_simp; (try with_reducible rfl)
          (try simp only [Act.put, pt8])
          refine wpAnyH_take (i := 12) (v := ?_) rfl (by kernel_rfl) (by kernel_rfl) (by kernel_rfl) (fun _ _ _ h => h) (Or.inl ⟨by rfl, ?_⟩) (by assumption) ?_
          rotate_left
          · intro w hSw; (try dsimp only at hSw); go_simp; (try with_reducible rfl)
          (try simp only [Act.put, pt8])
          refine wpAnyH_ready (rs := [14]) (by kernel_rfl) (by simp) ?_
          refine AllReadyH.cons rfl (fun K hK => ?_) AllReadyH.nil
          have z0 := HQa.out.cell 0 _ rfl
          have z1 := HQa.out.cell 1 _ rfl
          have u0 := HQa.out.frozen 0
          have u1 := HQa.out.frozen 1
          have HBS2 := Lib.hid (show Below Z10.heap.size Z10 ((X8.setCell ⟨ga, 0, none⟩ (.slice A13 s13.mem.length c13)).setCell ⟨ga, 1, none⟩ (.slice B13 s13.ths.length e13)) from (hHeld.2.setCell (p := ⟨ga, 0, none⟩) HGA.out _).setCell (p := ⟨ga, 1, none⟩) HGA.out _)
          have HQS := Lib.hid (show BoxC ((X8.setCell ⟨ga, 0, none⟩ (.slice A13 s13.mem.length c13)).setCell ⟨ga, 1, none⟩ (.slice B13 s13.ths.length e13)) ga 31 #[(.slice A13 s13.mem.length c13), (.slice B13 s13.ths.length e13)] from (HQa.out.set 0 _).set 1 _)
          have HOS := Lib.hid (show OwnSt 0 ((X8.setCell ⟨ga, 0, none⟩ (.slice A13 s13.mem.length c13)).setCell ⟨ga, 1, none⟩ (.slice B13 s13.ths.length e13)) (.slice A13 s13.mem.length c13) (.slice B13 s13.ths.length e13) s13 ps13 from (HOs.out.box HQa.out (by decide) (by decide) (by decide) 0 _).box (HQa.out.set 0 _) (by decide) (by decide) (by decide) 1 _)
          go_simp
          refine hK.out _ _ ⟨⟨kc HBS2.out x0, kc HBS2.out x1, kc HBS2.out k0, kc HBS2.out k1, trivial⟩, HBS2.out⟩ (fun hHeld => ?_)
          clear z0 z1 u0 u1
          clear hK K
          (try simp only [Act.put, pt8])
          refine wpAnyH_ready (rs := [15]) (by kernel_rfl) (by simp) ?_
          refine AllReadyH.cons rfl (fun K hK => ?_) AllReadyH.nil
          go_simp
          refine hK.out _ _ hHeld (fun hHeld => ?_)
          clear hK K
          (try simp only [Act.put, pt8])
          refine wpAnyH_ready (rs := [16]) (by kernel_rfl) (by simp) ?_
          refine AllReadyH.cons rfl (fun K hK => ?_) AllReadyH.nil
          go_simp
          refine hK.out _ _ hHeld (fun hHeld => ?_)
          clear hK K
          (try simp only [Act.put, pt8])
          refine wpAnyH_done (by kernel_rfl) ?_ _
          clear hHeld
          go_wp2_with fail
          go_meet
          exact ⟨ga, A13, c13, B13, e13, ps13, rfl, rfl, rfl, HQS.out, HOS.out, HBS2.out⟩
    · -- 5 first
      have HBA := Lib.hid (hHeld.2.alloc hHeld.2.size (.cells #[.int .i64 kt, .bool kd] 47))
      go_simp
      refine hK.out _ _ ⟨⟨kc HBA.out x0, kc HBA.out x1, kc HBA.out k0, kc HBA.out k1, trivial⟩, HBA.out⟩ (fun hHeld => ?_)
      clear hK K
      (try simp only [Act.put, pt8])
      have HAL := Lib.hid (below_al (Below.refl Xs.heap.size Xs) (.cells #[.int .i64 kt, .bool kd] 47))
      obtain ⟨X5, hXn⟩ : ∃ W, W = Xs.alloc (.cells #[.int .i64 kt, .bool kd] 47) := ⟨_, rfl⟩
      obtain ⟨gl, hgn⟩ : ∃ g, g = Xs.heap.size := ⟨_, rfl⟩
      have HSZ := Lib.hid (show Z10.heap.size ≤ gl from by rw [hgn]; exact HSC.out)
      have HLn := Lib.hid (show BoxC X5 gl 47 #[.int .i64 kt, .bool kd] from by rw [hXn, hgn]; exact BoxC.new Xs _ _)
      rw [← hXn] at hHeld HBA HAL ⊢
      (try rw [← hgn])
      have HLk := HLn
      clear HLn
      replace HSC := Lib.hid (show Z10.heap.size ≤ X5.heap.size from HBA.out.size)
      clear hXn hgn HAL HSZ HBA
      refine wpAnyH_ready (rs := [1, 13]) (by kernel_rfl) (by simp) ?_
      refine AllReadyH.cons rfl (fun K hK => ?_) (AllReadyH.cons rfl (fun K hK => ?_) (AllReadyH.nil))
      · -- 1 first
        have HBA := Lib.hid (hHeld.2.alloc hHeld.2.size (.cells #[] 47))
        go_simp
        refine hK.out _ _ ⟨⟨kc HBA.out x0, kc HBA.out x1, kc HBA.out k0, kc HBA.out k1, trivial⟩, HBA.out⟩ (fun hHeld => ?_)
        clear hK K
        (try simp only [Act.put, pt8])
        have HAL := Lib.hid (below_al (Below.refl X5.heap.size X5) (.cells #[] 47))
        obtain ⟨X1, hXn⟩ : ∃ W, W = X5.alloc (.cells #[] 47) := ⟨_, rfl⟩
        obtain ⟨g1, hgn⟩ : ∃ g, g = X5.heap.size := ⟨_, rfl⟩
        have HSZ := Lib.hid (show Z10.heap.size ≤ g1 from by rw [hgn]; exact HSC.out)
        have HOn := Lib.hid (show X1.ownsRow Z10.heap.size 47 2 (.slice (some ⟨g1, 0, none⟩) 0 0) 0 [] from by rw [hXn, hgn]; exact World.ownsRow_lit (base := Z10.heap.size) (e := 47) (size := 2) X5 #[] 0 HSC.out (by decide) rfl)
        have HNE := Lib.hid (show g1 ≠ gl from by have := HLk.out.lt; omega)
        rw [← hXn] at hHeld HBA HAL ⊢
        (try rw [← hgn])
        replace HLk := Lib.hid (HLk.out.below HAL.out HLk.out.lt)
        have HOr := HOn
        clear HOn
        replace HSC := Lib.hid (show Z10.heap.size ≤ X1.heap.size from HBA.out.size)
        clear hXn hgn HAL HSZ HBA
        refine wpAnyH_ready (rs := [3, 13]) (by kernel_rfl) (by simp) ?_
        refine AllReadyH.cons rfl (fun K hK => ?_) (AllReadyH.cons rfl (fun K hK => ?_) (AllReadyH.nil))
        · -- 3 first
          refine step_append_src (by rfl) _ _ _ (by rfl) Z10.heap.size 47 i0 (.agg #[.int .i64 0, .bool false]) 2 16 Try.underlying26 hi hz0 hz1 hz2 (by rfl) (by decide) _ 0 [] (by rfl) HOr.out Al ln cl (l.flatMap kiC) (by rfl) (by rw [HLN.out]; exact fl_len kiC_len l) (fun h => by rw [HLN.out]; exact HQ00.out h) (HSRC.out _ (HB.out.trans (hHeld.2.mono HB.out.size))) (one_ki l) (by unfold maxLen; omega) (by omega) HSC.out (fun v2 X3 hown hg => ?_)
          rw [Nat.zero_add, List.nil_append] at hown
          obtain ⟨A3r, c3r, rfl⟩ := own_slice hown
          have HBA := Lib.hid (below_append hHeld.2 HOr.out (Nat.le_refl _) HSC.out hg)
          replace HLk := Lib.hid (show BoxC X3 gl 47 #[.int .i64 kt, .bool kd] from (hg.block gl HLk.out.lt (fun e => by injection e with e; exact HNE.out e.symm)).trans HLk.out)
          replace HOr := Lib.hid hown
          replace HSC := Lib.hid (show Z10.heap.size ≤ X3.heap.size from HBA.out.size)
          clear hown hg
          refine hK.out _ _ ⟨⟨kc HBA.out x0, kc HBA.out x1, kc HBA.out k0, kc HBA.out k1, trivial⟩, HBA.out⟩ (fun hHeld => ?_)
          clear hK K
          (try simp only [Act.put, pt8])
          clear HBA
          refine wpAnyH_ready (rs := [6, 13]) (by kernel_rfl) (by simp) ?_
          refine AllReadyH.cons rfl (fun K hK => ?_) (AllReadyH.cons rfl (fun K hK => ?_) (AllReadyH.nil))
          · -- 6 first
            refine step_append_src (by rfl) _ _ _ (by rfl) Z10.heap.size 47 i0 (.agg #[.int .i64 0, .bool false]) 2 16 Try.underlying26 hi hz0 hz1 hz2 (by rfl) (by decide) _ ln (l.flatMap kiC) (by rfl) HOr.out (some ⟨gl, 0, none⟩) 1 1 [.int .i64 kt, .bool kd] (by rfl) (by rfl) (fun c => (by cases c)) (lit_new HLk.out) (by simp [Value.oneCell']) (by unfold maxLen; omega) (by omega) HSC.out (fun v2 X6 hown hg => ?_)
            obtain ⟨A6r, c6r, rfl⟩ := own_slice hown
            have HBA := Lib.hid (below_append hHeld.2 HOr.out (Nat.le_refl _) HSC.out hg)
            replace HOr := Lib.hid hown
            replace HSC := Lib.hid (show Z10.heap.size ≤ X6.heap.size from HBA.out.size)
            clear hown hg
            refine hK.out _ _ ⟨⟨kc HBA.out x0, kc HBA.out x1, kc HBA.out k0, kc HBA.out k1, trivial⟩, HBA.out⟩ (fun hHeld => ?_)
            clear hK K
            (try simp only [Act.put, pt8])
            clear HBA
            refine wpAnyH_ready (rs := [8, 13]) (by kernel_rfl) (by simp) ?_
            refine AllReadyH.cons rfl (fun K hK => ?_) (AllReadyH.cons rfl (fun K hK => ?_) (AllReadyH.nil))
            · -- 8 first
              go_simp
              refine (run_any (l := l ++ [(kt, kd)]) wk _ (HPZ.out _ (chain HB.out hHeld.2)) (Rw.own (show OwnKi _ _ _ (l ++ [(kt, kd)]) from by unfold OwnKi; rw [show (l ++ [(kt, kd)]).length = ln + 1 from by rw [List.length_append, HLN.out]; rfl, List.flatMap_append]; exact HOr.out) (Nat.le_refl _)) (Nat.le_refl _) HRP.out HN6.out).mono ?_
              rintro e X8 ⟨vm, vt, ps13, rfl, hos, hb⟩
              rw [HR13.out] at hos ⊢
              dsimp only at hos ⊢
              obtain ⟨A13, c13, rfl⟩ := own_slice hos.mem
              obtain ⟨B13, e13, rfl⟩ := own_slice hos.ths
              have HOs := Lib.hid (show OwnSt 0 X8 _ _ s13 ps13 from hos.base (Nat.zero_le _))
              have HBA := Lib.hid (chain hHeld.2 hb)
              replace HSC := Lib.hid (show Z10.heap.size ≤ X8.heap.size from HBA.out.size)
              refine hK.out _ _ ⟨⟨kc HBA.out x0, kc HBA.out x1, kc HBA.out k0, kc HBA.out k1, trivial⟩, HBA.out⟩ (fun hHeld => ?_)
              clear hK K
              (try simp only [Act.put, pt8])
              clear hb hos HBA HOr HLk
              refine wpAnyH_take (i := 9) (v := ?_) rfl (by kernel_rfl) (by kernel_rfl) (by kernel_rfl) (fun _ _ _ h => h) (Or.inl ⟨by rfl, ?_⟩) (by assumption) ?_
              rotate_left
              · intro w hSw; (try dsimp only at hSw); go_simp; (try with_reducible rfl)
              (try simp only [Act.put, pt8])
              refine wpAnyH_take (i := 10) (v := ?_) rfl (by kernel_rfl) (by kernel_rfl) (by kernel_rfl) (fun _ _ _ h => h) (Or.inl ⟨by rfl, ?_⟩) (by assumption) ?_
              rotate_left
              · intro w hSw; (try dsimp only at hSw); go_simp; (try with_reducible rfl)
              (try simp only [Act.put, pt8])
              refine wpAnyH_take (i := 11) (v := ?_) rfl (by kernel_rfl) (by kernel_rfl) (by kernel_rfl) (fun _ _ _ h => h) (Or.inl ⟨by rfl, ?_⟩) (by assumption) ?_
              rotate_left
              · intro w hSw; (try dsimp only at hSw); go_simp; (try with_reducible rfl)
              (try simp only [Act.put, pt8])
              refine wpAnyH_take (i := 12) (v := ?_) rfl (by kernel_rfl) (by kernel_rfl) (by kernel_rfl) (fun _ _ _ h => h) (Or.inl ⟨by rfl, ?_⟩) (by assumption) ?_
              rotate_left
              · intro w hSw; (try dsimp only at hSw); go_simp; (try with_reducible rfl)
              (try simp only [Act.put, pt8])
              refine wpAnyH_ready (rs := [13]) (by kernel_rfl) (by simp) ?_
              refine AllReadyH.cons rfl (fun K hK => ?_) AllReadyH.nil
              have HBA := Lib.hid (hHeld.2.alloc hHeld.2.size (.cells #[.slice none 0 0, .slice none 0 0] 31))
              go_simp
              refine hK.out _ _ ⟨⟨kc HBA.out x0, kc HBA.out x1, kc HBA.out k0, kc HBA.out k1, trivial⟩, HBA.out⟩ (fun hHeld => ?_)
              clear hK K
              (try simp only [Act.put, pt8])
              have HAL := Lib.hid (below_al (Below.refl X8.heap.size X8) (.cells #[.slice none 0 0, .slice none 0 0] 31))
              obtain ⟨Xd, hXn⟩ : ∃ W, W = X8.alloc (.cells #[.slice none 0 0, .slice none 0 0] 31) := ⟨_, rfl⟩
              obtain ⟨ga, hgn⟩ : ∃ g, g = X8.heap.size := ⟨_, rfl⟩
              have HSZ := Lib.hid (show Z10.heap.size ≤ ga from by rw [hgn]; exact HSC.out)
              have HQn := Lib.hid (show BoxC Xd ga 31 #[.slice none 0 0, .slice none 0 0] from by rw [hXn, hgn]; exact BoxC.new X8 _ _)
              rw [← hXn] at hHeld HBA HAL ⊢
              (try rw [← hgn])
              replace HOs := Lib.hid (HOs.out.below HAL.out)
              have HQa := HQn
              have HGA := HSZ
              clear HQn
              replace HSC := Lib.hid (show Z10.heap.size ≤ Xd.heap.size from HBA.out.size)
              clear hXn hgn HAL HSZ HBA
              refine wpAnyH_ready (rs := [14]) (by kernel_rfl) (by simp) ?_
              refine AllReadyH.cons rfl (fun K hK => ?_) AllReadyH.nil
              have z0 := HQa.out.cell 0 _ rfl
              have z1 := HQa.out.cell 1 _ rfl
              have u0 := HQa.out.frozen 0
              have u1 := HQa.out.frozen 1
              have HBS2 := Lib.hid (show Below Z10.heap.size Z10 ((Xd.setCell ⟨ga, 0, none⟩ (.slice A13 s13.mem.length c13)).setCell ⟨ga, 1, none⟩ (.slice B13 s13.ths.length e13)) from (hHeld.2.setCell (p := ⟨ga, 0, none⟩) HGA.out _).setCell (p := ⟨ga, 1, none⟩) HGA.out _)
              have HQS := Lib.hid (show BoxC ((Xd.setCell ⟨ga, 0, none⟩ (.slice A13 s13.mem.length c13)).setCell ⟨ga, 1, none⟩ (.slice B13 s13.ths.length e13)) ga 31 #[(.slice A13 s13.mem.length c13), (.slice B13 s13.ths.length e13)] from (HQa.out.set 0 _).set 1 _)
              have HOS := Lib.hid (show OwnSt 0 ((Xd.setCell ⟨ga, 0, none⟩ (.slice A13 s13.mem.length c13)).setCell ⟨ga, 1, none⟩ (.slice B13 s13.ths.length e13)) (.slice A13 s13.mem.length c13) (.slice B13 s13.ths.length e13) s13 ps13 from (HOs.out.box HQa.out (by decide) (by decide) (by decide) 0 _).box (HQa.out.set 0 _) (by decide) (by decide) (by decide) 1 _)
              go_simp
              refine hK.out _ _ ⟨⟨kc HBS2.out x0, kc HBS2.out x1, kc HBS2.out k0, kc HBS2.out k1, trivial⟩, HBS2.out⟩ (fun hHeld => ?_)
              clear z0 z1 u0 u1
              clear hK K
              (try simp only [Act.put, pt8])
              refine wpAnyH_ready (rs := [15]) (by kernel_rfl) (by simp) ?_
              refine AllReadyH.cons rfl (fun K hK => ?_) AllReadyH.nil
              go_simp
              refine hK.out _ _ hHeld (fun hHeld => ?_)
              clear hK K
              (try simp only [Act.put, pt8])
              refine wpAnyH_ready (rs := [16]) (by kernel_rfl) (by simp) ?_
              refine AllReadyH.cons rfl (fun K hK => ?_) AllReadyH.nil
              go_simp
              refine hK.out _ _ hHeld (fun hHeld => ?_)
              clear hK K
              (try simp only [Act.put, pt8])
              refine wpAnyH_done (by kernel_rfl) ?_ _
              clear hHeld
              go_wp2_with fail
              go_meet
              exact ⟨ga, A13, c13, B13, e13, ps13, rfl, rfl, rfl, HQS.out, HOS.out, HBS2.out⟩
            · -- 13 first
              have HBA := Lib.hid (hHeld.2.alloc hHeld.2.size (.cells #[.slice none 0 0, .slice none 0 0] 31))
              go_simp
              refine hK.out _ _ ⟨⟨kc HBA.out x0, kc HBA.out x1, kc HBA.out k0, kc HBA.out k1, trivial⟩, HBA.out⟩ (fun hHeld => ?_)
              clear hK K
              (try simp only [Act.put, pt8])
              have HAL := Lib.hid (below_al (Below.refl X6.heap.size X6) (.cells #[.slice none 0 0, .slice none 0 0] 31))
              obtain ⟨Xd, hXn⟩ : ∃ W, W = X6.alloc (.cells #[.slice none 0 0, .slice none 0 0] 31) := ⟨_, rfl⟩
              obtain ⟨ga, hgn⟩ : ∃ g, g = X6.heap.size := ⟨_, rfl⟩
              have HSZ := Lib.hid (show Z10.heap.size ≤ ga from by rw [hgn]; exact HSC.out)
              have HQn := Lib.hid (show BoxC Xd ga 31 #[.slice none 0 0, .slice none 0 0] from by rw [hXn, hgn]; exact BoxC.new X6 _ _)
              skip
              rw [← hXn] at hHeld HBA HAL ⊢
              (try rw [← hgn])
              replace HOr := Lib.hid (own_below HOr.out HAL.out)
              have HQa := HQn
              have HGA := HSZ
              clear HQn
              replace HSC := Lib.hid (show Z10.heap.size ≤ Xd.heap.size from HBA.out.size)
              clear hXn hgn HAL HSZ HBA
              refine wpAnyH_ready (rs := [8]) (by kernel_rfl) (by simp) ?_
              refine AllReadyH.cons rfl (fun K hK => ?_) AllReadyH.nil
              go_simp
              refine (run_any (l := l ++ [(kt, kd)]) wk _ (HPZ.out _ (chain HB.out hHeld.2)) (Rw.own (show OwnKi _ _ _ (l ++ [(kt, kd)]) from by unfold OwnKi; rw [show (l ++ [(kt, kd)]).length = ln + 1 from by rw [List.length_append, HLN.out]; rfl, List.flatMap_append]; exact HOr.out) (Nat.le_refl _)) (Nat.le_refl _) HRP.out HN6.out).mono ?_
              rintro e X8 ⟨vm, vt, ps13, rfl, hos, hb⟩
              rw [HR13.out] at hos ⊢
              dsimp only at hos ⊢
              obtain ⟨A13, c13, rfl⟩ := own_slice hos.mem
              obtain ⟨B13, e13, rfl⟩ := own_slice hos.ths
              have HOs := Lib.hid (show OwnSt 0 X8 _ _ s13 ps13 from hos.base (Nat.zero_le _))
              have HBA := Lib.hid (chain hHeld.2 hb)
              replace HQa := Lib.hid (HQa.out.below hb HQa.out.lt)
              replace HSC := Lib.hid (show Z10.heap.size ≤ X8.heap.size from HBA.out.size)
              refine hK.out _ _ ⟨⟨kc HBA.out x0, kc HBA.out x1, kc HBA.out k0, kc HBA.out k1, trivial⟩, HBA.out⟩ (fun hHeld => ?_)
              clear hK K
              (try simp only [Act.put, pt8])
              clear hb hos HBA HOr HLk
              refine wpAnyH_take (i := 9) (v := ?_) rfl (by kernel_rfl) (by kernel_rfl) (by kernel_rfl) (fun _ _ _ h => h) (Or.inl ⟨by rfl, ?_⟩) (by assumption) ?_
              rotate_left
              · intro w hSw; (try dsimp only at hSw); go_simp; (try with_reducible rfl)
              (try simp only [Act.put, pt8])
              refine wpAnyH_take (i := 10) (v := ?_) rfl (by kernel_rfl) (by kernel_rfl) (by kernel_rfl) (fun _ _ _ h => h) (Or.inl ⟨by rfl, ?_⟩) (by assumption) ?_
              rotate_left
              · intro w hSw; (try dsimp only at hSw); go_simp; (try with_reducible rfl)
              (try simp only [Act.put, pt8])
              refine wpAnyH_take (i := 11) (v := ?_) rfl (by kernel_rfl) (by kernel_rfl) (by kernel_rfl) (fun _ _ _ h => h) (Or.inl ⟨by rfl, ?_⟩) (by assumption) ?_
              rotate_left
              · intro w hSw; (try dsimp only at hSw); go_simp; (try with_reducible rfl)
              (try simp only [Act.put, pt8])
              refine wpAnyH_take (i := 12) (v := ?_) rfl (by kernel_rfl) (by kernel_rfl) (by kernel_rfl) (fun _ _ _ h => h) (Or.inl ⟨by rfl, ?_⟩) (by assumption) ?_
              rotate_left
              · intro w hSw; (try dsimp only at hSw); go_simp; (try with_reducible rfl)
              (try simp only [Act.put, pt8])
              refine wpAnyH_ready (rs := [14]) (by kernel_rfl) (by simp) ?_
              refine AllReadyH.cons rfl (fun K hK => ?_) AllReadyH.nil
              have z0 := HQa.out.cell 0 _ rfl
              have z1 := HQa.out.cell 1 _ rfl
              have u0 := HQa.out.frozen 0
              have u1 := HQa.out.frozen 1
              have HBS2 := Lib.hid (show Below Z10.heap.size Z10 ((X8.setCell ⟨ga, 0, none⟩ (.slice A13 s13.mem.length c13)).setCell ⟨ga, 1, none⟩ (.slice B13 s13.ths.length e13)) from (hHeld.2.setCell (p := ⟨ga, 0, none⟩) HGA.out _).setCell (p := ⟨ga, 1, none⟩) HGA.out _)
              have HQS := Lib.hid (show BoxC ((X8.setCell ⟨ga, 0, none⟩ (.slice A13 s13.mem.length c13)).setCell ⟨ga, 1, none⟩ (.slice B13 s13.ths.length e13)) ga 31 #[(.slice A13 s13.mem.length c13), (.slice B13 s13.ths.length e13)] from (HQa.out.set 0 _).set 1 _)
              have HOS := Lib.hid (show OwnSt 0 ((X8.setCell ⟨ga, 0, none⟩ (.slice A13 s13.mem.length c13)).setCell ⟨ga, 1, none⟩ (.slice B13 s13.ths.length e13)) (.slice A13 s13.mem.length c13) (.slice B13 s13.ths.length e13) s13 ps13 from (HOs.out.box HQa.out (by decide) (by decide) (by decide) 0 _).box (HQa.out.set 0 _) (by decide) (by decide) (by decide) 1 _)
              go_simp
              refine hK.out _ _ ⟨⟨kc HBS2.out x0, kc HBS2.out x1, kc HBS2.out k0, kc HBS2.out k1, trivial⟩, HBS2.out⟩ (fun hHeld => ?_)
              clear z0 z1 u0 u1
              clear hK K
              (try simp only [Act.put, pt8])
              refine wpAnyH_ready (rs := [15]) (by kernel_rfl) (by simp) ?_
              refine AllReadyH.cons rfl (fun K hK => ?_) AllReadyH.nil
              go_simp
              refine hK.out _ _ hHeld (fun hHeld => ?_)
              clear hK K
              (try simp only [Act.put, pt8])
              refine wpAnyH_ready (rs := [16]) (by kernel_rfl) (by simp) ?_
              refine AllReadyH.cons rfl (fun K hK => ?_) AllReadyH.nil
              go_simp
              refine hK.out _ _ hHeld (fun hHeld => ?_)
              clear hK K
              (try simp only [Act.put, pt8])
              refine wpAnyH_done (by kernel_rfl) ?_ _
              clear hHeld
              go_wp2_with fail
              go_meet
              exact ⟨ga, A13, c13, B13, e13, ps13, rfl, rfl, rfl, HQS.out, HOS.out, HBS2.out⟩
          · -- 13 first
            have HBA := Lib.hid (hHeld.2.alloc hHeld.2.size (.cells #[.slice none 0 0, .slice none 0 0] 31))
            go_simp
            refine hK.out _ _ ⟨⟨kc HBA.out x0, kc HBA.out x1, kc HBA.out k0, kc HBA.out k1, trivial⟩, HBA.out⟩ (fun hHeld => ?_)
            clear hK K
            (try simp only [Act.put, pt8])
            have HAL := Lib.hid (below_al (Below.refl X3.heap.size X3) (.cells #[.slice none 0 0, .slice none 0 0] 31))
            obtain ⟨Xd, hXn⟩ : ∃ W, W = X3.alloc (.cells #[.slice none 0 0, .slice none 0 0] 31) := ⟨_, rfl⟩
            obtain ⟨ga, hgn⟩ : ∃ g, g = X3.heap.size := ⟨_, rfl⟩
            have HSZ := Lib.hid (show Z10.heap.size ≤ ga from by rw [hgn]; exact HSC.out)
            have HQn := Lib.hid (show BoxC Xd ga 31 #[.slice none 0 0, .slice none 0 0] from by rw [hXn, hgn]; exact BoxC.new X3 _ _)
            skip
            rw [← hXn] at hHeld HBA HAL ⊢
            (try rw [← hgn])
            replace HOr := Lib.hid (own_below HOr.out HAL.out)
            replace HLk := Lib.hid (HLk.out.below HAL.out HLk.out.lt)
            have HQa := HQn
            have HGA := HSZ
            clear HQn
            replace HSC := Lib.hid (show Z10.heap.size ≤ Xd.heap.size from HBA.out.size)
            clear hXn hgn HAL HSZ HBA
            refine wpAnyH_ready (rs := [6]) (by kernel_rfl) (by simp) ?_
            refine AllReadyH.cons rfl (fun K hK => ?_) AllReadyH.nil
            refine step_append_src (by rfl) _ _ _ (by rfl) Z10.heap.size 47 i0 (.agg #[.int .i64 0, .bool false]) 2 16 Try.underlying26 hi hz0 hz1 hz2 (by rfl) (by decide) _ ln (l.flatMap kiC) (by rfl) HOr.out (some ⟨gl, 0, none⟩) 1 1 [.int .i64 kt, .bool kd] (by rfl) (by rfl) (fun c => (by cases c)) (lit_new HLk.out) (by simp [Value.oneCell']) (by unfold maxLen; omega) (by omega) HSC.out (fun v2 X6 hown hg => ?_)
            obtain ⟨A6r, c6r, rfl⟩ := own_slice hown
            have HBA := Lib.hid (below_append hHeld.2 HOr.out (Nat.le_refl _) HSC.out hg)
            replace HQa := Lib.hid (HQa.out.grown (by decide) HOr.out hg)
            replace HOr := Lib.hid hown
            replace HSC := Lib.hid (show Z10.heap.size ≤ X6.heap.size from HBA.out.size)
            clear hown hg
            refine hK.out _ _ ⟨⟨kc HBA.out x0, kc HBA.out x1, kc HBA.out k0, kc HBA.out k1, trivial⟩, HBA.out⟩ (fun hHeld => ?_)
            clear hK K
            (try simp only [Act.put, pt8])
            clear HBA
            refine wpAnyH_ready (rs := [8]) (by kernel_rfl) (by simp) ?_
            refine AllReadyH.cons rfl (fun K hK => ?_) AllReadyH.nil
            go_simp
            refine (run_any (l := l ++ [(kt, kd)]) wk _ (HPZ.out _ (chain HB.out hHeld.2)) (Rw.own (show OwnKi _ _ _ (l ++ [(kt, kd)]) from by unfold OwnKi; rw [show (l ++ [(kt, kd)]).length = ln + 1 from by rw [List.length_append, HLN.out]; rfl, List.flatMap_append]; exact HOr.out) (Nat.le_refl _)) (Nat.le_refl _) HRP.out HN6.out).mono ?_
            rintro e X8 ⟨vm, vt, ps13, rfl, hos, hb⟩
            rw [HR13.out] at hos ⊢
            dsimp only at hos ⊢
            obtain ⟨A13, c13, rfl⟩ := own_slice hos.mem
            obtain ⟨B13, e13, rfl⟩ := own_slice hos.ths
            have HOs := Lib.hid (show OwnSt 0 X8 _ _ s13 ps13 from hos.base (Nat.zero_le _))
            have HBA := Lib.hid (chain hHeld.2 hb)
            replace HQa := Lib.hid (HQa.out.below hb HQa.out.lt)
            replace HSC := Lib.hid (show Z10.heap.size ≤ X8.heap.size from HBA.out.size)
            refine hK.out _ _ ⟨⟨kc HBA.out x0, kc HBA.out x1, kc HBA.out k0, kc HBA.out k1, trivial⟩, HBA.out⟩ (fun hHeld => ?_)
            clear hK K
            (try simp only [Act.put, pt8])
            clear hb hos HBA HOr HLk
            refine wpAnyH_take (i := 9) (v := ?_) rfl (by kernel_rfl) (by kernel_rfl) (by kernel_rfl) (fun _ _ _ h => h) (Or.inl ⟨by rfl, ?_⟩) (by assumption) ?_
            rotate_left
            · intro w hSw; (try dsimp only at hSw); go_simp; (try with_reducible rfl)
            (try simp only [Act.put, pt8])
            refine wpAnyH_take (i := 10) (v := ?_) rfl (by kernel_rfl) (by kernel_rfl) (by kernel_rfl) (fun _ _ _ h => h) (Or.inl ⟨by rfl, ?_⟩) (by assumption) ?_
            rotate_left
            · intro w hSw; (try dsimp only at hSw); go_simp; (try with_reducible rfl)
            (try simp only [Act.put, pt8])
            refine wpAnyH_take (i := 11) (v := ?_) rfl (by kernel_rfl) (by kernel_rfl) (by kernel_rfl) (fun _ _ _ h => h) (Or.inl ⟨by rfl, ?_⟩) (by assumption) ?_
            rotate_left
            · intro w hSw; (try dsimp only at hSw); go_simp; (try with_reducible rfl)
            (try simp only [Act.put, pt8])
            refine wpAnyH_take (i := 12) (v := ?_) rfl (by kernel_rfl) (by kernel_rfl) (by kernel_rfl) (fun _ _ _ h => h) (Or.inl ⟨by rfl, ?_⟩) (by assumption) ?_
            rotate_left
            · intro w hSw; (try dsimp only at hSw); go_simp; (try with_reducible rfl)
            (try simp only [Act.put, pt8])
            refine wpAnyH_ready (rs := [14]) (by kernel_rfl) (by simp) ?_
            refine AllReadyH.cons rfl (fun K hK => ?_) AllReadyH.nil
            have z0 := HQa.out.cell 0 _ rfl
            have z1 := HQa.out.cell 1 _ rfl
            have u0 := HQa.out.frozen 0
            have u1 := HQa.out.frozen 1
            have HBS2 := Lib.hid (show Below Z10.heap.size Z10 ((X8.setCell ⟨ga, 0, none⟩ (.slice A13 s13.mem.length c13)).setCell ⟨ga, 1, none⟩ (.slice B13 s13.ths.length e13)) from (hHeld.2.setCell (p := ⟨ga, 0, none⟩) HGA.out _).setCell (p := ⟨ga, 1, none⟩) HGA.out _)
            have HQS := Lib.hid (show BoxC ((X8.setCell ⟨ga, 0, none⟩ (.slice A13 s13.mem.length c13)).setCell ⟨ga, 1, none⟩ (.slice B13 s13.ths.length e13)) ga 31 #[(.slice A13 s13.mem.length c13), (.slice B13 s13.ths.length e13)] from (HQa.out.set 0 _).set 1 _)
            have HOS := Lib.hid (show OwnSt 0 ((X8.setCell ⟨ga, 0, none⟩ (.slice A13 s13.mem.length c13)).setCell ⟨ga, 1, none⟩ (.slice B13 s13.ths.length e13)) (.slice A13 s13.mem.length c13) (.slice B13 s13.ths.length e13) s13 ps13 from (HOs.out.box HQa.out (by decide) (by decide) (by decide) 0 _).box (HQa.out.set 0 _) (by decide) (by decide) (by decide) 1 _)
            go_simp
            refine hK.out _ _ ⟨⟨kc HBS2.out x0, kc HBS2.out x1, kc HBS2.out k0, kc HBS2.out k1, trivial⟩, HBS2.out⟩ (fun hHeld => ?_)
            clear z0 z1 u0 u1
            clear hK K
            (try simp only [Act.put, pt8])
            refine wpAnyH_ready (rs := [15]) (by kernel_rfl) (by simp) ?_
            refine AllReadyH.cons rfl (fun K hK => ?_) AllReadyH.nil
            go_simp
            refine hK.out _ _ hHeld (fun hHeld => ?_)
            clear hK K
            (try simp only [Act.put, pt8])
            refine wpAnyH_ready (rs := [16]) (by kernel_rfl) (by simp) ?_
            refine AllReadyH.cons rfl (fun K hK => ?_) AllReadyH.nil
            go_simp
            refine hK.out _ _ hHeld (fun hHeld => ?_)
            clear hK K
            (try simp only [Act.put, pt8])
            refine wpAnyH_done (by kernel_rfl) ?_ _
            clear hHeld
            go_wp2_with fail
            go_meet
            exact ⟨ga, A13, c13, B13, e13, ps13, rfl, rfl, rfl, HQS.out, HOS.out, HBS2.out⟩
        · -- 13 first
          have HBA := Lib.hid (hHeld.2.alloc hHeld.2.size (.cells #[.slice none 0 0, .slice none 0 0] 31))
          go_simp
          refine hK.out _ _ ⟨⟨kc HBA.out x0, kc HBA.out x1, kc HBA.out k0, kc HBA.out k1, trivial⟩, HBA.out⟩ (fun hHeld => ?_)
          clear hK K
          (try simp only [Act.put, pt8])
          have HAL := Lib.hid (below_al (Below.refl X1.heap.size X1) (.cells #[.slice none 0 0, .slice none 0 0] 31))
          obtain ⟨Xd, hXn⟩ : ∃ W, W = X1.alloc (.cells #[.slice none 0 0, .slice none 0 0] 31) := ⟨_, rfl⟩
          obtain ⟨ga, hgn⟩ : ∃ g, g = X1.heap.size := ⟨_, rfl⟩
          have HSZ := Lib.hid (show Z10.heap.size ≤ ga from by rw [hgn]; exact HSC.out)
          have HQn := Lib.hid (show BoxC Xd ga 31 #[.slice none 0 0, .slice none 0 0] from by rw [hXn, hgn]; exact BoxC.new X1 _ _)
          skip
          rw [← hXn] at hHeld HBA HAL ⊢
          (try rw [← hgn])
          replace HOr := Lib.hid (own_below HOr.out HAL.out)
          replace HLk := Lib.hid (HLk.out.below HAL.out HLk.out.lt)
          have HQa := HQn
          have HGA := HSZ
          clear HQn
          replace HSC := Lib.hid (show Z10.heap.size ≤ Xd.heap.size from HBA.out.size)
          clear hXn hgn HAL HSZ HBA
          refine wpAnyH_ready (rs := [3]) (by kernel_rfl) (by simp) ?_
          refine AllReadyH.cons rfl (fun K hK => ?_) AllReadyH.nil
          refine step_append_src (by rfl) _ _ _ (by rfl) Z10.heap.size 47 i0 (.agg #[.int .i64 0, .bool false]) 2 16 Try.underlying26 hi hz0 hz1 hz2 (by rfl) (by decide) _ 0 [] (by rfl) HOr.out Al ln cl (l.flatMap kiC) (by rfl) (by rw [HLN.out]; exact fl_len kiC_len l) (fun h => by rw [HLN.out]; exact HQ00.out h) (HSRC.out _ (HB.out.trans (hHeld.2.mono HB.out.size))) (one_ki l) (by unfold maxLen; omega) (by omega) HSC.out (fun v2 X3 hown hg => ?_)
          rw [Nat.zero_add, List.nil_append] at hown
          obtain ⟨A3r, c3r, rfl⟩ := own_slice hown
          have HBA := Lib.hid (below_append hHeld.2 HOr.out (Nat.le_refl _) HSC.out hg)
          replace HQa := Lib.hid (HQa.out.grown (by decide) HOr.out hg)
          replace HLk := Lib.hid (show BoxC X3 gl 47 #[.int .i64 kt, .bool kd] from (hg.block gl HLk.out.lt (fun e => by injection e with e; exact HNE.out e.symm)).trans HLk.out)
          replace HOr := Lib.hid hown
          replace HSC := Lib.hid (show Z10.heap.size ≤ X3.heap.size from HBA.out.size)
          clear hown hg
          refine hK.out _ _ ⟨⟨kc HBA.out x0, kc HBA.out x1, kc HBA.out k0, kc HBA.out k1, trivial⟩, HBA.out⟩ (fun hHeld => ?_)
          clear hK K
          (try simp only [Act.put, pt8])
          clear HBA
          refine wpAnyH_ready (rs := [6]) (by kernel_rfl) (by simp) ?_
          refine AllReadyH.cons rfl (fun K hK => ?_) AllReadyH.nil
          refine step_append_src (by rfl) _ _ _ (by rfl) Z10.heap.size 47 i0 (.agg #[.int .i64 0, .bool false]) 2 16 Try.underlying26 hi hz0 hz1 hz2 (by rfl) (by decide) _ ln (l.flatMap kiC) (by rfl) HOr.out (some ⟨gl, 0, none⟩) 1 1 [.int .i64 kt, .bool kd] (by rfl) (by rfl) (fun c => (by cases c)) (lit_new HLk.out) (by simp [Value.oneCell']) (by unfold maxLen; omega) (by omega) HSC.out (fun v2 X6 hown hg => ?_)
          obtain ⟨A6r, c6r, rfl⟩ := own_slice hown
          have HBA := Lib.hid (below_append hHeld.2 HOr.out (Nat.le_refl _) HSC.out hg)
          replace HQa := Lib.hid (HQa.out.grown (by decide) HOr.out hg)
          replace HOr := Lib.hid hown
          replace HSC := Lib.hid (show Z10.heap.size ≤ X6.heap.size from HBA.out.size)
          clear hown hg
          refine hK.out _ _ ⟨⟨kc HBA.out x0, kc HBA.out x1, kc HBA.out k0, kc HBA.out k1, trivial⟩, HBA.out⟩ (fun hHeld => ?_)
          clear hK K
          (try simp only [Act.put, pt8])
          clear HBA
          refine wpAnyH_ready (rs := [8]) (by kernel_rfl) (by simp) ?_
          refine AllReadyH.cons rfl (fun K hK => ?_) AllReadyH.nil
          go_simp
          refine (run_any (l := l ++ [(kt, kd)]) wk _ (HPZ.out _ (chain HB.out hHeld.2)) (Rw.own (show OwnKi _ _ _ (l ++ [(kt, kd)]) from by unfold OwnKi; rw [show (l ++ [(kt, kd)]).length = ln + 1 from by rw [List.length_append, HLN.out]; rfl, List.flatMap_append]; exact HOr.out) (Nat.le_refl _)) (Nat.le_refl _) HRP.out HN6.out).mono ?_
          rintro e X8 ⟨vm, vt, ps13, rfl, hos, hb⟩
          rw [HR13.out] at hos ⊢
          dsimp only at hos ⊢
          obtain ⟨A13, c13, rfl⟩ := own_slice hos.mem
          obtain ⟨B13, e13, rfl⟩ := own_slice hos.ths
          have HOs := Lib.hid (show OwnSt 0 X8 _ _ s13 ps13 from hos.base (Nat.zero_le _))
          have HBA := Lib.hid (chain hHeld.2 hb)
          replace HQa := Lib.hid (HQa.out.below hb HQa.out.lt)
          replace HSC := Lib.hid (show Z10.heap.size ≤ X8.heap.size from HBA.out.size)
          refine hK.out _ _ ⟨⟨kc HBA.out x0, kc HBA.out x1, kc HBA.out k0, kc HBA.out k1, trivial⟩, HBA.out⟩ (fun hHeld => ?_)
          clear hK K
          (try simp only [Act.put, pt8])
          clear hb hos HBA HOr HLk
          refine wpAnyH_take (i := 9) (v := ?_) rfl (by kernel_rfl) (by kernel_rfl) (by kernel_rfl) (fun _ _ _ h => h) (Or.inl ⟨by rfl, ?_⟩) (by assumption) ?_
          rotate_left
          · intro w hSw; (try dsimp only at hSw); go_simp; (try with_reducible rfl)
          (try simp only [Act.put, pt8])
          refine wpAnyH_take (i := 10) (v := ?_) rfl (by kernel_rfl) (by kernel_rfl) (by kernel_rfl) (fun _ _ _ h => h) (Or.inl ⟨by rfl, ?_⟩) (by assumption) ?_
          rotate_left
          · intro w hSw; (try dsimp only at hSw); go_simp; (try with_reducible rfl)
          (try simp only [Act.put, pt8])
          refine wpAnyH_take (i := 11) (v := ?_) rfl (by kernel_rfl) (by kernel_rfl) (by kernel_rfl) (fun _ _ _ h => h) (Or.inl ⟨by rfl, ?_⟩) (by assumption) ?_
          rotate_left
          · intro w hSw; (try dsimp only at hSw); go_simp; (try with_reducible rfl)
          (try simp only [Act.put, pt8])
          refine wpAnyH_take (i := 12) (v := ?_) rfl (by kernel_rfl) (by kernel_rfl) (by kernel_rfl) (fun _ _ _ h => h) (Or.inl ⟨by rfl, ?_⟩) (by assumption) ?_
          rotate_left
          · intro w hSw; (try dsimp only at hSw); go_simp; (try with_reducible rfl)
          (try simp only [Act.put, pt8])
          refine wpAnyH_ready (rs := [14]) (by kernel_rfl) (by simp) ?_
          refine AllReadyH.cons rfl (fun K hK => ?_) AllReadyH.nil
          have z0 := HQa.out.cell 0 _ rfl
          have z1 := HQa.out.cell 1 _ rfl
          have u0 := HQa.out.frozen 0
          have u1 := HQa.out.frozen 1
          have HBS2 := Lib.hid (show Below Z10.heap.size Z10 ((X8.setCell ⟨ga, 0, none⟩ (.slice A13 s13.mem.length c13)).setCell ⟨ga, 1, none⟩ (.slice B13 s13.ths.length e13)) from (hHeld.2.setCell (p := ⟨ga, 0, none⟩) HGA.out _).setCell (p := ⟨ga, 1, none⟩) HGA.out _)
          have HQS := Lib.hid (show BoxC ((X8.setCell ⟨ga, 0, none⟩ (.slice A13 s13.mem.length c13)).setCell ⟨ga, 1, none⟩ (.slice B13 s13.ths.length e13)) ga 31 #[(.slice A13 s13.mem.length c13), (.slice B13 s13.ths.length e13)] from (HQa.out.set 0 _).set 1 _)
          have HOS := Lib.hid (show OwnSt 0 ((X8.setCell ⟨ga, 0, none⟩ (.slice A13 s13.mem.length c13)).setCell ⟨ga, 1, none⟩ (.slice B13 s13.ths.length e13)) (.slice A13 s13.mem.length c13) (.slice B13 s13.ths.length e13) s13 ps13 from (HOs.out.box HQa.out (by decide) (by decide) (by decide) 0 _).box (HQa.out.set 0 _) (by decide) (by decide) (by decide) 1 _)
          go_simp
          refine hK.out _ _ ⟨⟨kc HBS2.out x0, kc HBS2.out x1, kc HBS2.out k0, kc HBS2.out k1, trivial⟩, HBS2.out⟩ (fun hHeld => ?_)
          clear z0 z1 u0 u1
          clear hK K
          (try simp only [Act.put, pt8])
          refine wpAnyH_ready (rs := [15]) (by kernel_rfl) (by simp) ?_
          refine AllReadyH.cons rfl (fun K hK => ?_) AllReadyH.nil
          go_simp
          refine hK.out _ _ hHeld (fun hHeld => ?_)
          clear hK K
          (try simp only [Act.put, pt8])
          refine wpAnyH_ready (rs := [16]) (by kernel_rfl) (by simp) ?_
          refine AllReadyH.cons rfl (fun K hK => ?_) AllReadyH.nil
          go_simp
          refine hK.out _ _ hHeld (fun hHeld => ?_)
          clear hK K
          (try simp only [Act.put, pt8])
          refine wpAnyH_done (by kernel_rfl) ?_ _
          clear hHeld
          go_wp2_with fail
          go_meet
          exact ⟨ga, A13, c13, B13, e13, ps13, rfl, rfl, rfl, HQS.out, HOS.out, HBS2.out⟩
      · -- 13 first
        have HBA := Lib.hid (hHeld.2.alloc hHeld.2.size (.cells #[.slice none 0 0, .slice none 0 0] 31))
        go_simp
        refine hK.out _ _ ⟨⟨kc HBA.out x0, kc HBA.out x1, kc HBA.out k0, kc HBA.out k1, trivial⟩, HBA.out⟩ (fun hHeld => ?_)
        clear hK K
        (try simp only [Act.put, pt8])
        have HAL := Lib.hid (below_al (Below.refl X5.heap.size X5) (.cells #[.slice none 0 0, .slice none 0 0] 31))
        obtain ⟨Xd, hXn⟩ : ∃ W, W = X5.alloc (.cells #[.slice none 0 0, .slice none 0 0] 31) := ⟨_, rfl⟩
        obtain ⟨ga, hgn⟩ : ∃ g, g = X5.heap.size := ⟨_, rfl⟩
        have HSZ := Lib.hid (show Z10.heap.size ≤ ga from by rw [hgn]; exact HSC.out)
        have HQn := Lib.hid (show BoxC Xd ga 31 #[.slice none 0 0, .slice none 0 0] from by rw [hXn, hgn]; exact BoxC.new X5 _ _)
        skip
        rw [← hXn] at hHeld HBA HAL ⊢
        (try rw [← hgn])
        replace HLk := Lib.hid (HLk.out.below HAL.out HLk.out.lt)
        have HQa := HQn
        have HGA := HSZ
        clear HQn
        replace HSC := Lib.hid (show Z10.heap.size ≤ Xd.heap.size from HBA.out.size)
        clear hXn hgn HAL HSZ HBA
        refine wpAnyH_ready (rs := [1]) (by kernel_rfl) (by simp) ?_
        refine AllReadyH.cons rfl (fun K hK => ?_) AllReadyH.nil
        have HBA := Lib.hid (hHeld.2.alloc hHeld.2.size (.cells #[] 47))
        go_simp
        refine hK.out _ _ ⟨⟨kc HBA.out x0, kc HBA.out x1, kc HBA.out k0, kc HBA.out k1, trivial⟩, HBA.out⟩ (fun hHeld => ?_)
        clear hK K
        (try simp only [Act.put, pt8])
        have HAL := Lib.hid (below_al (Below.refl Xd.heap.size Xd) (.cells #[] 47))
        obtain ⟨X1, hXn⟩ : ∃ W, W = Xd.alloc (.cells #[] 47) := ⟨_, rfl⟩
        obtain ⟨g1, hgn⟩ : ∃ g, g = Xd.heap.size := ⟨_, rfl⟩
        have HSZ := Lib.hid (show Z10.heap.size ≤ g1 from by rw [hgn]; exact HSC.out)
        have HOn := Lib.hid (show X1.ownsRow Z10.heap.size 47 2 (.slice (some ⟨g1, 0, none⟩) 0 0) 0 [] from by rw [hXn, hgn]; exact World.ownsRow_lit (base := Z10.heap.size) (e := 47) (size := 2) Xd #[] 0 HSC.out (by decide) rfl)
        have HNE := Lib.hid (show g1 ≠ gl from by have := HLk.out.lt; omega)
        rw [← hXn] at hHeld HBA HAL ⊢
        (try rw [← hgn])
        replace HLk := Lib.hid (HLk.out.below HAL.out HLk.out.lt)
        replace HQa := Lib.hid (HQa.out.below HAL.out HQa.out.lt)
        have HOr := HOn
        clear HOn
        replace HSC := Lib.hid (show Z10.heap.size ≤ X1.heap.size from HBA.out.size)
        clear hXn hgn HAL HSZ HBA
        refine wpAnyH_ready (rs := [3]) (by kernel_rfl) (by simp) ?_
        refine AllReadyH.cons rfl (fun K hK => ?_) AllReadyH.nil
        refine step_append_src (by rfl) _ _ _ (by rfl) Z10.heap.size 47 i0 (.agg #[.int .i64 0, .bool false]) 2 16 Try.underlying26 hi hz0 hz1 hz2 (by rfl) (by decide) _ 0 [] (by rfl) HOr.out Al ln cl (l.flatMap kiC) (by rfl) (by rw [HLN.out]; exact fl_len kiC_len l) (fun h => by rw [HLN.out]; exact HQ00.out h) (HSRC.out _ (HB.out.trans (hHeld.2.mono HB.out.size))) (one_ki l) (by unfold maxLen; omega) (by omega) HSC.out (fun v2 X3 hown hg => ?_)
        rw [Nat.zero_add, List.nil_append] at hown
        obtain ⟨A3r, c3r, rfl⟩ := own_slice hown
        have HBA := Lib.hid (below_append hHeld.2 HOr.out (Nat.le_refl _) HSC.out hg)
        replace HQa := Lib.hid (HQa.out.grown (by decide) HOr.out hg)
        replace HLk := Lib.hid (show BoxC X3 gl 47 #[.int .i64 kt, .bool kd] from (hg.block gl HLk.out.lt (fun e => by injection e with e; exact HNE.out e.symm)).trans HLk.out)
        replace HOr := Lib.hid hown
        replace HSC := Lib.hid (show Z10.heap.size ≤ X3.heap.size from HBA.out.size)
        clear hown hg
        refine hK.out _ _ ⟨⟨kc HBA.out x0, kc HBA.out x1, kc HBA.out k0, kc HBA.out k1, trivial⟩, HBA.out⟩ (fun hHeld => ?_)
        clear hK K
        (try simp only [Act.put, pt8])
        clear HBA
        refine wpAnyH_ready (rs := [6]) (by kernel_rfl) (by simp) ?_
        refine AllReadyH.cons rfl (fun K hK => ?_) AllReadyH.nil
        refine step_append_src (by rfl) _ _ _ (by rfl) Z10.heap.size 47 i0 (.agg #[.int .i64 0, .bool false]) 2 16 Try.underlying26 hi hz0 hz1 hz2 (by rfl) (by decide) _ ln (l.flatMap kiC) (by rfl) HOr.out (some ⟨gl, 0, none⟩) 1 1 [.int .i64 kt, .bool kd] (by rfl) (by rfl) (fun c => (by cases c)) (lit_new HLk.out) (by simp [Value.oneCell']) (by unfold maxLen; omega) (by omega) HSC.out (fun v2 X6 hown hg => ?_)
        obtain ⟨A6r, c6r, rfl⟩ := own_slice hown
        have HBA := Lib.hid (below_append hHeld.2 HOr.out (Nat.le_refl _) HSC.out hg)
        replace HQa := Lib.hid (HQa.out.grown (by decide) HOr.out hg)
        replace HOr := Lib.hid hown
        replace HSC := Lib.hid (show Z10.heap.size ≤ X6.heap.size from HBA.out.size)
        clear hown hg
        refine hK.out _ _ ⟨⟨kc HBA.out x0, kc HBA.out x1, kc HBA.out k0, kc HBA.out k1, trivial⟩, HBA.out⟩ (fun hHeld => ?_)
        clear hK K
        (try simp only [Act.put, pt8])
        clear HBA
        refine wpAnyH_ready (rs := [8]) (by kernel_rfl) (by simp) ?_
        refine AllReadyH.cons rfl (fun K hK => ?_) AllReadyH.nil
        go_simp
        refine (run_any (l := l ++ [(kt, kd)]) wk _ (HPZ.out _ (chain HB.out hHeld.2)) (Rw.own (show OwnKi _ _ _ (l ++ [(kt, kd)]) from by unfold OwnKi; rw [show (l ++ [(kt, kd)]).length = ln + 1 from by rw [List.length_append, HLN.out]; rfl, List.flatMap_append]; exact HOr.out) (Nat.le_refl _)) (Nat.le_refl _) HRP.out HN6.out).mono ?_
        rintro e X8 ⟨vm, vt, ps13, rfl, hos, hb⟩
        rw [HR13.out] at hos ⊢
        dsimp only at hos ⊢
        obtain ⟨A13, c13, rfl⟩ := own_slice hos.mem
        obtain ⟨B13, e13, rfl⟩ := own_slice hos.ths
        have HOs := Lib.hid (show OwnSt 0 X8 _ _ s13 ps13 from hos.base (Nat.zero_le _))
        have HBA := Lib.hid (chain hHeld.2 hb)
        replace HQa := Lib.hid (HQa.out.below hb HQa.out.lt)
        replace HSC := Lib.hid (show Z10.heap.size ≤ X8.heap.size from HBA.out.size)
        refine hK.out _ _ ⟨⟨kc HBA.out x0, kc HBA.out x1, kc HBA.out k0, kc HBA.out k1, trivial⟩, HBA.out⟩ (fun hHeld => ?_)
        clear hK K
        (try simp only [Act.put, pt8])
        clear hb hos HBA HOr HLk
        refine wpAnyH_take (i := 9) (v := ?_) rfl (by kernel_rfl) (by kernel_rfl) (by kernel_rfl) (fun _ _ _ h => h) (Or.inl ⟨by rfl, ?_⟩) (by assumption) ?_
        rotate_left
        · intro w hSw; (try dsimp only at hSw); go_simp; (try with_reducible rfl)
        (try simp only [Act.put, pt8])
        refine wpAnyH_take (i := 10) (v := ?_) rfl (by kernel_rfl) (by kernel_rfl) (by kernel_rfl) (fun _ _ _ h => h) (Or.inl ⟨by rfl, ?_⟩) (by assumption) ?_
        rotate_left
        · intro w hSw; (try dsimp only at hSw); go_simp; (try with_reducible rfl)
        (try simp only [Act.put, pt8])
        refine wpAnyH_take (i := 11) (v := ?_) rfl (by kernel_rfl) (by kernel_rfl) (by kernel_rfl) (fun _ _ _ h => h) (Or.inl ⟨by rfl, ?_⟩) (by assumption) ?_
        rotate_left
        · intro w hSw; (try dsimp only at hSw); go_simp; (try with_reducible rfl)
        (try simp only [Act.put, pt8])
        refine wpAnyH_take (i := 12) (v := ?_) rfl (by kernel_rfl) (by kernel_rfl) (by kernel_rfl) (fun _ _ _ h => h) (Or.inl ⟨by rfl, ?_⟩) (by assumption) ?_
        rotate_left
        · intro w hSw; (try dsimp only at hSw); go_simp; (try with_reducible rfl)
        (try simp only [Act.put, pt8])
        refine wpAnyH_ready (rs := [14]) (by kernel_rfl) (by simp) ?_
        refine AllReadyH.cons rfl (fun K hK => ?_) AllReadyH.nil
        have z0 := HQa.out.cell 0 _ rfl
        have z1 := HQa.out.cell 1 _ rfl
        have u0 := HQa.out.frozen 0
        have u1 := HQa.out.frozen 1
        have HBS2 := Lib.hid (show Below Z10.heap.size Z10 ((X8.setCell ⟨ga, 0, none⟩ (.slice A13 s13.mem.length c13)).setCell ⟨ga, 1, none⟩ (.slice B13 s13.ths.length e13)) from (hHeld.2.setCell (p := ⟨ga, 0, none⟩) HGA.out _).setCell (p := ⟨ga, 1, none⟩) HGA.out _)
        have HQS := Lib.hid (show BoxC ((X8.setCell ⟨ga, 0, none⟩ (.slice A13 s13.mem.length c13)).setCell ⟨ga, 1, none⟩ (.slice B13 s13.ths.length e13)) ga 31 #[(.slice A13 s13.mem.length c13), (.slice B13 s13.ths.length e13)] from (HQa.out.set 0 _).set 1 _)
        have HOS := Lib.hid (show OwnSt 0 ((X8.setCell ⟨ga, 0, none⟩ (.slice A13 s13.mem.length c13)).setCell ⟨ga, 1, none⟩ (.slice B13 s13.ths.length e13)) (.slice A13 s13.mem.length c13) (.slice B13 s13.ths.length e13) s13 ps13 from (HOs.out.box HQa.out (by decide) (by decide) (by decide) 0 _).box (HQa.out.set 0 _) (by decide) (by decide) (by decide) 1 _)
        go_simp
        refine hK.out _ _ ⟨⟨kc HBS2.out x0, kc HBS2.out x1, kc HBS2.out k0, kc HBS2.out k1, trivial⟩, HBS2.out⟩ (fun hHeld => ?_)
        clear z0 z1 u0 u1
        clear hK K
        (try simp only [Act.put, pt8])
        refine wpAnyH_ready (rs := [15]) (by kernel_rfl) (by simp) ?_
        refine AllReadyH.cons rfl (fun K hK => ?_) AllReadyH.nil
        go_simp
        refine hK.out _ _ hHeld (fun hHeld => ?_)
        clear hK K
        (try simp only [Act.put, pt8])
        refine wpAnyH_ready (rs := [16]) (by kernel_rfl) (by simp) ?_
        refine AllReadyH.cons rfl (fun K hK => ?_) AllReadyH.nil
        go_simp
        refine hK.out _ _ hHeld (fun hHeld => ?_)
        clear hK K
        (try simp only [Act.put, pt8])
        refine wpAnyH_done (by kernel_rfl) ?_ _
        clear hHeld
        go_wp2_with fail
        go_meet
        exact ⟨ga, A13, c13, B13, e13, ps13, rfl, rfl, rfl, HQS.out, HOS.out, HBS2.out⟩
    · -- 13 first
      have HBA := Lib.hid (hHeld.2.alloc hHeld.2.size (.cells #[.slice none 0 0, .slice none 0 0] 31))
      go_simp
      refine hK.out _ _ ⟨⟨kc HBA.out x0, kc HBA.out x1, kc HBA.out k0, kc HBA.out k1, trivial⟩, HBA.out⟩ (fun hHeld => ?_)
      clear hK K
      (try simp only [Act.put, pt8])
      have HAL := Lib.hid (below_al (Below.refl Xs.heap.size Xs) (.cells #[.slice none 0 0, .slice none 0 0] 31))
      obtain ⟨Xd, hXn⟩ : ∃ W, W = Xs.alloc (.cells #[.slice none 0 0, .slice none 0 0] 31) := ⟨_, rfl⟩
      obtain ⟨ga, hgn⟩ : ∃ g, g = Xs.heap.size := ⟨_, rfl⟩
      have HSZ := Lib.hid (show Z10.heap.size ≤ ga from by rw [hgn]; exact HSC.out)
      have HQn := Lib.hid (show BoxC Xd ga 31 #[.slice none 0 0, .slice none 0 0] from by rw [hXn, hgn]; exact BoxC.new Xs _ _)
      skip
      rw [← hXn] at hHeld HBA HAL ⊢
      (try rw [← hgn])
      have HQa := HQn
      have HGA := HSZ
      clear HQn
      replace HSC := Lib.hid (show Z10.heap.size ≤ Xd.heap.size from HBA.out.size)
      clear hXn hgn HAL HSZ HBA
      refine wpAnyH_ready (rs := [1, 5]) (by kernel_rfl) (by simp) ?_
      refine AllReadyH.cons rfl (fun K hK => ?_) (AllReadyH.cons rfl (fun K hK => ?_) (AllReadyH.nil))
      · -- 1 first
        have HBA := Lib.hid (hHeld.2.alloc hHeld.2.size (.cells #[] 47))
        go_simp
        refine hK.out _ _ ⟨⟨kc HBA.out x0, kc HBA.out x1, kc HBA.out k0, kc HBA.out k1, trivial⟩, HBA.out⟩ (fun hHeld => ?_)
        clear hK K
        (try simp only [Act.put, pt8])
        have HAL := Lib.hid (below_al (Below.refl Xd.heap.size Xd) (.cells #[] 47))
        obtain ⟨X1, hXn⟩ : ∃ W, W = Xd.alloc (.cells #[] 47) := ⟨_, rfl⟩
        obtain ⟨g1, hgn⟩ : ∃ g, g = Xd.heap.size := ⟨_, rfl⟩
        have HSZ := Lib.hid (show Z10.heap.size ≤ g1 from by rw [hgn]; exact HSC.out)
        have HOn := Lib.hid (show X1.ownsRow Z10.heap.size 47 2 (.slice (some ⟨g1, 0, none⟩) 0 0) 0 [] from by rw [hXn, hgn]; exact World.ownsRow_lit (base := Z10.heap.size) (e := 47) (size := 2) Xd #[] 0 HSC.out (by decide) rfl)
        rw [← hXn] at hHeld HBA HAL ⊢
        (try rw [← hgn])
        replace HQa := Lib.hid (HQa.out.below HAL.out HQa.out.lt)
        have HOr := HOn
        clear HOn
        replace HSC := Lib.hid (show Z10.heap.size ≤ X1.heap.size from HBA.out.size)
        clear hXn hgn HAL HSZ HBA
        refine wpAnyH_ready (rs := [3, 5]) (by kernel_rfl) (by simp) ?_
        refine AllReadyH.cons rfl (fun K hK => ?_) (AllReadyH.cons rfl (fun K hK => ?_) (AllReadyH.nil))
        · -- 3 first
          refine step_append_src (by rfl) _ _ _ (by rfl) Z10.heap.size 47 i0 (.agg #[.int .i64 0, .bool false]) 2 16 Try.underlying26 hi hz0 hz1 hz2 (by rfl) (by decide) _ 0 [] (by rfl) HOr.out Al ln cl (l.flatMap kiC) (by rfl) (by rw [HLN.out]; exact fl_len kiC_len l) (fun h => by rw [HLN.out]; exact HQ00.out h) (HSRC.out _ (HB.out.trans (hHeld.2.mono HB.out.size))) (one_ki l) (by unfold maxLen; omega) (by omega) HSC.out (fun v2 X3 hown hg => ?_)
          rw [Nat.zero_add, List.nil_append] at hown
          obtain ⟨A3r, c3r, rfl⟩ := own_slice hown
          have HBA := Lib.hid (below_append hHeld.2 HOr.out (Nat.le_refl _) HSC.out hg)
          replace HQa := Lib.hid (HQa.out.grown (by decide) HOr.out hg)
          replace HOr := Lib.hid hown
          replace HSC := Lib.hid (show Z10.heap.size ≤ X3.heap.size from HBA.out.size)
          clear hown hg
          refine hK.out _ _ ⟨⟨kc HBA.out x0, kc HBA.out x1, kc HBA.out k0, kc HBA.out k1, trivial⟩, HBA.out⟩ (fun hHeld => ?_)
          clear hK K
          (try simp only [Act.put, pt8])
          clear HBA
          refine wpAnyH_ready (rs := [5]) (by kernel_rfl) (by simp) ?_
          refine AllReadyH.cons rfl (fun K hK => ?_) AllReadyH.nil
          have HBA := Lib.hid (hHeld.2.alloc hHeld.2.size (.cells #[.int .i64 kt, .bool kd] 47))
          go_simp
          refine hK.out _ _ ⟨⟨kc HBA.out x0, kc HBA.out x1, kc HBA.out k0, kc HBA.out k1, trivial⟩, HBA.out⟩ (fun hHeld => ?_)
          clear hK K
          (try simp only [Act.put, pt8])
          have HAL := Lib.hid (below_al (Below.refl X3.heap.size X3) (.cells #[.int .i64 kt, .bool kd] 47))
          obtain ⟨X5, hXn⟩ : ∃ W, W = X3.alloc (.cells #[.int .i64 kt, .bool kd] 47) := ⟨_, rfl⟩
          obtain ⟨gl, hgn⟩ : ∃ g, g = X3.heap.size := ⟨_, rfl⟩
          have HSZ := Lib.hid (show Z10.heap.size ≤ gl from by rw [hgn]; exact HSC.out)
          have HLn := Lib.hid (show BoxC X5 gl 47 #[.int .i64 kt, .bool kd] from by rw [hXn, hgn]; exact BoxC.new X3 _ _)
          rw [← hXn] at hHeld HBA HAL ⊢
          (try rw [← hgn])
          replace HOr := Lib.hid (own_below HOr.out HAL.out)
          replace HQa := Lib.hid (HQa.out.below HAL.out HQa.out.lt)
          have HLk := HLn
          clear HLn
          replace HSC := Lib.hid (show Z10.heap.size ≤ X5.heap.size from HBA.out.size)
          clear hXn hgn HAL HSZ HBA
          refine wpAnyH_ready (rs := [6]) (by kernel_rfl) (by simp) ?_
          refine AllReadyH.cons rfl (fun K hK => ?_) AllReadyH.nil
          refine step_append_src (by rfl) _ _ _ (by rfl) Z10.heap.size 47 i0 (.agg #[.int .i64 0, .bool false]) 2 16 Try.underlying26 hi hz0 hz1 hz2 (by rfl) (by decide) _ ln (l.flatMap kiC) (by rfl) HOr.out (some ⟨gl, 0, none⟩) 1 1 [.int .i64 kt, .bool kd] (by rfl) (by rfl) (fun c => (by cases c)) (lit_new HLk.out) (by simp [Value.oneCell']) (by unfold maxLen; omega) (by omega) HSC.out (fun v2 X6 hown hg => ?_)
          obtain ⟨A6r, c6r, rfl⟩ := own_slice hown
          have HBA := Lib.hid (below_append hHeld.2 HOr.out (Nat.le_refl _) HSC.out hg)
          replace HQa := Lib.hid (HQa.out.grown (by decide) HOr.out hg)
          replace HOr := Lib.hid hown
          replace HSC := Lib.hid (show Z10.heap.size ≤ X6.heap.size from HBA.out.size)
          clear hown hg
          refine hK.out _ _ ⟨⟨kc HBA.out x0, kc HBA.out x1, kc HBA.out k0, kc HBA.out k1, trivial⟩, HBA.out⟩ (fun hHeld => ?_)
          clear hK K
          (try simp only [Act.put, pt8])
          clear HBA
          refine wpAnyH_ready (rs := [8]) (by kernel_rfl) (by simp) ?_
          refine AllReadyH.cons rfl (fun K hK => ?_) AllReadyH.nil
          go_simp
          refine (run_any (l := l ++ [(kt, kd)]) wk _ (HPZ.out _ (chain HB.out hHeld.2)) (Rw.own (show OwnKi _ _ _ (l ++ [(kt, kd)]) from by unfold OwnKi; rw [show (l ++ [(kt, kd)]).length = ln + 1 from by rw [List.length_append, HLN.out]; rfl, List.flatMap_append]; exact HOr.out) (Nat.le_refl _)) (Nat.le_refl _) HRP.out HN6.out).mono ?_
          rintro e X8 ⟨vm, vt, ps13, rfl, hos, hb⟩
          rw [HR13.out] at hos ⊢
          dsimp only at hos ⊢
          obtain ⟨A13, c13, rfl⟩ := own_slice hos.mem
          obtain ⟨B13, e13, rfl⟩ := own_slice hos.ths
          have HOs := Lib.hid (show OwnSt 0 X8 _ _ s13 ps13 from hos.base (Nat.zero_le _))
          have HBA := Lib.hid (chain hHeld.2 hb)
          replace HQa := Lib.hid (HQa.out.below hb HQa.out.lt)
          replace HSC := Lib.hid (show Z10.heap.size ≤ X8.heap.size from HBA.out.size)
          refine hK.out _ _ ⟨⟨kc HBA.out x0, kc HBA.out x1, kc HBA.out k0, kc HBA.out k1, trivial⟩, HBA.out⟩ (fun hHeld => ?_)
          clear hK K
          (try simp only [Act.put, pt8])
          clear hb hos HBA HOr HLk
          refine wpAnyH_take (i := 9) (v := ?_) rfl (by kernel_rfl) (by kernel_rfl) (by kernel_rfl) (fun _ _ _ h => h) (Or.inl ⟨by rfl, ?_⟩) (by assumption) ?_
          rotate_left
          · intro w hSw; (try dsimp only at hSw); go_simp; (try with_reducible rfl)
          (try simp only [Act.put, pt8])
          refine wpAnyH_take (i := 10) (v := ?_) rfl (by kernel_rfl) (by kernel_rfl) (by kernel_rfl) (fun _ _ _ h => h) (Or.inl ⟨by rfl, ?_⟩) (by assumption) ?_
          rotate_left
          · intro w hSw; (try dsimp only at hSw); go_simp; (try with_reducible rfl)
          (try simp only [Act.put, pt8])
          refine wpAnyH_take (i := 11) (v := ?_) rfl (by kernel_rfl) (by kernel_rfl) (by kernel_rfl) (fun _ _ _ h => h) (Or.inl ⟨by rfl, ?_⟩) (by assumption) ?_
          rotate_left
          · intro w hSw; (try dsimp only at hSw); go_simp; (try with_reducible rfl)
          (try simp only [Act.put, pt8])
          refine wpAnyH_take (i := 12) (v := ?_) rfl (by kernel_rfl) (by kernel_rfl) (by kernel_rfl) (fun _ _ _ h => h) (Or.inl ⟨by rfl, ?_⟩) (by assumption) ?_
          rotate_left
          · intro w hSw; (try dsimp only at hSw); go_simp; (try with_reducible rfl)
          (try simp only [Act.put, pt8])
          refine wpAnyH_ready (rs := [14]) (by kernel_rfl) (by simp) ?_
          refine AllReadyH.cons rfl (fun K hK => ?_) AllReadyH.nil
          have z0 := HQa.out.cell 0 _ rfl
          have z1 := HQa.out.cell 1 _ rfl
          have u0 := HQa.out.frozen 0
          have u1 := HQa.out.frozen 1
          have HBS2 := Lib.hid (show Below Z10.heap.size Z10 ((X8.setCell ⟨ga, 0, none⟩ (.slice A13 s13.mem.length c13)).setCell ⟨ga, 1, none⟩ (.slice B13 s13.ths.length e13)) from (hHeld.2.setCell (p := ⟨ga, 0, none⟩) HGA.out _).setCell (p := ⟨ga, 1, none⟩) HGA.out _)
          have HQS := Lib.hid (show BoxC ((X8.setCell ⟨ga, 0, none⟩ (.slice A13 s13.mem.length c13)).setCell ⟨ga, 1, none⟩ (.slice B13 s13.ths.length e13)) ga 31 #[(.slice A13 s13.mem.length c13), (.slice B13 s13.ths.length e13)] from (HQa.out.set 0 _).set 1 _)
          have HOS := Lib.hid (show OwnSt 0 ((X8.setCell ⟨ga, 0, none⟩ (.slice A13 s13.mem.length c13)).setCell ⟨ga, 1, none⟩ (.slice B13 s13.ths.length e13)) (.slice A13 s13.mem.length c13) (.slice B13 s13.ths.length e13) s13 ps13 from (HOs.out.box HQa.out (by decide) (by decide) (by decide) 0 _).box (HQa.out.set 0 _) (by decide) (by decide) (by decide) 1 _)
          go_simp
          refine hK.out _ _ ⟨⟨kc HBS2.out x0, kc HBS2.out x1, kc HBS2.out k0, kc HBS2.out k1, trivial⟩, HBS2.out⟩ (fun hHeld => ?_)
          clear z0 z1 u0 u1
          clear hK K
          (try simp only [Act.put, pt8])
          refine wpAnyH_ready (rs := [15]) (by kernel_rfl) (by simp) ?_
          refine AllReadyH.cons rfl (fun K hK => ?_) AllReadyH.nil
          go_simp
          refine hK.out _ _ hHeld (fun hHeld => ?_)
          clear hK K
          (try simp only [Act.put, pt8])
          refine wpAnyH_ready (rs := [16]) (by kernel_rfl) (by simp) ?_
          refine AllReadyH.cons rfl (fun K hK => ?_) AllReadyH.nil
          go_simp
          refine hK.out _ _ hHeld (fun hHeld => ?_)
          clear hK K
          (try simp only [Act.put, pt8])
          refine wpAnyH_done (by kernel_rfl) ?_ _
          clear hHeld
          go_wp2_with fail
          go_meet
          exact ⟨ga, A13, c13, B13, e13, ps13, rfl, rfl, rfl, HQS.out, HOS.out, HBS2.out⟩
        · -- 5 first
          have HBA := Lib.hid (hHeld.2.alloc hHeld.2.size (.cells #[.int .i64 kt, .bool kd] 47))
          go_simp
          refine hK.out _ _ ⟨⟨kc HBA.out x0, kc HBA.out x1, kc HBA.out k0, kc HBA.out k1, trivial⟩, HBA.out⟩ (fun hHeld => ?_)
          clear hK K
          (try simp only [Act.put, pt8])
          have HAL := Lib.hid (below_al (Below.refl X1.heap.size X1) (.cells #[.int .i64 kt, .bool kd] 47))
          obtain ⟨X5, hXn⟩ : ∃ W, W = X1.alloc (.cells #[.int .i64 kt, .bool kd] 47) := ⟨_, rfl⟩
          obtain ⟨gl, hgn⟩ : ∃ g, g = X1.heap.size := ⟨_, rfl⟩
          have HSZ := Lib.hid (show Z10.heap.size ≤ gl from by rw [hgn]; exact HSC.out)
          have HLn := Lib.hid (show BoxC X5 gl 47 #[.int .i64 kt, .bool kd] from by rw [hXn, hgn]; exact BoxC.new X1 _ _)
          have HNE := Lib.hid (show g1 ≠ gl from by have := (HOr.out.lt g1 rfl).2; change g1 < X1.heap.size at this; omega)
          rw [← hXn] at hHeld HBA HAL ⊢
          (try rw [← hgn])
          replace HOr := Lib.hid (own_below HOr.out HAL.out)
          replace HQa := Lib.hid (HQa.out.below HAL.out HQa.out.lt)
          have HLk := HLn
          clear HLn
          replace HSC := Lib.hid (show Z10.heap.size ≤ X5.heap.size from HBA.out.size)
          clear hXn hgn HAL HSZ HBA
          refine wpAnyH_ready (rs := [3]) (by kernel_rfl) (by simp) ?_
          refine AllReadyH.cons rfl (fun K hK => ?_) AllReadyH.nil
          refine step_append_src (by rfl) _ _ _ (by rfl) Z10.heap.size 47 i0 (.agg #[.int .i64 0, .bool false]) 2 16 Try.underlying26 hi hz0 hz1 hz2 (by rfl) (by decide) _ 0 [] (by rfl) HOr.out Al ln cl (l.flatMap kiC) (by rfl) (by rw [HLN.out]; exact fl_len kiC_len l) (fun h => by rw [HLN.out]; exact HQ00.out h) (HSRC.out _ (HB.out.trans (hHeld.2.mono HB.out.size))) (one_ki l) (by unfold maxLen; omega) (by omega) HSC.out (fun v2 X3 hown hg => ?_)
          rw [Nat.zero_add, List.nil_append] at hown
          obtain ⟨A3r, c3r, rfl⟩ := own_slice hown
          have HBA := Lib.hid (below_append hHeld.2 HOr.out (Nat.le_refl _) HSC.out hg)
          replace HQa := Lib.hid (HQa.out.grown (by decide) HOr.out hg)
          replace HLk := Lib.hid (show BoxC X3 gl 47 #[.int .i64 kt, .bool kd] from (hg.block gl HLk.out.lt (fun e => by injection e with e; exact HNE.out e.symm)).trans HLk.out)
          replace HOr := Lib.hid hown
          replace HSC := Lib.hid (show Z10.heap.size ≤ X3.heap.size from HBA.out.size)
          clear hown hg
          refine hK.out _ _ ⟨⟨kc HBA.out x0, kc HBA.out x1, kc HBA.out k0, kc HBA.out k1, trivial⟩, HBA.out⟩ (fun hHeld => ?_)
          clear hK K
          (try simp only [Act.put, pt8])
          clear HBA
          refine wpAnyH_ready (rs := [6]) (by kernel_rfl) (by simp) ?_
          refine AllReadyH.cons rfl (fun K hK => ?_) AllReadyH.nil
          refine step_append_src (by rfl) _ _ _ (by rfl) Z10.heap.size 47 i0 (.agg #[.int .i64 0, .bool false]) 2 16 Try.underlying26 hi hz0 hz1 hz2 (by rfl) (by decide) _ ln (l.flatMap kiC) (by rfl) HOr.out (some ⟨gl, 0, none⟩) 1 1 [.int .i64 kt, .bool kd] (by rfl) (by rfl) (fun c => (by cases c)) (lit_new HLk.out) (by simp [Value.oneCell']) (by unfold maxLen; omega) (by omega) HSC.out (fun v2 X6 hown hg => ?_)
          obtain ⟨A6r, c6r, rfl⟩ := own_slice hown
          have HBA := Lib.hid (below_append hHeld.2 HOr.out (Nat.le_refl _) HSC.out hg)
          replace HQa := Lib.hid (HQa.out.grown (by decide) HOr.out hg)
          replace HOr := Lib.hid hown
          replace HSC := Lib.hid (show Z10.heap.size ≤ X6.heap.size from HBA.out.size)
          clear hown hg
          refine hK.out _ _ ⟨⟨kc HBA.out x0, kc HBA.out x1, kc HBA.out k0, kc HBA.out k1, trivial⟩, HBA.out⟩ (fun hHeld => ?_)
          clear hK K
          (try simp only [Act.put, pt8])
          clear HBA
          refine wpAnyH_ready (rs := [8]) (by kernel_rfl) (by simp) ?_
          refine AllReadyH.cons rfl (fun K hK => ?_) AllReadyH.nil
          go_simp
          refine (run_any (l := l ++ [(kt, kd)]) wk _ (HPZ.out _ (chain HB.out hHeld.2)) (Rw.own (show OwnKi _ _ _ (l ++ [(kt, kd)]) from by unfold OwnKi; rw [show (l ++ [(kt, kd)]).length = ln + 1 from by rw [List.length_append, HLN.out]; rfl, List.flatMap_append]; exact HOr.out) (Nat.le_refl _)) (Nat.le_refl _) HRP.out HN6.out).mono ?_
          rintro e X8 ⟨vm, vt, ps13, rfl, hos, hb⟩
          rw [HR13.out] at hos ⊢
          dsimp only at hos ⊢
          obtain ⟨A13, c13, rfl⟩ := own_slice hos.mem
          obtain ⟨B13, e13, rfl⟩ := own_slice hos.ths
          have HOs := Lib.hid (show OwnSt 0 X8 _ _ s13 ps13 from hos.base (Nat.zero_le _))
          have HBA := Lib.hid (chain hHeld.2 hb)
          replace HQa := Lib.hid (HQa.out.below hb HQa.out.lt)
          replace HSC := Lib.hid (show Z10.heap.size ≤ X8.heap.size from HBA.out.size)
          refine hK.out _ _ ⟨⟨kc HBA.out x0, kc HBA.out x1, kc HBA.out k0, kc HBA.out k1, trivial⟩, HBA.out⟩ (fun hHeld => ?_)
          clear hK K
          (try simp only [Act.put, pt8])
          clear hb hos HBA HOr HLk
          refine wpAnyH_take (i := 9) (v := ?_) rfl (by kernel_rfl) (by kernel_rfl) (by kernel_rfl) (fun _ _ _ h => h) (Or.inl ⟨by rfl, ?_⟩) (by assumption) ?_
          rotate_left
          · intro w hSw; (try dsimp only at hSw); go_simp; (try with_reducible rfl)
          (try simp only [Act.put, pt8])
          refine wpAnyH_take (i := 10) (v := ?_) rfl (by kernel_rfl) (by kernel_rfl) (by kernel_rfl) (fun _ _ _ h => h) (Or.inl ⟨by rfl, ?_⟩) (by assumption) ?_
          rotate_left
          · intro w hSw; (try dsimp only at hSw); go_simp; (try with_reducible rfl)
          (try simp only [Act.put, pt8])
          refine wpAnyH_take (i := 11) (v := ?_) rfl (by kernel_rfl) (by kernel_rfl) (by kernel_rfl) (fun _ _ _ h => h) (Or.inl ⟨by rfl, ?_⟩) (by assumption) ?_
          rotate_left
          · intro w hSw; (try dsimp only at hSw); go_simp; (try with_reducible rfl)
          (try simp only [Act.put, pt8])
          refine wpAnyH_take (i := 12) (v := ?_) rfl (by kernel_rfl) (by kernel_rfl) (by kernel_rfl) (fun _ _ _ h => h) (Or.inl ⟨by rfl, ?_⟩) (by assumption) ?_
          rotate_left
          · intro w hSw; (try dsimp only at hSw); go_simp; (try with_reducible rfl)
          (try simp only [Act.put, pt8])
          refine wpAnyH_ready (rs := [14]) (by kernel_rfl) (by simp) ?_
          refine AllReadyH.cons rfl (fun K hK => ?_) AllReadyH.nil
          have z0 := HQa.out.cell 0 _ rfl
          have z1 := HQa.out.cell 1 _ rfl
          have u0 := HQa.out.frozen 0
          have u1 := HQa.out.frozen 1
          have HBS2 := Lib.hid (show Below Z10.heap.size Z10 ((X8.setCell ⟨ga, 0, none⟩ (.slice A13 s13.mem.length c13)).setCell ⟨ga, 1, none⟩ (.slice B13 s13.ths.length e13)) from (hHeld.2.setCell (p := ⟨ga, 0, none⟩) HGA.out _).setCell (p := ⟨ga, 1, none⟩) HGA.out _)
          have HQS := Lib.hid (show BoxC ((X8.setCell ⟨ga, 0, none⟩ (.slice A13 s13.mem.length c13)).setCell ⟨ga, 1, none⟩ (.slice B13 s13.ths.length e13)) ga 31 #[(.slice A13 s13.mem.length c13), (.slice B13 s13.ths.length e13)] from (HQa.out.set 0 _).set 1 _)
          have HOS := Lib.hid (show OwnSt 0 ((X8.setCell ⟨ga, 0, none⟩ (.slice A13 s13.mem.length c13)).setCell ⟨ga, 1, none⟩ (.slice B13 s13.ths.length e13)) (.slice A13 s13.mem.length c13) (.slice B13 s13.ths.length e13) s13 ps13 from (HOs.out.box HQa.out (by decide) (by decide) (by decide) 0 _).box (HQa.out.set 0 _) (by decide) (by decide) (by decide) 1 _)
          go_simp
          refine hK.out _ _ ⟨⟨kc HBS2.out x0, kc HBS2.out x1, kc HBS2.out k0, kc HBS2.out k1, trivial⟩, HBS2.out⟩ (fun hHeld => ?_)
          clear z0 z1 u0 u1
          clear hK K
          (try simp only [Act.put, pt8])
          refine wpAnyH_ready (rs := [15]) (by kernel_rfl) (by simp) ?_
          refine AllReadyH.cons rfl (fun K hK => ?_) AllReadyH.nil
          go_simp
          refine hK.out _ _ hHeld (fun hHeld => ?_)
          clear hK K
          (try simp only [Act.put, pt8])
          refine wpAnyH_ready (rs := [16]) (by kernel_rfl) (by simp) ?_
          refine AllReadyH.cons rfl (fun K hK => ?_) AllReadyH.nil
          go_simp
          refine hK.out _ _ hHeld (fun hHeld => ?_)
          clear hK K
          (try simp only [Act.put, pt8])
          refine wpAnyH_done (by kernel_rfl) ?_ _
          clear hHeld
          go_wp2_with fail
          go_meet
          exact ⟨ga, A13, c13, B13, e13, ps13, rfl, rfl, rfl, HQS.out, HOS.out, HBS2.out⟩
      · -- 5 first
        have HBA := Lib.hid (hHeld.2.alloc hHeld.2.size (.cells #[.int .i64 kt, .bool kd] 47))
        go_simp
        refine hK.out _ _ ⟨⟨kc HBA.out x0, kc HBA.out x1, kc HBA.out k0, kc HBA.out k1, trivial⟩, HBA.out⟩ (fun hHeld => ?_)
        clear hK K
        (try simp only [Act.put, pt8])
        have HAL := Lib.hid (below_al (Below.refl Xd.heap.size Xd) (.cells #[.int .i64 kt, .bool kd] 47))
        obtain ⟨X5, hXn⟩ : ∃ W, W = Xd.alloc (.cells #[.int .i64 kt, .bool kd] 47) := ⟨_, rfl⟩
        obtain ⟨gl, hgn⟩ : ∃ g, g = Xd.heap.size := ⟨_, rfl⟩
        have HSZ := Lib.hid (show Z10.heap.size ≤ gl from by rw [hgn]; exact HSC.out)
        have HLn := Lib.hid (show BoxC X5 gl 47 #[.int .i64 kt, .bool kd] from by rw [hXn, hgn]; exact BoxC.new Xd _ _)
        rw [← hXn] at hHeld HBA HAL ⊢
        (try rw [← hgn])
        replace HQa := Lib.hid (HQa.out.below HAL.out HQa.out.lt)
        have HLk := HLn
        clear HLn
        replace HSC := Lib.hid (show Z10.heap.size ≤ X5.heap.size from HBA.out.size)
        clear hXn hgn HAL HSZ HBA
        refine wpAnyH_ready (rs := [1]) (by kernel_rfl) (by simp) ?_
        refine AllReadyH.cons rfl (fun K hK => ?_) AllReadyH.nil
        have HBA := Lib.hid (hHeld.2.alloc hHeld.2.size (.cells #[] 47))
        go_simp
        refine hK.out _ _ ⟨⟨kc HBA.out x0, kc HBA.out x1, kc HBA.out k0, kc HBA.out k1, trivial⟩, HBA.out⟩ (fun hHeld => ?_)
        clear hK K
        (try simp only [Act.put, pt8])
        have HAL := Lib.hid (below_al (Below.refl X5.heap.size X5) (.cells #[] 47))
        obtain ⟨X1, hXn⟩ : ∃ W, W = X5.alloc (.cells #[] 47) := ⟨_, rfl⟩
        obtain ⟨g1, hgn⟩ : ∃ g, g = X5.heap.size := ⟨_, rfl⟩
        have HSZ := Lib.hid (show Z10.heap.size ≤ g1 from by rw [hgn]; exact HSC.out)
        have HOn := Lib.hid (show X1.ownsRow Z10.heap.size 47 2 (.slice (some ⟨g1, 0, none⟩) 0 0) 0 [] from by rw [hXn, hgn]; exact World.ownsRow_lit (base := Z10.heap.size) (e := 47) (size := 2) X5 #[] 0 HSC.out (by decide) rfl)
        have HNE := Lib.hid (show g1 ≠ gl from by have := HLk.out.lt; omega)
        rw [← hXn] at hHeld HBA HAL ⊢
        (try rw [← hgn])
        replace HLk := Lib.hid (HLk.out.below HAL.out HLk.out.lt)
        replace HQa := Lib.hid (HQa.out.below HAL.out HQa.out.lt)
        have HOr := HOn
        clear HOn
        replace HSC := Lib.hid (show Z10.heap.size ≤ X1.heap.size from HBA.out.size)
        clear hXn hgn HAL HSZ HBA
        refine wpAnyH_ready (rs := [3]) (by kernel_rfl) (by simp) ?_
        refine AllReadyH.cons rfl (fun K hK => ?_) AllReadyH.nil
        refine step_append_src (by rfl) _ _ _ (by rfl) Z10.heap.size 47 i0 (.agg #[.int .i64 0, .bool false]) 2 16 Try.underlying26 hi hz0 hz1 hz2 (by rfl) (by decide) _ 0 [] (by rfl) HOr.out Al ln cl (l.flatMap kiC) (by rfl) (by rw [HLN.out]; exact fl_len kiC_len l) (fun h => by rw [HLN.out]; exact HQ00.out h) (HSRC.out _ (HB.out.trans (hHeld.2.mono HB.out.size))) (one_ki l) (by unfold maxLen; omega) (by omega) HSC.out (fun v2 X3 hown hg => ?_)
        rw [Nat.zero_add, List.nil_append] at hown
        obtain ⟨A3r, c3r, rfl⟩ := own_slice hown
        have HBA := Lib.hid (below_append hHeld.2 HOr.out (Nat.le_refl _) HSC.out hg)
        replace HQa := Lib.hid (HQa.out.grown (by decide) HOr.out hg)
        replace HLk := Lib.hid (show BoxC X3 gl 47 #[.int .i64 kt, .bool kd] from (hg.block gl HLk.out.lt (fun e => by injection e with e; exact HNE.out e.symm)).trans HLk.out)
        replace HOr := Lib.hid hown
        replace HSC := Lib.hid (show Z10.heap.size ≤ X3.heap.size from HBA.out.size)
        clear hown hg
        refine hK.out _ _ ⟨⟨kc HBA.out x0, kc HBA.out x1, kc HBA.out k0, kc HBA.out k1, trivial⟩, HBA.out⟩ (fun hHeld => ?_)
        clear hK K
        (try simp only [Act.put, pt8])
        clear HBA
        refine wpAnyH_ready (rs := [6]) (by kernel_rfl) (by simp) ?_
        refine AllReadyH.cons rfl (fun K hK => ?_) AllReadyH.nil
        refine step_append_src (by rfl) _ _ _ (by rfl) Z10.heap.size 47 i0 (.agg #[.int .i64 0, .bool false]) 2 16 Try.underlying26 hi hz0 hz1 hz2 (by rfl) (by decide) _ ln (l.flatMap kiC) (by rfl) HOr.out (some ⟨gl, 0, none⟩) 1 1 [.int .i64 kt, .bool kd] (by rfl) (by rfl) (fun c => (by cases c)) (lit_new HLk.out) (by simp [Value.oneCell']) (by unfold maxLen; omega) (by omega) HSC.out (fun v2 X6 hown hg => ?_)
        obtain ⟨A6r, c6r, rfl⟩ := own_slice hown
        have HBA := Lib.hid (below_append hHeld.2 HOr.out (Nat.le_refl _) HSC.out hg)
        replace HQa := Lib.hid (HQa.out.grown (by decide) HOr.out hg)
        replace HOr := Lib.hid hown
        replace HSC := Lib.hid (show Z10.heap.size ≤ X6.heap.size from HBA.out.size)
        clear hown hg
        refine hK.out _ _ ⟨⟨kc HBA.out x0, kc HBA.out x1, kc HBA.out k0, kc HBA.out k1, trivial⟩, HBA.out⟩ (fun hHeld => ?_)
        clear hK K
        (try simp only [Act.put, pt8])
        clear HBA
        refine wpAnyH_ready (rs := [8]) (by kernel_rfl) (by simp) ?_
        refine AllReadyH.cons rfl (fun K hK => ?_) AllReadyH.nil
        go_simp
        refine (run_any (l := l ++ [(kt, kd)]) wk _ (HPZ.out _ (chain HB.out hHeld.2)) (Rw.own (show OwnKi _ _ _ (l ++ [(kt, kd)]) from by unfold OwnKi; rw [show (l ++ [(kt, kd)]).length = ln + 1 from by rw [List.length_append, HLN.out]; rfl, List.flatMap_append]; exact HOr.out) (Nat.le_refl _)) (Nat.le_refl _) HRP.out HN6.out).mono ?_
        rintro e X8 ⟨vm, vt, ps13, rfl, hos, hb⟩
        rw [HR13.out] at hos ⊢
        dsimp only at hos ⊢
        obtain ⟨A13, c13, rfl⟩ := own_slice hos.mem
        obtain ⟨B13, e13, rfl⟩ := own_slice hos.ths
        have HOs := Lib.hid (show OwnSt 0 X8 _ _ s13 ps13 from hos.base (Nat.zero_le _))
        have HBA := Lib.hid (chain hHeld.2 hb)
        replace HQa := Lib.hid (HQa.out.below hb HQa.out.lt)
        replace HSC := Lib.hid (show Z10.heap.size ≤ X8.heap.size from HBA.out.size)
        refine hK.out _ _ ⟨⟨kc HBA.out x0, kc HBA.out x1, kc HBA.out k0, kc HBA.out k1, trivial⟩, HBA.out⟩ (fun hHeld => ?_)
        clear hK K
        (try simp only [Act.put, pt8])
        clear hb hos HBA HOr HLk
        refine wpAnyH_take (i := 9) (v := ?_) rfl (by kernel_rfl) (by kernel_rfl) (by kernel_rfl) (fun _ _ _ h => h) (Or.inl ⟨by rfl, ?_⟩) (by assumption) ?_
        rotate_left
        · intro w hSw; (try dsimp only at hSw); go_simp; (try with_reducible rfl)
        (try simp only [Act.put, pt8])
        refine wpAnyH_take (i := 10) (v := ?_) rfl (by kernel_rfl) (by kernel_rfl) (by kernel_rfl) (fun _ _ _ h => h) (Or.inl ⟨by rfl, ?_⟩) (by assumption) ?_
        rotate_left
        · intro w hSw; (try dsimp only at hSw); go_simp; (try with_reducible rfl)
        (try simp only [Act.put, pt8])
        refine wpAnyH_take (i := 11) (v := ?_) rfl (by kernel_rfl) (by kernel_rfl) (by kernel_rfl) (fun _ _ _ h => h) (Or.inl ⟨by rfl, ?_⟩) (by assumption) ?_
        rotate_left
        · intro w hSw; (try dsimp only at hSw); go_simp; (try with_reducible rfl)
        (try simp only [Act.put, pt8])
        refine wpAnyH_take (i := 12) (v := ?_) rfl (by kernel_rfl) (by kernel_rfl) (by kernel_rfl) (fun _ _ _ h => h) (Or.inl ⟨by rfl, ?_⟩) (by assumption) ?_
        rotate_left
        · intro w hSw; (try dsimp only at hSw); go_simp; (try with_reducible rfl)
        (try simp only [Act.put, pt8])
        refine wpAnyH_ready (rs := [14]) (by kernel_rfl) (by simp) ?_
        refine AllReadyH.cons rfl (fun K hK => ?_) AllReadyH.nil
        have z0 := HQa.out.cell 0 _ rfl
        have z1 := HQa.out.cell 1 _ rfl
        have u0 := HQa.out.frozen 0
        have u1 := HQa.out.frozen 1
        have HBS2 := Lib.hid (show Below Z10.heap.size Z10 ((X8.setCell ⟨ga, 0, none⟩ (.slice A13 s13.mem.length c13)).setCell ⟨ga, 1, none⟩ (.slice B13 s13.ths.length e13)) from (hHeld.2.setCell (p := ⟨ga, 0, none⟩) HGA.out _).setCell (p := ⟨ga, 1, none⟩) HGA.out _)
        have HQS := Lib.hid (show BoxC ((X8.setCell ⟨ga, 0, none⟩ (.slice A13 s13.mem.length c13)).setCell ⟨ga, 1, none⟩ (.slice B13 s13.ths.length e13)) ga 31 #[(.slice A13 s13.mem.length c13), (.slice B13 s13.ths.length e13)] from (HQa.out.set 0 _).set 1 _)
        have HOS := Lib.hid (show OwnSt 0 ((X8.setCell ⟨ga, 0, none⟩ (.slice A13 s13.mem.length c13)).setCell ⟨ga, 1, none⟩ (.slice B13 s13.ths.length e13)) (.slice A13 s13.mem.length c13) (.slice B13 s13.ths.length e13) s13 ps13 from (HOs.out.box HQa.out (by decide) (by decide) (by decide) 0 _).box (HQa.out.set 0 _) (by decide) (by decide) (by decide) 1 _)
        go_simp
        refine hK.out _ _ ⟨⟨kc HBS2.out x0, kc HBS2.out x1, kc HBS2.out k0, kc HBS2.out k1, trivial⟩, HBS2.out⟩ (fun hHeld => ?_)
        clear z0 z1 u0 u1
        clear hK K
        (try simp only [Act.put, pt8])
        refine wpAnyH_ready (rs := [15]) (by kernel_rfl) (by simp) ?_
        refine AllReadyH.cons rfl (fun K hK => ?_) AllReadyH.nil
        go_simp
        refine hK.out _ _ hHeld (fun hHeld => ?_)
        clear hK K
        (try simp only [Act.put, pt8])
        refine wpAnyH_ready (rs := [16]) (by kernel_rfl) (by simp) ?_
        refine AllReadyH.cons rfl (fun K hK => ?_) AllReadyH.nil
        go_simp
        refine hK.out _ _ hHeld (fun hHeld => ?_)
        clear hK K
        (try simp only [Act.put, pt8])
        refine wpAnyH_done (by kernel_rfl) ?_ _
        clear hHeld
        go_wp2_with fail
        go_meet
        exact ⟨ga, A13, c13, B13, e13, ps13, rfl, rfl, rfl, HQS.out, HOS.out, HBS2.out⟩
  case rest =>
  obtain ⟨g13, A13, c13, B13, e13, ps13, rfl, rfl, rfl, hq, ho, hb⟩ := hcut
  obtain ⟨Z13, hZ⟩ : ∃ W, W = wc := ⟨_, rfl⟩
  rw [← hZ] at hq ho hb ⊢
  clear hZ x0 x1 k0 k1
  have HQ13 := Lib.hid hq
  have HO13 := Lib.hid ho
  replace HST := Lib.hid hb
  clear hq ho hb
  replace HX := Lib.hid (HX.out.below HST.out HX.out.lt)
  replace HKX := Lib.hid (HKX.out.below HST.out HKX.out.lt)
  replace HQ10 := Lib.hid (HQ10.out.below HST.out HQ10.out.lt)
  replace HO10 := Lib.hid (HO10.out.below HST.out)
  replace HB := Lib.hid (chain HB.out HST.out)
  have hm1 := HMY.out.1
  have hm2 := HMY.out.2
  cases a10
  · have HE := Lib.hid (HR13.out.symm.trans (runS_not (m := [(kt, kd)]) HR10.out))
    obtain ⟨rfl, rfl, rfl⟩ : s13 = s10 ∧ n13 = n10 ∧ a13 = false := by
      have := HE.out
      injection this with h1 h2
      injection h2 with h2 h3
      exact ⟨h1, h2, h3⟩
    have hnl : n13 < ln := by
      have h3 : ¬ n13 = l.length := fun e => by rw [decide_eq_true e] at hm2; cases hm2
      have := HLN.out
      omega
    have d1 : decide ((n13 : Int) < (ln : Int)) = true := decide_eq_true (by omega)
    have d2 : decide (n13 < ln) = true := decide_eq_true hnl
    have d3 : ((n13 : Int) == (n13 : Int)) = true := by simp
    clear hm1 hm2 HE
    rw [← HM10.out, ← HK10.out] at HQ13 HO13
    have s0 := HQ10.out.cell 0 _ rfl
    have s1 := HQ10.out.cell 1 _ rfl
    have r0 := HQ13.out.cell 0 _ rfl
    have r1 := HQ13.out.cell 1 _ rfl
    go_wp2_with fail
    refine (stsame_any _ HO10.out.sv HO13.out.sv (Nat.le_refl _)).mono ?_
    rintro e V21 ⟨rfl, hb⟩
    replace HST := Lib.hid hb
    clear hb s0 s1 r0 r1
    replace HX := Lib.hid (HX.out.below HST.out HX.out.lt)
    replace HKX := Lib.hid (HKX.out.below HST.out HKX.out.lt)
    replace HQ10 := Lib.hid (HQ10.out.below HST.out HQ10.out.lt)
    replace HQ13 := Lib.hid (HQ13.out.below HST.out HQ13.out.lt)
    replace HO10 := Lib.hid (HO10.out.below HST.out)
    replace HO13 := Lib.hid (HO13.out.below HST.out)
    replace HB := Lib.hid (chain HB.out HST.out)
    go_wp2
    go_ret
    exact ⟨rfl, HB.out⟩
  · have hnl : n10 = ln := by
      have := HLN.out
      by_cases e : n10 = l.length
      · omega
      · rw [decide_eq_false e] at hm2; cases hm2
    subst hnl
    have d3 : ((n10 : Int) == (n10 : Int)) = true := by simp
    clear hm1 hm2
    have x0 := HX.out.cell 0 _ rfl
    have x1 := HX.out.cell 1 _ rfl
    have s0 := HQ10.out.cell 0 _ rfl
    have s1 := HQ10.out.cell 1 _ rfl
    go_wp2_with fail
    refine (rright_any _ (HPZ.out _ HB.out).v HO10.out.sv (Nat.le_refl _)).mono ?_
    rintro e V11 ⟨d, rfl, hd, hb⟩
    obtain rfl : d = true := hd.2 HP10.out.1
    clear hd
    replace HST := Lib.hid hb
    clear hb x0 x1 s0 s1
    replace HX := Lib.hid (HX.out.below HST.out HX.out.lt)
    replace HKX := Lib.hid (HKX.out.below HST.out HKX.out.lt)
    replace HQ10 := Lib.hid (HQ10.out.below HST.out HQ10.out.lt)
    replace HQ13 := Lib.hid (HQ13.out.below HST.out HQ13.out.lt)
    replace HO10 := Lib.hid (HO10.out.below HST.out)
    replace HO13 := Lib.hid (HO13.out.below HST.out)
    replace HB := Lib.hid (chain HB.out HST.out)
    go_upto_region 10 with fail
    have x0 := HX.out.cell 0 _ rfl
    have x1 := HX.out.cell 1 _ rfl
    have s0 := HQ10.out.cell 0 _ rfl
    have s1 := HQ10.out.cell 1 _ rfl
    have k0 := HKX.out.cell 0 _ rfl
    have k1 := HKX.out.cell 1 _ rfl
    go_wp2_with fail
    refine (rstep13_any kt kd wk _ (HPZ.out _ HB.out).v HO10.out.sv (Nat.le_refl _) HRP.out HP10.out.1 HP10.out.2).mono ?_
    rintro e V16 ⟨A16, m16, c16, B16, k16, e16, rfl, hos, hb⟩
    obtain ⟨q, hq⟩ : ∃ q, q = (rst P s10 kt kd wk).isSome := ⟨_, rfl⟩
    rw [← hq]
    have HQQ := Lib.hid hq
    have HOS := Lib.hid hos
    replace HST := Lib.hid hb
    clear hq hos hb x0 x1 s0 s1 k0 k1
    replace HX := Lib.hid (HX.out.below HST.out HX.out.lt)
    replace HKX := Lib.hid (HKX.out.below HST.out HKX.out.lt)
    replace HQ10 := Lib.hid (HQ10.out.below HST.out HQ10.out.lt)
    replace HQ13 := Lib.hid (HQ13.out.below HST.out HQ13.out.lt)
    replace HO10 := Lib.hid (HO10.out.below HST.out)
    replace HO13 := Lib.hid (HO13.out.below HST.out)
    replace HB := Lib.hid (chain HB.out HST.out)
    go_upto_region 11 with fail
    obtain ⟨Z16, hZ⟩ : ∃ W, W = V16.alloc (.cells #[.slice A16 m16 c16, .slice B16 k16 e16] 31) := ⟨_, rfl⟩
    obtain ⟨g16, hg⟩ : ∃ g, g = V16.heap.size := ⟨_, rfl⟩
    have HQ16 := Lib.hid (show BoxC Z16 g16 31 #[.slice A16 m16 c16, .slice B16 k16 e16] from by rw [hZ, hg]; exact BoxC.new V16 _ _)
    replace HST := Lib.hid (show Below V16.heap.size V16 Z16 from by rw [hZ]; exact below_al (Below.refl _ _) _)
    rw [← hZ]
    (try rw [← hg])
    clear hZ hg
    replace HX := Lib.hid (HX.out.below HST.out HX.out.lt)
    replace HKX := Lib.hid (HKX.out.below HST.out HKX.out.lt)
    replace HQ10 := Lib.hid (HQ10.out.below HST.out HQ10.out.lt)
    replace HQ13 := Lib.hid (HQ13.out.below HST.out HQ13.out.lt)
    replace HO10 := Lib.hid (HO10.out.below HST.out)
    replace HO13 := Lib.hid (HO13.out.below HST.out)
    replace HB := Lib.hid (chain HB.out HST.out)
    cases q
    · have HN := Lib.hid (show rst P s10 kt kd wk = none from by have := HQQ.out; cases h : rst P s10 kt kd wk with | none => rfl | some a => (rw [h] at this; cases this))
      have HE := Lib.hid (HR13.out.symm.trans (runS_stop (m := []) (k := (kt, kd)) HR10.out HN.out))
      obtain ⟨rfl, rfl, rfl⟩ : s13 = s10 ∧ n13 = n10 ∧ a13 = false := by
        have := HE.out
        injection this with h1 h2
        injection h2 with h2 h3
        exact ⟨h1, h2, h3⟩
      clear HE
      rw [← HM10.out, ← HK10.out] at HQ13 HO13
      have s0 := HQ10.out.cell 0 _ rfl
      have s1 := HQ10.out.cell 1 _ rfl
      have r0 := HQ13.out.cell 0 _ rfl
      have r1 := HQ13.out.cell 1 _ rfl
      go_wp2_with fail
      refine (stsame_any _ HO10.out.sv HO13.out.sv (Nat.le_refl _)).mono ?_
      rintro e V22 ⟨rfl, hb⟩
      replace HST := Lib.hid hb
      clear hb s0 s1 r0 r1
      replace HX := Lib.hid (HX.out.below HST.out HX.out.lt)
      replace HKX := Lib.hid (HKX.out.below HST.out HKX.out.lt)
      replace HQ10 := Lib.hid (HQ10.out.below HST.out HQ10.out.lt)
      replace HQ13 := Lib.hid (HQ13.out.below HST.out HQ13.out.lt)
      replace HQ16 := Lib.hid (HQ16.out.below HST.out HQ16.out.lt)
      replace HO10 := Lib.hid (HO10.out.below HST.out)
      replace HO13 := Lib.hid (HO13.out.below HST.out)
      replace HB := Lib.hid (chain HB.out HST.out)
      go_wp2
      go_ret
      exact ⟨rfl, HB.out⟩
    · obtain ⟨s2, hs2⟩ : ∃ s2, rst P s10 kt kd wk = some s2 := by have := HQQ.out; cases h : rst P s10 kt kd wk with | none => (rw [h] at this; cases this) | some a => exact ⟨a, rfl⟩
      have HE := Lib.hid (HR13.out.symm.trans (runS_snoc (k := (kt, kd)) HR10.out hs2))
      obtain ⟨ps2, ho2⟩ := HOS.out s2 hs2
      have HO16 := Lib.hid (show OwnSt 0 Z16 (.slice A16 m16 c16) (.slice B16 k16 e16) s2 ps2 from (ho2.base (Nat.zero_le _)).below HST.out)
      obtain ⟨rfl, rfl, rfl⟩ : s13 = s2 ∧ n13 = n10 + 1 ∧ a13 = true := by
        have := HE.out
        injection this with h1 h2
        injection h2 with h2 h3
        exact ⟨h1, h2, h3⟩
      clear HE hs2 ho2
      have hw : IntKind.i64.wrap ((n10 : Int) + 1) = (n10 : Int) + 1 := IntWalk.i64_in _ (by omega)
      have d4 : (((n10 + 1 : Nat) : Int) == (n10 : Int) + 1) = true := by rw [beq_iff_eq]; omega
      have d5 : ((n10 : Int) + 1 == (n10 : Int) + 1) = true := by simp
      obtain ⟨m13, hm13⟩ : ∃ m, m = s13.mem.length := ⟨_, rfl⟩
      obtain ⟨k13, hk13⟩ : ∃ m, m = s13.ths.length := ⟨_, rfl⟩
      rw [← hm13, ← hk13] at HQ13 HO13
      clear hm13 hk13
      have s0 := HQ13.out.cell 0 _ rfl
      have s1 := HQ13.out.cell 1 _ rfl
      have r0 := HQ16.out.cell 0 _ rfl
      have r1 := HQ16.out.cell 1 _ rfl
      go_wp2_with fail
      refine (stsame_any _ HO13.out.sv HO16.out.sv (Nat.le_refl _)).mono ?_
      rintro e V23 ⟨rfl, hb⟩
      replace HST := Lib.hid hb
      clear hb s0 s1 r0 r1
      replace HX := Lib.hid (HX.out.below HST.out HX.out.lt)
      replace HKX := Lib.hid (HKX.out.below HST.out HKX.out.lt)
      replace HQ10 := Lib.hid (HQ10.out.below HST.out HQ10.out.lt)
      replace HQ13 := Lib.hid (HQ13.out.below HST.out HQ13.out.lt)
      replace HQ16 := Lib.hid (HQ16.out.below HST.out HQ16.out.lt)
      replace HO10 := Lib.hid (HO10.out.below HST.out)
      replace HO13 := Lib.hid (HO13.out.below HST.out)
      replace HO16 := Lib.hid (HO16.out.below HST.out)
      replace HB := Lib.hid (chain HB.out HST.out)
      go_wp2
      go_ret
      exact ⟨rfl, HB.out⟩
end Go.Proofs.Ytbgjamoflbdhoaa
