/-
  LAYER 10: the walk of ScEnds.
-/
import Derived.Test.YtoeginglmgjojaaScHd
import Derived.Test.YtoeginglmgjojaaScT6L
import Derived.Deep.RegionHeld3
import Derived.Deep.DeepCutAuto
namespace Go.Proofs.Ytoeginglmgjojaa
open Go.RowKit
set_option linter.unusedVariables false
set_option linter.unusedSimpArgs false
open CodM (St Pg rightP hReg hLoc)
open BfM (Wr plc)
open ScM

def EndRel3 (P : Pg) (W0 W6 : World) (g6 : Nat) (L n : Nat) (m : Value) (i : Value) (wr : World) : Prop := ∃ (k : Nat), k ≤ n ∧ i = .int .i64 k ∧ ∃ (Am : Option Addr) (cm : Nat) (Av : Option Addr) (cv : Nat) (S : Sta) (ps : List TV) (mv : Bool), m = .bool mv ∧ BoxC wr g6 28 #[.slice Am P.init.length cm, .slice Av P.ths.length cv] ∧ OwnSt W0.heap.size wr (.slice Am P.init.length cm) (.slice Av P.ths.length cv) S ps ∧ OkSt P S ∧ WideS S ∧ lft P.ths S.ths ≤ L ∧ (mv = true → lft P.ths S.ths + 1 ≤ L) ∧ Below W6.heap.size W6 wr
def EndRel2 (P : Pg) (W0 W6 : World) (g6 : Nat) (many : Nat) (i : Value) (wr : World) : Prop := ∃ (q : Nat), i = .int .i64 q ∧ ∃ (Am : Option Addr) (cm : Nat) (Av : Option Addr) (cv : Nat) (S : Sta) (ps : List TV), BoxC wr g6 28 #[.slice Am P.init.length cm, .slice Av P.ths.length cv] ∧ OwnSt W0.heap.size wr (.slice Am P.init.length cm) (.slice Av P.ths.length cv) S ps ∧ OkSt P S ∧ WideS S ∧ lft P.ths S.ths + q ≤ many ∧ Below W6.heap.size W6 wr
set_option maxHeartbeats 8000000 in
set_option maxRecDepth 100000 in
theorem scends_any {B : Nat} {v u : Value} {P : Pg} {g : List Nat} (w : World) (hv : PgZ B w v P) (hu : BytR B w u g) (hgb : ∀ x ∈ g, x < 256) (hBB : B ≤ w.heap.size) :
    Calls Try.prog 8 #[v, u] w fun e w' => e = .returned (.bool true) ∧ Below w.heap.size w w' := by
  obtain ⟨pi, pt, rfl, hpm, hpi⟩ := hv
  have HPM := Lib.hid hpm
  have HPI := Lib.hid hpi
  obtain ⟨⟨P0, d0, rfl, -⟩, ⟨P1, d1, rfl, l1, l2, l3⟩⟩ := hpm
  obtain ⟨Ag, cg, rfl, m1, m2, -, m3⟩ := hu
  clear hpi
  unfold maxLen at l2 m2
  have HL3 := Lib.hid l3
  have HG3 := Lib.hid (by_at (c := cg) m3)
  have HGB := Lib.hid hgb
  clear l3 m3 hgb
  obtain ⟨W2, hW2⟩ : ∃ W, W = (w.alloc (.cells #[.slice P0 P.init.length d0, .slice P1 P.ths.length d1] 25)) := ⟨_, rfl⟩
  obtain ⟨gp, hgp⟩ : ∃ g, g = w.heap.size := ⟨_, rfl⟩
  have HX := Lib.hid (show BoxC W2 gp 25 #[.slice P0 P.init.length d0, .slice P1 P.ths.length d1] from by rw [hW2, hgp]; exact BoxC.new w _ _)
  have HB2 := Lib.hid (show Below w.heap.size w W2 from by rw [hW2]; exact below_al (Below.refl _ _) _)
  have HPZ := Lib.hid (fun W (hW : Below W2.heap.size W2 W) => show PgZ W.heap.size W (.agg #[.slice P0 P.init.length d0, .slice P1 P.ths.length d1]) P from ⟨_, _, rfl, (HPM.out.below ((chain HB2.out hW).mono hBB)).more (Nat.le_trans hBB (chain HB2.out hW).size), (HPI.out.below ((chain HB2.out hW).mono hBB)).more (Nat.le_trans hBB (chain HB2.out hW).size)⟩)
  have HTB := Lib.hid (fun (W : World) (hW : Below W2.heap.size W2 W) => show Below B w W from (chain HB2.out hW).mono hBB)
  have HL := Lib.hid (Below.refl W2.heap.size W2)
  go_enter Try.func8, Try.ntmps8
  go_upto_region 1 with fail
  rw [← hW2]
  (try rw [← hgp])
  clear hW2 hgp
  go_wp2_with fail
  refine (head_any _).mono ?_
  rintro e V1 ⟨rfl, hb⟩
  replace HL := Lib.hid (chain HL.out hb)
  clear hb
  have x0 := (HX.out.below HL.out HX.out.lt).cell 0 _ rfl
  have x1 := (HX.out.below HL.out HX.out.lt).cell 1 _ rfl
  go_wp2_with fail
  refine (cgreat_any _ (HPZ.out _ HL.out).v (Nat.le_refl _)).mono ?_
  rintro e V2 ⟨gb, rfl, hg, hb⟩
  replace HL := Lib.hid (chain HL.out hb)
  clear hb x0 x1
  cases gb
  case true =>
    go_wp2
    go_ret
    exact ⟨rfl, chain HB2.out HL.out⟩
  have HRP := Lib.hid (hg rfl).2
  clear hg
  by_cases h100 : 100 < g.length
  case pos =>
    go_wp2
    go_ret
    exact ⟨rfl, chain HB2.out HL.out⟩
  obtain ⟨hi4, ht1, ht3, hl80⟩ := right_ths HRP.out
  have HL80 := Lib.hid hl80
  clear hl80
  have x0 := (HX.out.below HL.out HX.out.lt).cell 0 _ rfl
  have x1 := (HX.out.below HL.out HX.out.lt).cell 1 _ rfl
  go_wp2_with fail
  refine (sbegin_any _ (HPZ.out _ HL.out) (Nat.le_refl _) HRP.out).mono ?_
  rintro e V3 ⟨vm, vt, ps0, rfl, hos, hb⟩
  have HOS0 := Lib.hid (hos.base HL.out.size)
  replace HL := Lib.hid (chain HL.out hb)
  obtain ⟨Am, cm, rfl⟩ := own_slice (n := P.init.length) hos.mem
  obtain ⟨Av, cv, rfl⟩ := own_slice (n := P.ths.length) (show V3.ownsRow _ _ 4 vt P.ths.length _ from by have e := hos.ths; rwa [show (beg P).ths.length = P.ths.length from List.length_map _] at e)
  clear hb hos x0 x1
  go_upto_region 5 with fail
  obtain ⟨W6, hW6⟩ : ∃ W, W = V3.alloc (.cells #[.slice Am P.init.length cm, .slice Av P.ths.length cv] 28) := ⟨_, rfl⟩
  obtain ⟨g6, hg6⟩ : ∃ g, g = V3.heap.size := ⟨_, rfl⟩
  have HST := Lib.hid (show Below V3.heap.size V3 W6 from by rw [hW6]; exact below_al (Below.refl _ _) _)
  have HQ0 := Lib.hid (show BoxC W6 g6 28 #[.slice Am P.init.length cm, .slice Av P.ths.length cv] from by rw [hW6, hg6]; exact BoxC.new V3 _ _)
  have HG6 := Lib.hid (show V3.heap.size ≤ g6 from by omega)
  rw [← hW6]
  (try rw [← hg6])
  clear hW6 hg6
  replace HOS0 := Lib.hid (HOS0.out.below HST.out)
  have HLV := Lib.hid HL.out
  replace HL := Lib.hid (chain HL.out HST.out)
  go_wp2
  go_loop [7, 8] (fun m i => ∃ k : Nat, k ≤ P.ths.length ∧ i = .int .i64 k ∧ m = .int .i64 (manyT P.ths k : Nat) ∧ manyT P.ths k ≤ k * 80) (fun _ i => P.ths.length - (intOf i).toNat)
  case atStart => exact ⟨0, Nat.zero_le _, rfl, by rw [manyT_zero]; rfl, by rw [manyT_zero]; exact Nat.le_refl _⟩
  case round =>
    obtain ⟨k, hk, rfl, rfl, hmk⟩ := hrel
    have x1 := (HX.out.below HL.out HX.out.lt).cell 1 _ rfl
    by_cases hlt : k < P.ths.length
    · obtain ⟨b2, f2, rfl, hb2, hc2⟩ := HL3.out (by omega)
      obtain ⟨uu, z0, A5, c5, rfl, -⟩ := hc2 k hlt
      replace z0 := ((HTB.out _ HL.out).cell (p := ⟨b2, f2 + k, none⟩) hb2).trans z0
      have hl8 := HL80.out k hlt
      have HMN := Lib.hid (manyT_next P.ths k hlt)
      generalize P.ths[k] = ss at *
      have hwr : IntKind.i64.wrap ((manyT P.ths k : Int) + (ss.length : Int)) = (manyT P.ths k : Int) + (ss.length : Int) := IntWalk.i64_in _ (by omega)
      clear hc2
      go_wp2
      go_round
      case rel => exact ⟨k + 1, by omega, by go_num, by rw [HMN.out]; rfl, by rw [HMN.out]; omega⟩
      case measure => simp [intOf]; omega
    · obtain rfl : P.ths.length = k := by omega
      obtain ⟨many, hmany⟩ : ∃ m, m = manyT P.ths P.ths.length := ⟨_, rfl⟩
      have HMY := Lib.hid hmany
      rw [← hmany] at hmk ⊢
      clear hmany
      go_wp2
      go_loopw [9] (fun i wr => EndRel2 P W2 V3 g6 many i wr) (fun i _ => many + 1 - (intOf i).toNat)
      case atStart => exact ⟨0, rfl, Am, cm, Av, cv, beg P, ps0, HQ0.out, HOS0.out, beg_ok P, beg_wide HRP.out, by rw [HMY.out, Nat.add_zero]; exact Nat.le_of_eq (lft_beg P.ths), HST.out⟩
      case round =>
        clear HQ0 HOS0 HST x1
        obtain ⟨q, rfl, Am, cm, Av, cv, S0, ps, hq6, hos, hok, hws, hlf, hB⟩ := hrel
        have HQ6 := Lib.hid hq6
        have HOS := Lib.hid hos
        have HOK := Lib.hid hok
        have HWS := Lib.hid hws
        have HLF := Lib.hid hlf
        have HB := Lib.hid hB
        have HLr := Lib.hid (chain HLV.out hB)
        have hqm : q ≤ many := by omega
        clear hq6 hos hok hws hlf hB
        have x0 := (HX.out.below HLr.out HX.out.lt).cell 0 _ rfl
        have x1 := (HX.out.below HLr.out HX.out.lt).cell 1 _ rfl
        have y0 := HQ6.out.cell 0 _ rfl
        have y1 := HQ6.out.cell 1 _ rfl
        go_wp2_with fail
        refine (rright_any _ (HPZ.out _ HLr.out).v HOS.out.sv (Nat.le_refl _)).mono ?_
        rintro e V5 ⟨d, rfl, hd, hb⟩
        obtain rfl : d = true := hd.2 HOK.out
        have HST := Lib.hid hb
        replace HB := Lib.hid (chain HB.out hb)
        replace HLr := Lib.hid (chain HLr.out hb)
        replace HOS := Lib.hid (HOS.out.below hb)
        replace HQ6 := Lib.hid (HQ6.out.below hb HQ6.out.lt)
        clear hd hb x0 x1 y0 y1
        obtain ⟨L, hL⟩ : ∃ L, L = lft P.ths S0.ths := ⟨_, rfl⟩
        rw [← hL] at HLF
        have HL0 := Lib.hid hL
        clear hL
        go_upto_if 53 with fail
        go_cut [10] (fun s10 wx => (∃ f : Nat, f < 256 ∧ s10 = .int .i64 f) ∧ wx = V5)
        case first =>
          by_cases hqg : q < g.length
          · obtain ⟨bg, fg, rfl, hbg, hcg⟩ := HG3.out (by omega)
            have z0 := ((HTB.out _ HLr.out).cell (p := ⟨bg, fg + q, none⟩) hbg).trans (hcg q hqg)
            have hx := HGB.out _ (List.getElem_mem hqg)
            generalize g[q] = pk at *
            clear hcg
            go_wp2_with fail
            go_meet
            exact ⟨⟨pk, hx, rfl⟩, rfl⟩
          · go_wp2_with fail
            go_meet
            exact ⟨⟨0, by omega, rfl⟩, rfl⟩
        case rest =>
        obtain ⟨⟨f, hf, rfl⟩, hwc⟩ := hcut
        have hwc := hwc.symm
        subst hwc
        go_wp2
        go_loopw [11, 12] (fun m i wr => EndRel3 P W2 V3 g6 L P.ths.length m i wr) (fun _ i _ => P.ths.length - (intOf i).toNat)
        case atStart => exact ⟨0, Nat.zero_le _, rfl, Am, cm, Av, cv, S0, ps, false, rfl, HQ6.out, HOS.out, HOK.out, HWS.out, Nat.le_of_eq HL0.out.symm, fun e => (by cases e), HB.out⟩
        case round =>
          clear HQ6 HOS HOK HWS HB HST
          obtain ⟨k, hk, rfl, Am, cm, Av, cv, S, ps, mv, rfl, hq6, hos, hok, hws, hlf, hmv, hB⟩ := hrel
          have HQ6 := Lib.hid hq6
          have HOS := Lib.hid hos
          have HOK := Lib.hid hok
          have HWS := Lib.hid hws
          have HLL := Lib.hid HLF.out
          have HLF := Lib.hid hlf
          have HMV := Lib.hid hmv
          have HB := Lib.hid hB
          have HLr := Lib.hid (chain HLV.out hB)
          have HBZ := Lib.hid (show W2.heap.size ≤ wr.heap.size from HLr.out.size)
          have HLS := Lib.hid hlf
          clear hq6 hos hok hws hlf hmv hB
          have x0 := (HX.out.below HLr.out HX.out.lt).cell 0 _ rfl
          have x1 := (HX.out.below HLr.out HX.out.lt).cell 1 _ rfl
          cases mv
          case true =>
            by_cases hkn : k < P.ths.length
            · go_wp2_with fail
              clear x0 x1
              go_roundw
              case rel => exact ⟨q + 1, by go_num, Am, cm, Av, cv, S, ps, HQ6.out, HOS.out, HOK.out, HWS.out, by have := HMV.out rfl; have := HLL.out; omega, HB.out⟩
              case measure => simp [intOf]; omega
            · go_wp2_with fail
              clear x0 x1
              go_roundw
              case rel => exact ⟨q + 1, by go_num, Am, cm, Av, cv, S, ps, HQ6.out, HOS.out, HOK.out, HWS.out, by have := HMV.out rfl; have := HLL.out; omega, HB.out⟩
              case measure => simp [intOf]; omega
          by_cases hlt : k < P.ths.length
          case neg =>
            obtain rfl : P.ths.length = k := by omega
            go_wp2
            go_ret
            exact ⟨rfl, chain HB2.out HLr.out⟩
          have y0 := HQ6.out.cell 0 _ rfl
          have y1 := HQ6.out.cell 1 _ rfl
          obtain ⟨u, hu⟩ : ∃ u, u = (f + k) % P.ths.length := ⟨_, rfl⟩
          have hrem : ((f : Int) + (k : Int)).tmod (P.ths.length : Int) = (u : Int) := by rw [← Int.natCast_add, hu]; rfl
          have hmodz : ¬ P.ths.length = 0 := by omega
          have hmz2 : ((P.ths.length : Int) == 0) = false := by rw [beq_eq_false_iff_ne]; omega
          have hwr : IntKind.i64.wrap ((f : Int) + (k : Int)) = (f : Int) + (k : Int) := IntWalk.i64_in _ (by omega)
          clear hu
          go_upto_region 22 with fail
          refine wp_region_held_drew (S := (fun w' => (w'.cell? ⟨gp, 0, none⟩ = some (.slice P0 P.init.length d0) ∧ w'.cell? ⟨gp, 1, none⟩ = some (.slice P1 P.ths.length d1) ∧ w'.cell? ⟨g6, 0, none⟩ = some (.slice Am P.init.length cm) ∧ w'.cell? ⟨g6, 1, none⟩ = some (.slice Av P.ths.length cv) ∧ True) ∧ Below wr.heap.size wr w')) (by kernel_rfl) ⟨⟨x0, x1, y0, y1, trivial⟩, below_drewN (Below.refl _ _) 1⟩ (fun hHeld => ?_)
          obtain ⟨Xs, hXs⟩ : ∃ W, W = wr.drew := ⟨_, rfl⟩
          have HXs := Lib.hid (show Below wr.heap.size wr Xs from by rw [hXs]; exact below_drewN (Below.refl _ _) 1)
          rw [← hXs] at hHeld ⊢
          clear hXs
          refine wpAnyH_take (i := 0) (v := ?_) rfl (by kernel_rfl) (by kernel_rfl) (by kernel_rfl) (fun _ _ _ h => h) (Or.inl ⟨by rfl, ?_⟩) (by assumption) ?_
          rotate_left
          · intro w hSw; (try dsimp only at hSw); go_simp; (try with_reducible rfl)
          (try simp only [Act.put, List.getElem_toArray, List.getElem_cons_zero, List.getElem_cons_succ, Array.getInternal_eq_getElem, List.setIfInBounds_toArray, List.set_cons_zero, List.set_cons_succ])
          refine wpAnyH_take (i := 1) (v := ?_) rfl (by kernel_rfl) (by kernel_rfl) (by kernel_rfl) (fun _ _ _ h => h) (Or.inl ⟨by rfl, ?_⟩) (by assumption) ?_
          rotate_left
          · intro w hSw; (try dsimp only at hSw); go_simp; (try with_reducible rfl)
          (try simp only [Act.put, List.getElem_toArray, List.getElem_cons_zero, List.getElem_cons_succ, Array.getInternal_eq_getElem, List.setIfInBounds_toArray, List.set_cons_zero, List.set_cons_succ])
          refine wpAnyH_take (i := 2) (v := ?_) rfl (by kernel_rfl) (by kernel_rfl) (by kernel_rfl) (fun _ _ _ h => h) (Or.inl ⟨by rfl, ?_⟩) (by assumption) ?_
          rotate_left
          · intro w hSw; (try dsimp only at hSw); go_simp; (try with_reducible rfl)
          (try simp only [Act.put, List.getElem_toArray, List.getElem_cons_zero, List.getElem_cons_succ, Array.getInternal_eq_getElem, List.setIfInBounds_toArray, List.set_cons_zero, List.set_cons_succ])
          refine wpAnyH_take (i := 3) (v := ?_) rfl (by kernel_rfl) (by kernel_rfl) (by kernel_rfl) (fun _ _ _ h => h) (Or.inl ⟨by rfl, ?_⟩) (by assumption) ?_
          rotate_left
          · intro w hSw; (try dsimp only at hSw); go_simp; (try with_reducible rfl)
          (try simp only [Act.put, List.getElem_toArray, List.getElem_cons_zero, List.getElem_cons_succ, Array.getInternal_eq_getElem, List.setIfInBounds_toArray, List.set_cons_zero, List.set_cons_succ])
          refine wpAnyH_take (i := 4) (v := ?_) rfl (by kernel_rfl) (by kernel_rfl) (by kernel_rfl) (fun _ _ _ h => h) (Or.inl ⟨by rfl, ?_⟩) (by assumption) ?_
          rotate_left
          · intro w hSw; (try dsimp only at hSw); go_simp; (try with_reducible rfl)
          (try simp only [Act.put, List.getElem_toArray, List.getElem_cons_zero, List.getElem_cons_succ, Array.getInternal_eq_getElem, List.setIfInBounds_toArray, List.set_cons_zero, List.set_cons_succ])
          refine wpAnyH_take (i := 5) (v := ?_) rfl (by kernel_rfl) (by kernel_rfl) (by kernel_rfl) (fun _ _ _ h => h) (Or.inl ⟨by rfl, ?_⟩) (by assumption) ?_
          rotate_left
          · intro w hSw; (try dsimp only at hSw); go_simp; (try with_reducible rfl)
          (try simp only [Act.put, List.getElem_toArray, List.getElem_cons_zero, List.getElem_cons_succ, Array.getInternal_eq_getElem, List.setIfInBounds_toArray, List.set_cons_zero, List.set_cons_succ])
          refine wpAnyH_take (i := 6) (v := ?_) rfl (by kernel_rfl) (by kernel_rfl) (by kernel_rfl) (fun _ _ _ h => h) (Or.inl ⟨by rfl, ?_⟩) (by assumption) ?_
          rotate_left
          · intro w hSw; (try dsimp only at hSw); go_simp; (try with_reducible rfl)
          (try simp only [Act.put, List.getElem_toArray, List.getElem_cons_zero, List.getElem_cons_succ, Array.getInternal_eq_getElem, List.setIfInBounds_toArray, List.set_cons_zero, List.set_cons_succ])
          refine wpAnyH_take (i := 7) (v := ?_) rfl (by kernel_rfl) (by kernel_rfl) (by kernel_rfl) (fun _ _ _ h => h) (Or.inl ⟨by rfl, ?_⟩) (by assumption) ?_
          rotate_left
          · intro w hSw; (try dsimp only at hSw); go_simp; (try with_reducible rfl)
          (try simp only [Act.put, List.getElem_toArray, List.getElem_cons_zero, List.getElem_cons_succ, Array.getInternal_eq_getElem, List.setIfInBounds_toArray, List.set_cons_zero, List.set_cons_succ])
          refine wpAnyH_take (i := 8) (v := ?_) rfl (by kernel_rfl) (by kernel_rfl) (by kernel_rfl) (fun _ _ _ h => h) (Or.inl ⟨by rfl, ?_⟩) (by assumption) ?_
          rotate_left
          · intro w hSw; (try dsimp only at hSw); go_simp; (try with_reducible rfl)
          (try simp only [Act.put, List.getElem_toArray, List.getElem_cons_zero, List.getElem_cons_succ, Array.getInternal_eq_getElem, List.setIfInBounds_toArray, List.set_cons_zero, List.set_cons_succ])
          refine wpAnyH_ready (rs := [9, 13]) (by kernel_rfl) (by simp) ?_
          refine AllReadyH.cons rfl (fun K hK => ?_) (AllReadyH.cons rfl (fun K hK => ?_) (AllReadyH.nil))
          · -- 9 first
            go_simp
            refine (sstep_any (u : Int) _ ((HPZ.out _ (chain HLr.out hHeld.2)).v) (HOS.out.below hHeld.2).sv (Nat.le_refl _) HRP.out HOK.out HWS.out).mono ?_
            rintro e Y9 ⟨vm9, vt9, ps9, rfl, hos, hb⟩
            have HO9 := Lib.hid (hos.base hHeld.2.size)
            obtain ⟨A9, c9, rfl⟩ := own_slice (n := P.init.length) (show Y9.ownsRow _ _ 1 vm9 P.init.length _ from by have e := hos.mem; unfold OwnI at e; rwa [show (stp P S (u : Int)).mem.length = P.init.length from (stp_len P S _).1.trans HOK.out.mem] at e)
            obtain ⟨B9, e9, rfl⟩ := own_slice (n := P.ths.length) (show Y9.ownsRow _ _ 4 vt9 P.ths.length _ from by have e := hos.ths; rwa [show (stp P S (u : Int)).ths.length = P.ths.length from (stp_len P S _).2.trans HOK.out.ths] at e)
            have HST := Lib.hid hb
            have HLz := Lib.hid (chain hHeld.2 hb)
            refine hK.out _ _ ⟨⟨kc hb hHeld.1.1, kc hb hHeld.1.2.1, kc hb hHeld.1.2.2.1, kc hb hHeld.1.2.2.2.1, trivial⟩, chain hHeld.2 hb⟩ (fun hHeld => ?_)
            clear hK K
            (try simp only [Act.put, List.getElem_toArray, List.getElem_cons_zero, List.getElem_cons_succ, Array.getInternal_eq_getElem, List.setIfInBounds_toArray, List.set_cons_zero, List.set_cons_succ])
            clear hb hos
            refine wpAnyH_take (i := 10) (v := ?_) rfl (by kernel_rfl) (by kernel_rfl) (by kernel_rfl) (fun _ _ _ h => h) (Or.inl ⟨by rfl, ?_⟩) (by assumption) ?_
            rotate_left
            · intro w hSw; (try dsimp only at hSw); go_simp; (try with_reducible rfl)
            (try simp only [Act.put, List.getElem_toArray, List.getElem_cons_zero, List.getElem_cons_succ, Array.getInternal_eq_getElem, List.setIfInBounds_toArray, List.set_cons_zero, List.set_cons_succ])
            refine wpAnyH_take (i := 11) (v := ?_) rfl (by kernel_rfl) (by kernel_rfl) (by kernel_rfl) (fun _ _ _ h => h) (Or.inl ⟨by rfl, ?_⟩) (by assumption) ?_
            rotate_left
            · intro w hSw; (try dsimp only at hSw); go_simp; (try with_reducible rfl)
            (try simp only [Act.put, List.getElem_toArray, List.getElem_cons_zero, List.getElem_cons_succ, Array.getInternal_eq_getElem, List.setIfInBounds_toArray, List.set_cons_zero, List.set_cons_succ])
            refine wpAnyH_take (i := 12) (v := ?_) rfl (by kernel_rfl) (by kernel_rfl) (by kernel_rfl) (fun _ _ _ h => h) (Or.inl ⟨by rfl, ?_⟩) (by assumption) ?_
            rotate_left
            · intro w hSw; (try dsimp only at hSw); go_simp; (try with_reducible rfl)
            (try simp only [Act.put, List.getElem_toArray, List.getElem_cons_zero, List.getElem_cons_succ, Array.getInternal_eq_getElem, List.setIfInBounds_toArray, List.set_cons_zero, List.set_cons_succ])
            refine wpAnyH_ready (rs := [13]) (by kernel_rfl) (by simp) ?_
            refine AllReadyH.cons rfl (fun K hK => ?_) AllReadyH.nil
            have hb := below_al (Below.refl Y9.heap.size Y9) (.cells #[.slice none 0 0, .slice none 0 0] 28)
            go_simp
            refine hK.out _ _ ⟨⟨kc hb hHeld.1.1, kc hb hHeld.1.2.1, kc hb hHeld.1.2.2.1, kc hb hHeld.1.2.2.2.1, trivial⟩, chain hHeld.2 hb⟩ (fun hHeld => ?_)
            clear hK K
            (try simp only [Act.put, List.getElem_toArray, List.getElem_cons_zero, List.getElem_cons_succ, Array.getInternal_eq_getElem, List.setIfInBounds_toArray, List.set_cons_zero, List.set_cons_succ])
            obtain ⟨Y13, hY⟩ : ∃ W, W = Y9.alloc (.cells #[.slice none 0 0, .slice none 0 0] 28) := ⟨_, rfl⟩
            obtain ⟨g13, hg⟩ : ∃ g, g = Y9.heap.size := ⟨_, rfl⟩
            rw [← hY] at hHeld hb ⊢
            (try rw [← hg])
            have HQ13 := Lib.hid (show BoxC Y13 g13 28 #[.slice none 0 0, .slice none 0 0] from by rw [hY, hg]; exact BoxC.new Y9 _ _)
            have HG13 := Lib.hid (show wr.heap.size ≤ g13 from by rw [hg]; exact HLz.out.size)
            replace HO9 := Lib.hid (HO9.out.below hb)
            replace HLz := Lib.hid (chain HLz.out hb)
            clear hY hg hb
            refine wpAnyH_ready (rs := [14]) (by kernel_rfl) (by simp) ?_
            refine AllReadyH.cons rfl (fun K hK => ?_) AllReadyH.nil
            have q0 := HQ13.out.cell 0 _ rfl
            have q1 := HQ13.out.cell 1 _ rfl
            have w0 := HQ13.out.frozen 0
            have w1 := HQ13.out.frozen 1
            have HBS := Lib.hid (show Below wr.heap.size wr ((Y13.setCell ⟨g13, 0, none⟩ (.slice A9 P.init.length c9)).setCell ⟨g13, 1, none⟩ (.slice B9 P.ths.length e9)) from (HLz.out.setCell (p := ⟨g13, 0, none⟩) HG13.out _).setCell (p := ⟨g13, 1, none⟩) HG13.out _)
            go_simp
            refine hK.out _ _ ⟨⟨kc HBS.out x0, kc HBS.out x1, kc HBS.out y0, kc HBS.out y1, trivial⟩, HBS.out⟩ (fun hHeld => ?_)
            clear hK K
            (try simp only [Act.put, List.getElem_toArray, List.getElem_cons_zero, List.getElem_cons_succ, Array.getInternal_eq_getElem, List.setIfInBounds_toArray, List.set_cons_zero, List.set_cons_succ])
            obtain ⟨Z, hZ⟩ : ∃ W, W = ((Y13.setCell ⟨g13, 0, none⟩ (.slice A9 P.init.length c9)).setCell ⟨g13, 1, none⟩ (.slice B9 P.ths.length e9)) := ⟨_, rfl⟩
            have HLZ := Lib.hid (show Below wr.heap.size wr Z from by rw [hZ]; exact HBS.out)
            have HQZ := Lib.hid (show BoxC Z g13 28 #[.slice A9 P.init.length c9, .slice B9 P.ths.length e9] from by rw [hZ]; exact (HQ13.out.set 0 _).set 1 _)
            have HOZ := Lib.hid (show OwnSt wr.heap.size Z (.slice A9 P.init.length c9) (.slice B9 P.ths.length e9) (stp P S (u : Int)) ps9 from by rw [hZ]; exact (HO9.out.box HQ13.out (by decide) (by decide) (by decide) 0 _).box (HQ13.out.set 0 _) (by decide) (by decide) (by decide) 1 _)
            rw [← hZ] at hHeld ⊢
            clear hZ HBS q0 q1 w0 w1 HQ13 HO9
            refine wpAnyH_ready (rs := [15]) (by kernel_rfl) (by simp) ?_
            refine AllReadyH.cons rfl (fun K hK => ?_) AllReadyH.nil
            go_simp
            refine hK.out _ _ hHeld (fun hHeld => ?_)
            clear hK K
            (try simp only [Act.put, List.getElem_toArray, List.getElem_cons_zero, List.getElem_cons_succ, Array.getInternal_eq_getElem, List.setIfInBounds_toArray, List.set_cons_zero, List.set_cons_succ])
            refine wpAnyH_done (by kernel_rfl) ?_ _
            clear hHeld x0 x1 y0 y1 hrem hmodz hmz2 hwr
            have HQ6Z := Lib.hid (HQ6.out.below HLZ.out HQ6.out.lt)
            cases hat : atS P S (u : Int) with
            | none =>
              have HSE := Lib.hid (stp_no hat)
              clear hat
              go_wp2_with fail
              go_roundw
              case rel => exact ⟨k + 1, by omega, by go_num, Am, cm, Av, cv, S, ps, false, rfl, HQ6Z.out, HOS.out.below HLZ.out, HOK.out, HWS.out, HLF.out, fun e => (by cases e), chain HB.out HLZ.out⟩
              case measure => simp [intOf]; omega
            | some x =>
              have HLT := Lib.hid (stp_left HRP.out HOK.out (t := (u : Int)) (by rw [hat]; rfl))
              clear hat
              have z0 := HQZ.out.cell 0 _ rfl
              have z1 := HQZ.out.cell 1 _ rfl
              have y0 := HQ6Z.out.cell 0 _ rfl
              have y1 := HQ6Z.out.cell 1 _ rfl
              have f0 := HQ6Z.out.frozen 0
              have f1 := HQ6Z.out.frozen 1
              go_wp2_with fail
              clear z0 z1 y0 y1 f0 f1
              go_roundw
              case rel =>
                exact ⟨k + 1, by omega, by go_num, _, _, _, _, stp P S (u : Int), _, true, rfl, (HQ6Z.out.set 0 _).set 1 _, ((HOZ.out.base HBZ.out).box HQ6Z.out (by decide) (by decide) (by decide) 0 _).box (HQ6Z.out.set 0 _) (by decide) (by decide) (by decide) 1 _, stp_ok HRP.out HOK.out _, stp_wide _ HWS.out, by have := HLT.out; have := HLF.out; omega, fun _ => by have := HLT.out; have := HLS.out; omega, ((chain HB.out HLZ.out).setCell (p := ⟨g6, 0, none⟩) HG6.out _).setCell (p := ⟨g6, 1, none⟩) HG6.out _⟩
              case measure => simp [intOf]; omega
          · -- 13 first
            have hb := below_al (Below.refl Xs.heap.size Xs) (.cells #[.slice none 0 0, .slice none 0 0] 28)
            go_simp
            refine hK.out _ _ ⟨⟨kc hb hHeld.1.1, kc hb hHeld.1.2.1, kc hb hHeld.1.2.2.1, kc hb hHeld.1.2.2.2.1, trivial⟩, chain hHeld.2 hb⟩ (fun hHeld => ?_)
            clear hK K
            (try simp only [Act.put, List.getElem_toArray, List.getElem_cons_zero, List.getElem_cons_succ, Array.getInternal_eq_getElem, List.setIfInBounds_toArray, List.set_cons_zero, List.set_cons_succ])
            obtain ⟨Y13, hY⟩ : ∃ W, W = Xs.alloc (.cells #[.slice none 0 0, .slice none 0 0] 28) := ⟨_, rfl⟩
            obtain ⟨g13, hg⟩ : ∃ g, g = Xs.heap.size := ⟨_, rfl⟩
            rw [← hY] at hHeld hb ⊢
            (try rw [← hg])
            have HQ13 := Lib.hid (show BoxC Y13 g13 28 #[.slice none 0 0, .slice none 0 0] from by rw [hY, hg]; exact BoxC.new Xs _ _)
            have HG13 := Lib.hid (show wr.heap.size ≤ g13 from by rw [hg]; exact HXs.out.size)
            clear hY hg hb
            refine wpAnyH_ready (rs := [9]) (by kernel_rfl) (by simp) ?_
            refine AllReadyH.cons rfl (fun K hK => ?_) AllReadyH.nil
            go_simp
            refine (sstep_any (u : Int) _ ((HPZ.out _ (chain HLr.out hHeld.2)).v) (HOS.out.below hHeld.2).sv (Nat.le_refl _) HRP.out HOK.out HWS.out).mono ?_
            rintro e Y9 ⟨vm9, vt9, ps9, rfl, hos, hb⟩
            have HO9 := Lib.hid (hos.base hHeld.2.size)
            obtain ⟨A9, c9, rfl⟩ := own_slice (n := P.init.length) (show Y9.ownsRow _ _ 1 vm9 P.init.length _ from by have e := hos.mem; unfold OwnI at e; rwa [show (stp P S (u : Int)).mem.length = P.init.length from (stp_len P S _).1.trans HOK.out.mem] at e)
            obtain ⟨B9, e9, rfl⟩ := own_slice (n := P.ths.length) (show Y9.ownsRow _ _ 4 vt9 P.ths.length _ from by have e := hos.ths; rwa [show (stp P S (u : Int)).ths.length = P.ths.length from (stp_len P S _).2.trans HOK.out.ths] at e)
            have HST := Lib.hid hb
            replace HQ13 := Lib.hid (HQ13.out.below hb HQ13.out.lt)
            have HLz := Lib.hid (chain hHeld.2 hb)
            refine hK.out _ _ ⟨⟨kc hb hHeld.1.1, kc hb hHeld.1.2.1, kc hb hHeld.1.2.2.1, kc hb hHeld.1.2.2.2.1, trivial⟩, chain hHeld.2 hb⟩ (fun hHeld => ?_)
            clear hK K
            (try simp only [Act.put, List.getElem_toArray, List.getElem_cons_zero, List.getElem_cons_succ, Array.getInternal_eq_getElem, List.setIfInBounds_toArray, List.set_cons_zero, List.set_cons_succ])
            clear hb hos
            refine wpAnyH_take (i := 10) (v := ?_) rfl (by kernel_rfl) (by kernel_rfl) (by kernel_rfl) (fun _ _ _ h => h) (Or.inl ⟨by rfl, ?_⟩) (by assumption) ?_
            rotate_left
            · intro w hSw; (try dsimp only at hSw); go_simp; (try with_reducible rfl)
            (try simp only [Act.put, List.getElem_toArray, List.getElem_cons_zero, List.getElem_cons_succ, Array.getInternal_eq_getElem, List.setIfInBounds_toArray, List.set_cons_zero, List.set_cons_succ])
            refine wpAnyH_take (i := 11) (v := ?_) rfl (by kernel_rfl) (by kernel_rfl) (by kernel_rfl) (fun _ _ _ h => h) (Or.inl ⟨by rfl, ?_⟩) (by assumption) ?_
            rotate_left
            · intro w hSw; (try dsimp only at hSw); go_simp; (try with_reducible rfl)
            (try simp only [Act.put, List.getElem_toArray, List.getElem_cons_zero, List.getElem_cons_succ, Array.getInternal_eq_getElem, List.setIfInBounds_toArray, List.set_cons_zero, List.set_cons_succ])
            refine wpAnyH_take (i := 12) (v := ?_) rfl (by kernel_rfl) (by kernel_rfl) (by kernel_rfl) (fun _ _ _ h => h) (Or.inl ⟨by rfl, ?_⟩) (by assumption) ?_
            rotate_left
            · intro w hSw; (try dsimp only at hSw); go_simp; (try with_reducible rfl)
            (try simp only [Act.put, List.getElem_toArray, List.getElem_cons_zero, List.getElem_cons_succ, Array.getInternal_eq_getElem, List.setIfInBounds_toArray, List.set_cons_zero, List.set_cons_succ])
            refine wpAnyH_ready (rs := [14]) (by kernel_rfl) (by simp) ?_
            refine AllReadyH.cons rfl (fun K hK => ?_) AllReadyH.nil
            have q0 := HQ13.out.cell 0 _ rfl
            have q1 := HQ13.out.cell 1 _ rfl
            have w0 := HQ13.out.frozen 0
            have w1 := HQ13.out.frozen 1
            have HBS := Lib.hid (show Below wr.heap.size wr ((Y9.setCell ⟨g13, 0, none⟩ (.slice A9 P.init.length c9)).setCell ⟨g13, 1, none⟩ (.slice B9 P.ths.length e9)) from (HLz.out.setCell (p := ⟨g13, 0, none⟩) HG13.out _).setCell (p := ⟨g13, 1, none⟩) HG13.out _)
            go_simp
            refine hK.out _ _ ⟨⟨kc HBS.out x0, kc HBS.out x1, kc HBS.out y0, kc HBS.out y1, trivial⟩, HBS.out⟩ (fun hHeld => ?_)
            clear hK K
            (try simp only [Act.put, List.getElem_toArray, List.getElem_cons_zero, List.getElem_cons_succ, Array.getInternal_eq_getElem, List.setIfInBounds_toArray, List.set_cons_zero, List.set_cons_succ])
            obtain ⟨Z, hZ⟩ : ∃ W, W = ((Y9.setCell ⟨g13, 0, none⟩ (.slice A9 P.init.length c9)).setCell ⟨g13, 1, none⟩ (.slice B9 P.ths.length e9)) := ⟨_, rfl⟩
            have HLZ := Lib.hid (show Below wr.heap.size wr Z from by rw [hZ]; exact HBS.out)
            have HQZ := Lib.hid (show BoxC Z g13 28 #[.slice A9 P.init.length c9, .slice B9 P.ths.length e9] from by rw [hZ]; exact (HQ13.out.set 0 _).set 1 _)
            have HOZ := Lib.hid (show OwnSt wr.heap.size Z (.slice A9 P.init.length c9) (.slice B9 P.ths.length e9) (stp P S (u : Int)) ps9 from by rw [hZ]; exact (HO9.out.box HQ13.out (by decide) (by decide) (by decide) 0 _).box (HQ13.out.set 0 _) (by decide) (by decide) (by decide) 1 _)
            rw [← hZ] at hHeld ⊢
            clear hZ HBS q0 q1 w0 w1 HQ13 HO9
            refine wpAnyH_ready (rs := [15]) (by kernel_rfl) (by simp) ?_
            refine AllReadyH.cons rfl (fun K hK => ?_) AllReadyH.nil
            go_simp
            refine hK.out _ _ hHeld (fun hHeld => ?_)
            clear hK K
            (try simp only [Act.put, List.getElem_toArray, List.getElem_cons_zero, List.getElem_cons_succ, Array.getInternal_eq_getElem, List.setIfInBounds_toArray, List.set_cons_zero, List.set_cons_succ])
            refine wpAnyH_done (by kernel_rfl) ?_ _
            clear hHeld x0 x1 y0 y1 hrem hmodz hmz2 hwr
            have HQ6Z := Lib.hid (HQ6.out.below HLZ.out HQ6.out.lt)
            cases hat : atS P S (u : Int) with
            | none =>
              have HSE := Lib.hid (stp_no hat)
              clear hat
              go_wp2_with fail
              go_roundw
              case rel => exact ⟨k + 1, by omega, by go_num, Am, cm, Av, cv, S, ps, false, rfl, HQ6Z.out, HOS.out.below HLZ.out, HOK.out, HWS.out, HLF.out, fun e => (by cases e), chain HB.out HLZ.out⟩
              case measure => simp [intOf]; omega
            | some x =>
              have HLT := Lib.hid (stp_left HRP.out HOK.out (t := (u : Int)) (by rw [hat]; rfl))
              clear hat
              have z0 := HQZ.out.cell 0 _ rfl
              have z1 := HQZ.out.cell 1 _ rfl
              have y0 := HQ6Z.out.cell 0 _ rfl
              have y1 := HQ6Z.out.cell 1 _ rfl
              have f0 := HQ6Z.out.frozen 0
              have f1 := HQ6Z.out.frozen 1
              go_wp2_with fail
              clear z0 z1 y0 y1 f0 f1
              go_roundw
              case rel =>
                exact ⟨k + 1, by omega, by go_num, _, _, _, _, stp P S (u : Int), _, true, rfl, (HQ6Z.out.set 0 _).set 1 _, ((HOZ.out.base HBZ.out).box HQ6Z.out (by decide) (by decide) (by decide) 0 _).box (HQ6Z.out.set 0 _) (by decide) (by decide) (by decide) 1 _, stp_ok HRP.out HOK.out _, stp_wide _ HWS.out, by have := HLT.out; have := HLF.out; omega, fun _ => by have := HLT.out; have := HLS.out; omega, ((chain HB.out HLZ.out).setCell (p := ⟨g6, 0, none⟩) HG6.out _).setCell (p := ⟨g6, 1, none⟩) HG6.out _⟩
              case measure => simp [intOf]; omega
end Go.Proofs.Ytoeginglmgjojaa
