/-
  LAYER 13: THE DOCUMENT's End.
  LAYER 13: THE DOCUMENT's Ends.
-/
import Derived.Test.YtbgjamoflbdhoaaK24
import Derived.Deep.RegionHeld3
import Derived.Deep.DeepCutAuto
import Derived.Test.YtbgjamoflbdhoaaRuL
import Derived.Test.YtbgjamoflbdhoaaRuO
import Derived.Test.YtbgjamoflbdhoaaScX
set_option linter.unusedVariables false
set_option linter.unusedSimpArgs false
namespace Go.Proofs.Ytbgjamoflbdhoaa
open Go.RowKit
set_option linter.unusedVariables false
set_option linter.unusedSimpArgs false
open CodM (St Pg rightP)
open BfM (Wr plc)
open ScM

set_option maxHeartbeats 8000000 in
set_option maxRecDepth 100000 in
theorem rend_any {B : Nat} {u : Value} {s : Sta} (w : World) (hu : StaV B w u s) (hBB : B ≤ w.heap.size) (hw : WideS s) :
    Calls Try.prog 23 #[u] w (EnRet s w) := by
  have HKL := Lib.hid (endK_len (s := s) (fun t ht => (hw.regs t ht).1))
  have HRG := Lib.hid (fun t ht => (hw.regs t ht).1)
  have hts := hw.ths
  have hmm := hw.mem
  clear hw
  obtain ⟨um, ut, rfl, hum⟩ := hu
  obtain ⟨⟨A7, c7, rfl, j1, j2, j0, j3⟩, ⟨A1, c1, rfl, k1, k2, -, k3⟩⟩ := hum
  unfold maxLen at k2 j2
  have HK3 := Lib.hid k3
  clear k3
  obtain ⟨i0, hi, hz0, hz1, hz2⟩ := info_parts info_nu
  obtain ⟨W2, hW2⟩ : ∃ W, W = (w.alloc (.cells #[.slice A7 s.mem.length c7, .slice A1 s.ths.length c1] 31)).alloc (.cells #[.slice none 0 0, .slice none 0 0] 35) := ⟨_, rfl⟩
  obtain ⟨gs, hgs⟩ : ∃ g, g = w.heap.size := ⟨_, rfl⟩
  obtain ⟨gr, hgr⟩ : ∃ g, g = w.heap.size + 1 := ⟨_, rfl⟩
  have HY := Lib.hid (show BoxC W2 gs 31 #[.slice A7 s.mem.length c7, .slice A1 s.ths.length c1] from by rw [hW2, hgs]; exact (BoxC.new w _ _).alloc _)
  have HR := Lib.hid (show BoxC W2 gr 35 #[.slice none 0 0, .slice none 0 0] from by rw [hW2, hgr]; have := BoxC.new (w.alloc (.cells #[.slice A7 s.mem.length c7, .slice A1 s.ths.length c1] 31)) 35 #[.slice none 0 0, .slice none 0 0]; rw [World.size_alloc] at this; exact this)
  have HB2 := Lib.hid (show Below w.heap.size w W2 from by rw [hW2]; exact below_al (below_al (Below.refl _ _) _) _)
  have HG := Lib.hid (show w.heap.size ≤ gr from by omega)
  have HSR := Lib.hid (fun W (hW : Below W2.heap.size W2 W) => src_rw (W := W) nuC_len j0 j3 ((chain HB2.out hW).mono hBB))
  go_enter Try.func23, Try.ntmps23
  go_upto_region 1 with fail
  rw [← hW2]
  (try rw [← hgr])
  (try rw [← hgs])
  clear hW2 hgr hgs
  have HE := Lib.hid (below_al (Below.refl W2.heap.size W2) (.cells #[] 3))
  have HO0 := Lib.hid (show (W2.alloc (.cells #[] 3)).ownsRow W2.heap.size 3 1 (.slice (some ⟨W2.heap.size, 0, none⟩) 0 0) 0 [] from World.ownsRow_lit (base := W2.heap.size) (e := 3) (size := 1) W2 #[] 0 (Nat.le_refl _) (by decide) rfl)
  have y0 := (HY.out.below HE.out HY.out.lt).cell 0 _ rfl
  obtain ⟨m, hm⟩ : ∃ m, m = s.mem.length := ⟨_, rfl⟩
  have HM := Lib.hid hm
  have HJ0 := Lib.hid j0
  rw [← hm] at y0 j1 hmm
  rw [← hm]
  clear hm j0 j3
  go_upto_region 2 with (at_builtin; refine wpList_append_rw _ rfl _ _ 22 rfl W2.heap.size 3 i0 (.int .i64 0) 1 8 Try.underlying22 hi hz0 hz1 hz2 rfl (by decide) _ 0 [] rfl HO0.out A7 m c7 (s.mem.flatMap nuC) rfl (by rw [HM.out]; exact fl_len nuC_len s.mem) (fun h => by rw [HM.out]; exact HJ0.out h) (HSR.out _ HE.out) (one_nu s.mem) (by unfold maxLen; omega) (by omega) HE.out.size ?_; intro v1 V1 hown1 hg1; rw [Nat.zero_add, List.nil_append] at hown1; obtain ⟨Am, cm, rfl⟩ := own_slice hown1; have HOM := Lib.hid hown1; have HBZ := Lib.hid (below_append HE.out HO0.out (Nat.le_refl _) HE.out.size hg1); clear hown1 hg1)
  have HB3 := Lib.hid (chain HB2.out HBZ.out)
  have HY3 := Lib.hid (HY.out.below HBZ.out HY.out.lt)
  have HR3 := Lib.hid (HR.out.below HBZ.out HR.out.lt)
  clear y0 HE HO0 HSR HJ0
  obtain ⟨X2, hX2⟩ : ∃ W, W = V1.alloc (.cells #[.slice Am m cm, .slice none 0 0] 35) := ⟨_, rfl⟩
  obtain ⟨g3, hg3⟩ : ∃ g, g = V1.heap.size := ⟨_, rfl⟩
  have H3 := Lib.hid (show BoxC X2 g3 35 #[.slice Am m cm, .slice none 0 0] from by rw [hX2, hg3]; exact BoxC.new V1 _ _)
  have HX2 := Lib.hid (show Below V1.heap.size V1 X2 from by rw [hX2]; exact below_al (Below.refl _ _) _)
  have HG3 := Lib.hid (show V1.heap.size ≤ g3 ∧ gr ≠ g3 from by have := HR3.out.lt; omega)
  rw [← hX2]
  (try rw [← hg3])
  clear hX2 hg3
  have y1 := (HY3.out.below HX2.out HY3.out.lt).cell 1 _ rfl
  go_wp2
  clear y1
  go_loopw [4] (fun i wr => ∃ (k : Nat) (Ak : Option Addr) (n d : Nat), k ≤ s.ths.length ∧ i = .int .i64 k ∧ n = (endK s k).length ∧ BoxC wr g3 35 #[.slice Am m cm, .slice Ak n d] ∧ wr.ownsRow V1.heap.size 3 1 (.slice Ak n d) n ((endK s k).flatMap nuC) ∧ Below V1.heap.size V1 wr) (fun i _ => s.ths.length - (intOf i).toNat)
  case atStart => exact ⟨0, none, 0, 0, Nat.zero_le _, rfl, rfl, H3.out, World.ownsRow_nil _ _ _ _, HX2.out⟩
  case round =>
    clear H3 HX2
    obtain ⟨k, Ak, n, d, hk, rfl, hn, hbx, hown, hB⟩ := hrel
    have HN := Lib.hid hn
    have H3 := Lib.hid hbx
    have HO := Lib.hid hown
    have HV := Lib.hid hB
    clear hn hbx hown hB
    have y1 := (HY3.out.below HV.out HY3.out.lt).cell 1 _ rfl
    by_cases hlt : k < s.ths.length
    · obtain ⟨b2, f2, rfl, hb2, hcm⟩ := HK3.out (by omega)
      have HBW := Lib.hid (chain HB3.out HV.out)
      obtain ⟨vr, vb, -, r1, -, -, hR, -⟩ := (hcm k hlt).below (HB3.out.mono hBB) hb2
      obtain ⟨A4, c4, rfl, q1, q2, q0, q3⟩ := hR
      have hrl := HRG.out _ (List.getElem_mem hlt)
      have hkl := HKL.out k hk
      have HNX := Lib.hid (endK_next hlt)
      generalize s.ths[k].regs = xr at *
      have HSRC := Lib.hid (fun W (hW : Below V1.heap.size V1 W) => src_rw (W := W) nuC_len q0 q3 (hW.mono (Nat.le_trans hBB HB3.out.size)))
      have HQ0 := Lib.hid q0
      obtain ⟨rn, hrn⟩ : ∃ r, r = xr.length := ⟨_, rfl⟩
      have HRN := Lib.hid hrn
      rw [← hrn] at r1 q1 hrl
      have hn36 : n ≤ 2700 := by rw [HN.out]; have : k * 300 ≤ 9 * 300 := Nat.mul_le_mul_right _ (by omega); omega
      unfold maxLen at q2
      have HLF := Lib.hid (fun W (hW : Below V1.heap.size V1 W) => show W.cell? ⟨gs, 1, none⟩ = some (.slice (some ⟨b2, f2, none⟩) s.ths.length c1) ∧ W.cell? ⟨b2, f2 + k * 4 + 1, none⟩ = some (.slice A4 rn c4) from ⟨(HY3.out.below hW HY3.out.lt).cell 1 _ rfl, kc hW r1⟩)
      have HZ := Lib.hid HV.out.size
      clear hcm q0 q3 hrn hkl r1 y1
      obtain ⟨y1, r1⟩ := HLF.out _ HV.out
      go_upto_region 5 with fail
      have HDR := Lib.hid (below_drewN (Below.refl wr.heap.size wr) 1)
      have H3s := Lib.hid (H3.out.below HDR.out H3.out.lt)
      have HOs := Lib.hid (own_below HO.out HDR.out)
      have HVs := Lib.hid (chain HV.out HDR.out)
      refine wp_region_held_drew (S := (fun w' => (w'.cell? ⟨gs, 1, none⟩ = some (.slice (some ⟨b2, f2, none⟩) s.ths.length c1) ∧ w'.cell? ⟨b2, f2 + k * 4 + 1, none⟩ = some (.slice A4 rn c4) ∧ True) ∧ Below V1.heap.size V1 w')) (by kernel_rfl) ⟨⟨(HLF.out _ HVs.out).1, (HLF.out _ HVs.out).2, trivial⟩, HVs.out⟩ (fun hHeld => ?_)
      obtain ⟨Xs, hXs⟩ : ∃ W, W = wr.drew := ⟨_, rfl⟩
      rw [show wr.drewN 1 = Xs from by rw [hXs]; rfl] at HDR H3s HOs HVs
      rw [← hXs] at hHeld ⊢
      clear hXs
      refine wpAnyH_take (i := 0) (v := ?_) rfl (by kernel_rfl) (by kernel_rfl) (by kernel_rfl) (fun _ _ _ h => h) (Or.inl ⟨by rfl, ?_⟩) (by assumption) ?_
      rotate_left
      · intro w hSw; (try dsimp only at hSw); go_simp; (try with_reducible rfl)
      (try simp only [Act.put, pt8])
      refine wpAnyH_take (i := 2) (v := ?_) rfl (by kernel_rfl) (by kernel_rfl) (by kernel_rfl) (fun _ _ _ h => h) (Or.inl ⟨by rfl, ?_⟩) (by assumption) ?_
      rotate_left
      · intro w hSw; (try dsimp only at hSw); go_simp; (try with_reducible rfl)
      (try simp only [Act.put, pt8])
      refine wpAnyH_take (i := 3) (v := ?_) rfl (by kernel_rfl) (by kernel_rfl) (by kernel_rfl) (fun _ _ _ h => h) (Or.inl ⟨by rfl, ?_⟩) (by assumption) ?_
      rotate_left
      · intro w hSw; (try dsimp only at hSw); go_simp; (try with_reducible rfl)
      (try simp only [Act.put, pt8])
      refine wpAnyH_take (i := 4) (v := ?_) rfl (by kernel_rfl) (by kernel_rfl) (by kernel_rfl) (fun _ _ _ h => h) (Or.inl ⟨by rfl, ?_⟩) (by assumption) ?_
      rotate_left
      · intro w hSw; (try dsimp only at hSw); go_simp; (try with_reducible rfl)
      (try simp only [Act.put, pt8])
      refine wpAnyH_take (i := 5) (v := ?_) rfl (by kernel_rfl) (by kernel_rfl) (by kernel_rfl) (fun _ _ _ h => h) (Or.inl ⟨by rfl, ?_⟩) (by assumption) ?_
      rotate_left
      · intro w hSw; (try dsimp only at hSw); go_simp; (try with_reducible rfl)
      (try simp only [Act.put, pt8])
      refine wpAnyH_take (i := 6) (v := ?_) rfl (by kernel_rfl) (by kernel_rfl) (by kernel_rfl) (fun _ _ _ h => h) (Or.inl ⟨by rfl, ?_⟩) (by assumption) ?_
      rotate_left
      · intro w hSw; (try dsimp only at hSw); go_simp; (try with_reducible rfl)
      (try simp only [Act.put, pt8])
      refine wpAnyH_take (i := 7) (v := ?_) rfl (by kernel_rfl) (by kernel_rfl) (by kernel_rfl) (fun _ _ _ h => h) (Or.inl ⟨by rfl, ?_⟩) (by assumption) ?_
      rotate_left
      · intro w hSw; (try dsimp only at hSw); go_simp; (try with_reducible rfl)
      (try simp only [Act.put, pt8])
      refine wpAnyH_ready (rs := [1]) (by kernel_rfl) (by simp) ?_
      refine AllReadyH.cons rfl (fun K hK => ?_) AllReadyH.nil
      have e1 := H3s.out.cell 1 _ rfl
      go_simp
      refine hK.out _ _ hHeld (fun hHeld => ?_)
      clear e1
      clear hK K
      (try simp only [Act.put, pt8])
      refine wpAnyH_ready (rs := [8]) (by kernel_rfl) (by simp) ?_
      refine AllReadyH.cons rfl (fun K hK => ?_) AllReadyH.nil
      refine step_append_src (by rfl) _ _ _ (by rfl) V1.heap.size 3 i0 (.int .i64 0) 1 8 Try.underlying22 hi hz0 hz1 hz2 (by rfl) (by decide) _ n ((endK s k).flatMap nuC) (by rfl) HOs.out A4 rn c4 (xr.flatMap nuC) (by rfl) (by rw [HRN.out]; exact fl_len nuC_len xr) (fun h => by rw [HRN.out]; exact HQ0.out h) (HSRC.out _ HVs.out) (one_nu xr) (by unfold maxLen; omega) (by omega) HVs.out.size (fun v2 Xa hown hg => ?_)
      obtain ⟨Az, cz, rfl⟩ := own_slice hown
      have HOZ := Lib.hid hown
      have H3Z := Lib.hid (H3s.out.grown (by decide) HOs.out hg)
      have HBZ2 := Lib.hid (below_append HVs.out HOs.out (Nat.le_refl _) HVs.out.size hg)
      clear hown hg
      refine hK.out _ _ ⟨⟨(HLF.out _ HBZ2.out).1, (HLF.out _ HBZ2.out).2, trivial⟩, HBZ2.out⟩ (fun hHeld => ?_)
      clear hK K
      (try simp only [Act.put, pt8])
      refine wpAnyH_take (i := 9) (v := ?_) rfl (by kernel_rfl) (by kernel_rfl) (by kernel_rfl) (fun _ _ _ h => h) (Or.inl ⟨by rfl, ?_⟩) (by assumption) ?_
      rotate_left
      · intro w hSw; (try dsimp only at hSw); go_simp; (try with_reducible rfl)
      (try simp only [Act.put, pt8])
      refine wpAnyH_ready (rs := [10]) (by kernel_rfl) (by simp) ?_
      refine AllReadyH.cons rfl (fun K hK => ?_) AllReadyH.nil
      have e1 := H3Z.out.cell 1 _ rfl
      have f1 := H3Z.out.frozen 1
      have HBS := Lib.hid (HBZ2.out.setCell (p := ⟨g3, 1, none⟩) HG3.out.1 (.slice Az (n + rn) cz))
      go_simp
      refine hK.out _ _ ⟨⟨(HLF.out _ HBS.out).1, (HLF.out _ HBS.out).2, trivial⟩, HBS.out⟩ (fun hHeld => ?_)
      clear e1 f1
      clear hK K
      (try simp only [Act.put, pt8])
      refine wpAnyH_done (by kernel_rfl) ?_ _
      clear hHeld y1 r1
      go_wp2
      go_roundw
      case rel => exact ⟨k + 1, Az, n + rn, cz, by omega, by go_num, by rw [HNX.out, List.length_append, HN.out, HRN.out], H3Z.out.set 1 _, by rw [HNX.out, List.flatMap_append]; exact own_box HOZ.out H3Z.out (by decide) 1 _, HBS.out⟩
      case measure => simp [intOf]; omega
    · obtain rfl : s.ths.length = k := by omega
      have HOE := Lib.hid (show OwnI V1.heap.size wr (.slice Ak n d) (endR s) from by have := HO.out; rw [endK_all] at this; have h2 := HN.out; rw [endK_all] at h2; unfold OwnI; rw [← h2]; exact this)
      have HNE := Lib.hid (HN.out.trans (by rw [endK_all]))
      have HOM2 := Lib.hid (show OwnI W2.heap.size wr (.slice Am m cm) s.mem from by unfold OwnI; rw [← HM.out]; exact own_below HOM.out HV.out)
      have HRZ := Lib.hid (HR3.out.below HV.out HR3.out.lt)
      have HBE := Lib.hid (chain HB3.out HV.out)
      have HS1 := Lib.hid HB2.out.size
      have HS2 := Lib.hid HB3.out.size
      have e0 := H3.out.cell 0 _ rfl
      have e1 := H3.out.cell 1 _ rfl
      have r0 := HRZ.out.cell 0 _ rfl
      have r1 := HRZ.out.cell 1 _ rfl
      have f0 := HRZ.out.frozen 0
      have f1 := HRZ.out.frozen 1
      obtain ⟨W9, hW9⟩ : ∃ W, W = (wr.setCell ⟨gr, 0, none⟩ (.slice Am m cm)).setCell ⟨gr, 1, none⟩ (.slice Ak n d) := ⟨_, rfl⟩
      have HR9 := Lib.hid (show BoxC W9 gr 35 #[(.slice Am m cm), (.slice Ak n d)] from by rw [hW9]; exact (HRZ.out.set 0 _).set 1 _)
      have HO8 := Lib.hid (show OwnI W2.heap.size W9 (.slice Am m cm) s.mem from by rw [hW9]; exact own_box (own_box HOM2.out HRZ.out (by decide) 0 _) (HRZ.out.set 0 _) (by decide) 1 _)
      have HO9 := Lib.hid (show OwnI V1.heap.size W9 (.slice Ak n d) (endR s) from by rw [hW9]; exact own_box (own_box HOE.out HRZ.out (by decide) 0 _) (HRZ.out.set 0 _) (by decide) 1 _)
      have HB9 := Lib.hid (show Below w.heap.size w W9 from by rw [hW9]; exact (HBE.out.setCell (p := ⟨gr, 0, none⟩) HG.out _).setCell (p := ⟨gr, 1, none⟩) HG.out _)
      have HW9 := Lib.hid hW9
      clear hW9
      go_wp2_with fail
      rw [← HW9.out]
      clear r0 r1 f0 f1
      have r0 := HR9.out.cell 0 _ rfl
      have r1 := HR9.out.cell 1 _ rfl
      have hz : Try.prog.cellsOf 35 = 2 := by kernel_rfl
      refine bodyPost_ret (v := .agg #[(.slice Am m cm), (.slice Ak n d)]) (by simp [results, Try.results23, go_sem, r0, r1, hz]) rfl ?_
      exact ⟨_, _, _, _, _, _, rfl, HM.out, HNE.out, own_base HO8.out HS1.out, own_base HO9.out HS2.out, HB9.out⟩
end Go.Proofs.Ytbgjamoflbdhoaa
namespace Go.Proofs.Ytbgjamoflbdhoaa
open Go.RowKit
set_option linter.unusedVariables false
set_option linter.unusedSimpArgs false
open CodM (St Pg rightP)
open BfM (Wr plc)
open ScM

set_option maxHeartbeats 8000000 in
set_option maxRecDepth 100000 in
theorem rends_any {B : Nat} {v vl : Value} {P : Pg} {l : List (Int × Bool)} (wk : Bool) (w : World) (hv : PgZ B w v P) (hl : KiR B w vl l) (hBB : B ≤ w.heap.size) (hp : rightP P = true) (hn : l.length ≤ 50000) :
    Calls Try.prog 14 #[v, vl, .bool wk] w (EsRet P wk l w) := by
  have HP := Lib.hid (fun W (hW : Below w.heap.size w W) => (show PgZ W.heap.size W v P from (hv.below (hW.mono hBB)).more (Nat.le_trans hBB hW.size)))
  have HL := Lib.hid (fun W (hW : Below w.heap.size w W) => (show KiR W.heap.size W vl l from (hl.below (hW.mono hBB)).more (Nat.le_trans hBB hW.size)))
  have HOK := Lib.hid (show OkSt P (runS P wk (beg P) l).1 ∧ WideS (runS P wk (beg P) l).1 from ⟨runS_ok hp _ (beg_ok P), wide_run hp wk l hn (by decide)⟩)
  have HEB := Lib.hid (show endB P wk l = ((runS P wk (beg P) l).2.2 && overB P (runS P wk (beg P) l).1) from rfl)
  have HEO := Lib.hid (show endO P wk l = if endB P wk l then ((runS P wk (beg P) l).1.mem, endR (runS P wk (beg P) l).1) else ([], []) from rfl)
  have HRP := Lib.hid hp
  have HNN := Lib.hid hn
  clear hp hn
  obtain ⟨pi, pt, rfl, hpm, -⟩ := hv
  obtain ⟨⟨P0, d0, rfl, -⟩, ⟨P1, d1, rfl, -⟩⟩ := hpm
  obtain ⟨Al, cl, rfl, -⟩ := hl
  obtain ⟨W2, hW2⟩ : ∃ W, W = (w.alloc (.cells #[.slice P0 P.init.length d0, .slice P1 P.ths.length d1] 25)).alloc (.cells #[.slice none 0 0, .slice none 0 0] 35) := ⟨_, rfl⟩
  obtain ⟨gp, hgp⟩ : ∃ g, g = w.heap.size := ⟨_, rfl⟩
  obtain ⟨gr, hgr⟩ : ∃ g, g = w.heap.size + 1 := ⟨_, rfl⟩
  have HX := Lib.hid (show BoxC W2 gp 25 #[.slice P0 P.init.length d0, .slice P1 P.ths.length d1] from by rw [hW2, hgp]; exact (BoxC.new w _ _).alloc _)
  have HR := Lib.hid (show BoxC W2 gr 35 #[.slice none 0 0, .slice none 0 0] from by rw [hW2, hgr]; have := BoxC.new (w.alloc (.cells #[.slice P0 P.init.length d0, .slice P1 P.ths.length d1] 25)) 35 #[.slice none 0 0, .slice none 0 0]; rw [World.size_alloc] at this; exact this)
  have HB2 := Lib.hid (show Below w.heap.size w W2 from by rw [hW2]; exact below_al (below_al (Below.refl _ _) _) _)
  have HG := Lib.hid (show w.heap.size ≤ gr from by omega)
  go_enter Try.func14, Try.ntmps14
  go_upto_region 1 with fail
  rw [← hW2]
  (try rw [← hgr])
  (try rw [← hgp])
  clear hW2 hgr hgp
  have x0 := HX.out.cell 0 _ rfl
  have x1 := HX.out.cell 1 _ rfl
  go_wp2_with fail
  refine (rrun13_any wk _ (HP.out _ HB2.out) (HL.out _ HB2.out) (Nat.le_refl _) HRP.out HNN.out).mono ?_
  rintro e V1 ⟨vm, vt, ps, rfl, hos, hb⟩
  generalize runS P wk (beg P) l = r at *
  obtain ⟨s, n, all⟩ := r
  dsimp only at hos HOK HEB HEO ⊢
  obtain ⟨Am, cm, rfl⟩ := own_slice hos.mem
  obtain ⟨Av, cv, rfl⟩ := own_slice hos.ths
  have HB3 := Lib.hid (chain HB2.out hb)
  have HX3 := Lib.hid (HX.out.below hb HX.out.lt)
  have HR3 := Lib.hid (HR.out.below hb HR.out.lt)
  have HO := Lib.hid hos
  clear hb hos x0 x1
  obtain ⟨sm, hsm⟩ : ∃ n, n = s.mem.length := ⟨_, rfl⟩
  obtain ⟨st, hst⟩ : ∃ n, n = s.ths.length := ⟨_, rfl⟩
  rw [← hsm, ← hst] at HO ⊢
  clear hsm hst
  go_upto_region 2 with fail
  obtain ⟨X2, hX2⟩ : ∃ W, W = V1.alloc (.cells #[.slice Am sm cm, .slice Av st cv] 31) := ⟨_, rfl⟩
  obtain ⟨g8, hg8⟩ : ∃ g, g = V1.heap.size := ⟨_, rfl⟩
  have H8 := Lib.hid (show BoxC X2 g8 31 #[.slice Am sm cm, .slice Av st cv] from by rw [hX2, hg8]; exact BoxC.new V1 _ _)
  have HX2 := Lib.hid (show Below V1.heap.size V1 X2 from by rw [hX2]; exact below_al (Below.refl _ _) _)
  rw [← hX2]
  (try rw [← hg8])
  clear hX2 hg8
  replace HB3 := Lib.hid (chain HB3.out HX2.out)
  replace HX3 := Lib.hid (HX3.out.below HX2.out HX3.out.lt)
  replace HR3 := Lib.hid (HR3.out.below HX2.out HR3.out.lt)
  replace HO := Lib.hid (HO.out.below HX2.out)
  have x0 := HX3.out.cell 0 _ rfl
  have x1 := HX3.out.cell 1 _ rfl
  have s0 := H8.out.cell 0 _ rfl
  have s1 := H8.out.cell 1 _ rfl
  cases all
  · have HOV := Lib.hid True.intro
    have HE1 := Lib.hid (show endB P wk l = false from by rw [HEB.out]; rfl)
    have HE2 := Lib.hid (show endO P wk l = ([], []) from by rw [HEO.out, HE1.out]; rfl)
    have r0 := HR3.out.cell 0 _ rfl
    have r1 := HR3.out.cell 1 _ rfl
    have f0 := HR3.out.frozen 0
    have f1 := HR3.out.frozen 1
    obtain ⟨W9, hW9⟩ : ∃ W, W = (X2.setCell ⟨gr, 0, none⟩ (.slice none 0 0)).setCell ⟨gr, 1, none⟩ (.slice none 0 0) := ⟨_, rfl⟩
    have HR9 := Lib.hid (show BoxC W9 gr 35 #[(.slice none 0 0), (.slice none 0 0)] from by rw [hW9]; exact (HR3.out.set 0 _).set 1 _)
    clear x0 x1 s0 s1
    have HB9 := Lib.hid (show Below w.heap.size w W9 from by rw [hW9]; exact (HB3.out.setCell (p := ⟨gr, 0, none⟩) HG.out _).setCell (p := ⟨gr, 1, none⟩) HG.out _)
    have HW9 := Lib.hid hW9
    clear hW9
    go_wp2_with fail
    rw [← HW9.out]
    clear r0 r1 f0 f1
    have r0 := HR9.out.cell 0 _ rfl
    have r1 := HR9.out.cell 1 _ rfl
    have hz : Try.prog.cellsOf 35 = 2 := by kernel_rfl
    refine bodyPost_ret (v := .tuple #[.agg #[(.slice none 0 0), (.slice none 0 0)], .bool false]) (by simp [results, Try.results14, go_sem, r0, r1, hz]) rfl ?_
    exact ⟨none, 0, 0, none, 0, 0, by rw [HE1.out], by rw [HE2.out]; rfl, by rw [HE2.out]; rfl, by rw [HE2.out]; exact own_none_i _ _, by rw [HE2.out]; exact own_none_i _ _, HB9.out⟩
  · go_wp2_with fail
    refine (rover_any _ (HP.out _ HB3.out).v HO.out.sv (Nat.le_refl _) HRP.out HOK.out.1).mono ?_
    rintro e V3 ⟨rfl, hb⟩
    obtain ⟨q, hq⟩ : ∃ q, q = overB P s := ⟨_, rfl⟩
    rw [← hq]
    have HOV := Lib.hid hq.symm
    replace HB3 := Lib.hid (chain HB3.out hb)
    replace HX3 := Lib.hid (HX3.out.below hb HX3.out.lt)
    replace HR3 := Lib.hid (HR3.out.below hb HR3.out.lt)
    replace H8 := Lib.hid (H8.out.below hb H8.out.lt)
    replace HO := Lib.hid (HO.out.below hb)
    clear hq hb x0 x1 s0 s1
    have x0 := HX3.out.cell 0 _ rfl
    have x1 := HX3.out.cell 1 _ rfl
    have s0 := H8.out.cell 0 _ rfl
    have s1 := H8.out.cell 1 _ rfl
    cases q
    · have HE1 := Lib.hid (show endB P wk l = false from by rw [HEB.out]; (try rw [HOV.out]); rfl)
      have HE2 := Lib.hid (show endO P wk l = ([], []) from by rw [HEO.out, HE1.out]; rfl)
      have r0 := HR3.out.cell 0 _ rfl
      have r1 := HR3.out.cell 1 _ rfl
      have f0 := HR3.out.frozen 0
      have f1 := HR3.out.frozen 1
      obtain ⟨W9, hW9⟩ : ∃ W, W = (V3.setCell ⟨gr, 0, none⟩ (.slice none 0 0)).setCell ⟨gr, 1, none⟩ (.slice none 0 0) := ⟨_, rfl⟩
      have HR9 := Lib.hid (show BoxC W9 gr 35 #[(.slice none 0 0), (.slice none 0 0)] from by rw [hW9]; exact (HR3.out.set 0 _).set 1 _)
      clear x0 x1 s0 s1
      have HB9 := Lib.hid (show Below w.heap.size w W9 from by rw [hW9]; exact (HB3.out.setCell (p := ⟨gr, 0, none⟩) HG.out _).setCell (p := ⟨gr, 1, none⟩) HG.out _)
      have HW9 := Lib.hid hW9
      clear hW9
      go_wp2_with fail
      rw [← HW9.out]
      clear r0 r1 f0 f1
      have r0 := HR9.out.cell 0 _ rfl
      have r1 := HR9.out.cell 1 _ rfl
      have hz : Try.prog.cellsOf 35 = 2 := by kernel_rfl
      refine bodyPost_ret (v := .tuple #[.agg #[(.slice none 0 0), (.slice none 0 0)], .bool false]) (by simp [results, Try.results14, go_sem, r0, r1, hz]) rfl ?_
      exact ⟨none, 0, 0, none, 0, 0, by rw [HE1.out], by rw [HE2.out]; rfl, by rw [HE2.out]; rfl, by rw [HE2.out]; exact own_none_i _ _, by rw [HE2.out]; exact own_none_i _ _, HB9.out⟩
    · have HE1 := Lib.hid (show endB P wk l = true from by rw [HEB.out, HOV.out]; rfl)
      have HE2 := Lib.hid (show endO P wk l = (s.mem, endR s) from by rw [HEO.out, HE1.out]; rfl)
      go_wp2_with fail
      refine (rend_any _ HO.out.sv (Nat.le_refl _) HOK.out.2).mono ?_
      rintro e V4 ⟨Ae, m, c, Be, n, d, rfl, hm, hn, ho1, ho2, hb⟩
      have HM := Lib.hid hm
      have HN := Lib.hid hn
      have HO1 := Lib.hid ho1
      have HO2 := Lib.hid ho2
      have HS3 := Lib.hid HB3.out.size
      replace HB3 := Lib.hid (chain HB3.out hb)
      replace HR3 := Lib.hid (HR3.out.below hb HR3.out.lt)
      clear hm hn ho1 ho2 hb x0 x1 s0 s1
      have r0 := HR3.out.cell 0 _ rfl
      have r1 := HR3.out.cell 1 _ rfl
      have f0 := HR3.out.frozen 0
      have f1 := HR3.out.frozen 1
      obtain ⟨W9, hW9⟩ : ∃ W, W = (V4.setCell ⟨gr, 0, none⟩ (.slice Ae m c)).setCell ⟨gr, 1, none⟩ (.slice Be n d) := ⟨_, rfl⟩
      have HR9 := Lib.hid (show BoxC W9 gr 35 #[(.slice Ae m c), (.slice Be n d)] from by rw [hW9]; exact (HR3.out.set 0 _).set 1 _)
      have HO8 := Lib.hid (show OwnI V3.heap.size W9 (.slice Ae m c) s.mem from by rw [hW9]; exact own_box (own_box HO1.out HR3.out (by decide) 0 _) (HR3.out.set 0 _) (by decide) 1 _)
      have HO9 := Lib.hid (show OwnI V3.heap.size W9 (.slice Be n d) (endR s) from by rw [hW9]; exact own_box (own_box HO2.out HR3.out (by decide) 0 _) (HR3.out.set 0 _) (by decide) 1 _)
      have HB9 := Lib.hid (show Below w.heap.size w W9 from by rw [hW9]; exact (HB3.out.setCell (p := ⟨gr, 0, none⟩) HG.out _).setCell (p := ⟨gr, 1, none⟩) HG.out _)
      have HW9 := Lib.hid hW9
      clear hW9
      go_wp2_with fail
      rw [← HW9.out]
      clear r0 r1 f0 f1
      have r0 := HR9.out.cell 0 _ rfl
      have r1 := HR9.out.cell 1 _ rfl
      have hz : Try.prog.cellsOf 35 = 2 := by kernel_rfl
      refine bodyPost_ret (v := .tuple #[.agg #[(.slice Ae m c), (.slice Be n d)], .bool true]) (by simp [results, Try.results14, go_sem, r0, r1, hz]) rfl ?_
      exact ⟨_, _, _, _, _, _, by rw [HE1.out], by rw [HE2.out]; exact HM.out, by rw [HE2.out]; exact HN.out, by rw [HE2.out]; exact own_base HO8.out HS3.out, by rw [HE2.out]; exact own_base HO9.out HS3.out, HB9.out⟩
end Go.Proofs.Ytbgjamoflbdhoaa
