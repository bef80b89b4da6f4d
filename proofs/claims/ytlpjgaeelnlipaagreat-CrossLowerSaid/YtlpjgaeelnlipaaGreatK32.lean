/-
  tso.able: the picks that can be done, one by one, for every loop body.
  THE DOCUMENT's Picks of layer 11.
  THE DOCUMENT's Begin of layer 10.
  LAYER 13: THE DOCUMENT's Step of a run, and its Run.
  LAYER 13: THE DOCUMENT's Strict.
  LAYER 14: what cross.Lower and cross.Raise ask at each way of a run.
  slots.with[fencepost/api.Step]: each thread's steps, with one more ahead of those that are told.
  slots.without[fencepost/api.Line]: each thread's lines, without those that are told.
  slices.Clone over numbers, cells, atoms; slots.jump, landing, linesOf.
  slots.having: a program with other threads.
  WHAT slots.Insert HOLDS while it moves the jumps: rows of steps of the call's own, changed in place. Of no function of the program.
  slots.Insert.
-/
import Derived.RangeFuncNested
import Derived.RangeFuncBound
import Derived.RangeFuncCalls
import Derived.RangeFuncLeaves
import Derived.RangeFuncBox
import Derived.Shelf.Abstract
import Derived.WalkKit
import Derived.OwnWalkIn
import Derived.TacticsInMore
import Derived.LoopNIn
import Derived.LoopIn
import Derived.Maps.OwnIn
import Derived.Test.YtlpjgaeelnlipaaGreatK12
import Derived.Test.YtlpjgaeelnlipaaGreatK22
import Derived.Test.YtlpjgaeelnlipaaGreatK13
import Derived.Test.YtlpjgaeelnlipaaGreatTsE
import Derived.Deep.RegionHeld3
import Derived.Deep.DeepCutAuto
import Derived.Test.YtlpjgaeelnlipaaGreatK02
import Derived.Test.YtlpjgaeelnlipaaGreatScP
import Derived.Test.YtlpjgaeelnlipaaGreatScAt
import Derived.Test.YtlpjgaeelnlipaaGreatScSt
import Derived.Test.YtlpjgaeelnlipaaGreatK28
import Derived.Maps.AppendAt
import Derived.Test.YtlpjgaeelnlipaaGreatK10
import Derived.Test.YtlpjgaeelnlipaaGreatK09
import Derived.Test.YtlpjgaeelnlipaaGreatK01
import Derived.Maps.OwnSet
set_option linter.unusedVariables false
set_option linter.unusedSimpArgs false
namespace Go.Proofs.YtlpjgaeelnlipaaGreat
open Go.RowKit Go.Shelf
attribute [local go_sem] Oper.semAt_some
open CodM (St Pg rightP)
open ScM

end Go.Proofs.YtlpjgaeelnlipaaGreat
namespace Go.Proofs.YtlpjgaeelnlipaaGreat
open Go.RowKit Go.Shelf
open CodM (St Pg rightP)
open BfM (Wr plc)
open ScM

theorem rtstep_any {B : Nat} {v u : Value} {P : Pg} {s : Sta} (t : Int) (d : Bool) (w : World) (hv : PgV B w v P) (hu : StaV B w u s) (hBB : B ≤ w.heap.size) (hp : rightP P = true) (ho : OkSt P s) (hw : WideS s) :
    Calls Tryz.prog 30 #[v, u, .agg #[.int .i64 t, .bool d]] w (TpRet P s t d w) := by
  cases d
  · exact rtstepN_any t w hv hu hBB hp ho hw
  · exact rtstepD_any t w hv hu hBB hw
end Go.Proofs.YtlpjgaeelnlipaaGreat
namespace Go.Proofs.YtlpjgaeelnlipaaGreat
open Go.RowKit
open CodM (St Pg rightP)
open BfM (Wr plc)
open ScM

set_option maxHeartbeats 8000000 in
set_option maxRecDepth 100000 in
theorem rbegin_any {B : Nat} {v : Value} {P : Pg} (w : World) (hv : PgZ B w v P) (hBB : B ≤ w.heap.size) (hp : rightP P = true) :
    Calls Tryz.prog 29 #[v] w (StRet (beg P) w) := by
  obtain ⟨pi, pt, rfl, hpm, hpi⟩ := hv
  obtain ⟨hi4, ht1, ht3, -⟩ := right_ths hp
  obtain ⟨-, P1, d1, rfl, l1, l2, -⟩ := hpm
  obtain ⟨A0, c0, rfl, a1, a2, a0, a3⟩ := hpi
  unfold maxLen at l2 a2
  obtain ⟨i0, hi0, hz0, hz1, hz2⟩ := info_parts info_nu
  obtain ⟨i1', hi1', hy1, hy2, hy3⟩ := info_parts info_th
  have HCO := Lib.hid (show Tryz.prog.cellsOf 39 = 2 from by kernel_rfl)
  obtain ⟨W2, hW2⟩ : ∃ W, W = (w.alloc (.cells #[.slice A0 P.init.length c0, .slice P1 P.ths.length d1] 25)).alloc (.cells #[.slice none 0 0, .slice none 0 0] 39) := ⟨_, rfl⟩
  obtain ⟨gp, hgp⟩ : ∃ g, g = w.heap.size := ⟨_, rfl⟩
  obtain ⟨gr, hgr⟩ : ∃ g, g = w.heap.size + 1 := ⟨_, rfl⟩
  have HX := Lib.hid (show BoxC W2 gp 25 #[.slice A0 P.init.length c0, .slice P1 P.ths.length d1] from by rw [hW2, hgp]; exact (BoxC.new w _ _).alloc _)
  have HR := Lib.hid (show BoxC W2 gr 39 #[.slice none 0 0, .slice none 0 0] from by rw [hW2, hgr]; have := BoxC.new (w.alloc (.cells #[.slice A0 P.init.length c0, .slice P1 P.ths.length d1] 25)) 39 #[.slice none 0 0, .slice none 0 0]; rw [World.size_alloc] at this; exact this)
  have HB2 := Lib.hid (show Below w.heap.size w W2 from by rw [hW2]; exact below_al (below_al (Below.refl _ _) _) _)
  have HGR := Lib.hid (show w.heap.size ≤ gr from by omega)
  have HSRC := Lib.hid (fun W (hW : Below W2.heap.size W2 W) => src_rw (W := W) nuC_len a0 a3 ((chain HB2.out hW).mono hBB))
  have HTH := Lib.hid (show (beg P).ths = List.replicate P.ths.length begTh from by unfold beg; simp [List.map_const'])
  have x0 := HX.out.cell 0 _ rfl
  clear a3
  go_enter Tryz.func29, Tryz.ntmps29
  go_upto_region 1 with fail
  rw [← hW2]
  (try rw [← hgr])
  (try rw [← hgp])
  clear hW2 hgr hgp
  go_cut [3] (fun s3 wx => ∃ (gs : Nat) (vm : Value), s3 = .pointer (some ⟨gs, 0, none⟩) ∧ BoxC wx gs 39 #[vm, .slice none 0 0] ∧ OwnI W2.heap.size wx vm P.init ∧ Below W2.heap.size W2 wx ∧ W2.heap.size ≤ gs)
  case first =>
    have HE := Lib.hid (below_al (Below.refl W2.heap.size W2) (.cells #[] 3))
    have HO := Lib.hid (show (W2.alloc (.cells #[] 3)).ownsRow W2.heap.size 3 1 (.slice (some ⟨W2.heap.size, 0, none⟩) 0 0) 0 [] from World.ownsRow_lit (base := W2.heap.size) (e := 3) (size := 1) W2 #[] 0 (Nat.le_refl _) (by decide) rfl)
    have l0 := lt_of_cell x0
    have x0 := kc HE.out x0
    go_wp2_with (at_builtin; refine wpList_append_rw _ rfl _ _ 22 rfl W2.heap.size 3 i0 (.int .i64 0) 1 8 Tryz.underlying22 hi0 hz0 hz1 hz2 rfl (by decide) _ 0 [] rfl HO.out A0 P.init.length c0 (P.init.flatMap nuC) rfl (fl_len nuC_len P.init) a0 (HSRC.out _ HE.out) (one_nu P.init) (by unfold maxLen; omega) (by omega) (by simp) ?_; intro v1 wz hown1 hg1; rw [Nat.zero_add, List.nil_append] at hown1; obtain ⟨A8, c8, rfl⟩ := own_slice hown1)
    go_meet
    have hb1 := below_append HE.out HO.out (Nat.le_refl _) HE.out.size hg1
    have hb2 := below_al (Below.refl wz.heap.size wz) (.cells #[.slice A8 P.init.length c8, .slice none 0 0] 39)
    exact ⟨wz.heap.size, _, rfl, BoxC.new wz _ _, own_below hown1 hb2, chain hb1 hb2, hb1.size⟩
  case rest =>
    obtain ⟨gs, vm, rfl, hbs, hom, hBc, hgs⟩ := hcut
    have HBS := Lib.hid hbs
    have HOM := Lib.hid hom
    have HBC := Lib.hid hBc
    obtain ⟨Am, cm, rfl⟩ := own_slice hom
    clear hbs hom hBc x0
    have hmk := mk4
    go_wp2
    go_loopw [4] (fun i wr => ∃ (k : Nat) (vt : Value) (ps : List TV), k ≤ P.ths.length ∧ i = .int .i64 k ∧ BoxC wr gs 39 #[.slice Am P.init.length cm, vt] ∧ OwnSt W2.heap.size wr (.slice Am P.init.length cm) vt ⟨P.init, List.replicate k begTh⟩ ps ∧ Below W2.heap.size W2 wr) (fun i _ => P.ths.length - (intOf i).toNat)
    case atStart => exact ⟨0, _, [], Nat.zero_le _, rfl, HBS.out, OwnSt.nothing _ HOM.out, HBC.out⟩
    case round =>
      obtain ⟨k, vt, ps, hk, rfl, hbx, hos, hB⟩ := hrel
      have HBX := Lib.hid hbx
      have HOS := Lib.hid hos
      have HB := Lib.hid hB
      have HOT := Lib.hid (show wr.ownsRow W2.heap.size 44 4 vt k (ps.flatMap thC) from by have := hos.ths; rwa [show (⟨P.init, List.replicate k begTh⟩ : Sta).ths.length = k from List.length_replicate] at this)
      obtain ⟨Av, cv, rfl⟩ := own_slice HOT.out
      have HSZ := Lib.hid (show W2.heap.size ≤ wr.heap.size from hB.size)
      have x1 := (HX.out.below hB HX.out.lt).cell 1 _ rfl
      clear hbx hos hB
      by_cases hlt : k < P.ths.length
      · go_wp2
        have y1 := HBX.out.cell 1 _ rfl
        refine wp_region_held_drew (S := (fun w' => True)) (by kernel_rfl) trivial (fun hHeld => ?_)
        obtain ⟨Xa, hXa⟩ : ∃ W, W = wr.drew := ⟨_, rfl⟩
        have HLXa := Lib.hid (show Below wr.heap.size wr Xa from by rw [hXa]; exact below_drewN (Below.refl _ _) 1)
        rw [← hXa]
        clear hXa
        refine wtk 0 ?_ ?_ ?_
        rotate_left
        · intro w hSw; (try dsimp only at hSw); go_simp; (try with_reducible rfl)
        (try simp only [Act.put, pt8])
        refine wpAnyH_ready (rs := [1, 2]) (by kernel_rfl) (by simp) ?_
        refine AllReadyH.cons rfl (fun K hK => ?_) (AllReadyH.cons rfl (fun K hK => ?_) (AllReadyH.nil))
        · -- 1 first
          have y2 := kc HLXa.out y1
          go_simp
          refine hK.out _ _ trivial (fun hHeld => ?_)
          clear hK K
          (try simp only [Act.put, pt8])
          clear y2
          refine wpAnyH_ready (rs := [2]) (by kernel_rfl) (by simp) ?_
          refine AllReadyH.cons rfl (fun K hK => ?_) AllReadyH.nil
          go_simp
          refine hK.out _ _ trivial (fun hHeld => ?_)
          clear hK K
          (try simp only [Act.put, pt8])
          obtain ⟨gn, hgn⟩ : ∃ g, g = Xa.heap.size := ⟨_, rfl⟩
          obtain ⟨X0, hX0⟩ : ∃ W, W = Xa.alloc (.cells #[.int .i64 0, .int .i64 0, .int .i64 0, .int .i64 0] 3) := ⟨_, rfl⟩
          have HLX0 := Lib.hid (show Below wr.heap.size wr X0 from by rw [hX0]; exact below_al HLXa.out _)
          have HON := Lib.hid (show OwnI wr.heap.size X0 (.slice (some ⟨gn, 0, none⟩) 4 4) [0, 0, 0, 0] from by rw [hX0, hgn]; exact World.ownsRow_lit (base := wr.heap.size) (e := 3) (size := 1) Xa #[.int .i64 0, .int .i64 0, .int .i64 0, .int .i64 0] 4 HLXa.out.size (by decide) rfl)
          rw [← hX0]
          rw [← hgn]
          clear hX0 hgn
          refine wtk 3 ?_ ?_ ?_
          rotate_left
          · intro w hSw; (try dsimp only at hSw); go_simp; (try with_reducible rfl)
          (try simp only [Act.put, pt8])
          refine wpAnyH_ready (rs := [4]) (by kernel_rfl) (by simp) ?_
          refine AllReadyH.cons rfl (fun K hK => ?_) AllReadyH.nil
          go_simp
          refine hK.out _ _ trivial (fun hHeld => ?_)
          clear hK K
          (try simp only [Act.put, pt8])
          obtain ⟨gb, hgb⟩ : ∃ g, g = X0.heap.size := ⟨_, rfl⟩
          obtain ⟨X1, hX1⟩ : ∃ W, W = X0.alloc (.cells #[.int .i64 0, .slice (some ⟨gn, 0, none⟩) 4 4, .bool false, .slice none 0 0] 44) := ⟨_, rfl⟩
          have HLX1 := Lib.hid (show Below wr.heap.size wr X1 from by rw [hX1]; exact below_al HLX0.out _)
          have HF := Lib.hid (fun (j : Nat) (u : Value) (h : (thC ⟨begTh, .slice (some ⟨gn, 0, none⟩) 4 4, .slice none 0 0⟩)[j]? = some u) => (show X1.cell? ⟨gb, j, none⟩ = some u from by
            have e := World.news_of_block (heap_alloc_new X0 (.cells #[.int .i64 0, .slice (some ⟨gn, 0, none⟩) 4 4, .bool false, .slice none 0 0] 44)) j u h
            rw [Addr.add_lit, Nat.zero_add] at e
            rw [hX1, hgb]; exact e))
          replace HON := Lib.hid (own_below HON.out (show Below X0.heap.size X0 X1 from by rw [hX1]; exact below_al (Below.refl _ _) _))
          rw [← hX1]
          rw [← hgb]
          clear hX1 hgb
          refine wpAnyH_ready (rs := [5]) (by kernel_rfl) (by simp) ?_
          refine AllReadyH.cons rfl (fun K hK => ?_) AllReadyH.nil
          refine step_append_src (by rfl) _ _ _ (by rfl) W2.heap.size 44 i1' (.agg #[.int .i64 0, .slice none 0 0, .bool false, .slice none 0 0]) 4 64 Tryz.underlying37 hi1' hy1 hy2 hy3 (by rfl) (by decide) _ k (ps.flatMap thC) (by rfl) (own_below HOT.out HLX1.out) (some ⟨gb, 0, none⟩) 1 1 (thC ⟨begTh, .slice (some ⟨gn, 0, none⟩) 4 4, .slice none 0 0⟩) (by rfl) (by rfl) (fun c => (by cases c)) (fun ad e j u h => by injection e with e; rw [← e, Addr.add_lit, Nat.zero_add]; exact HF.out j u h) (one_th _ rfl rfl) (by unfold maxLen; omega) (by omega) (Nat.le_trans HSZ.out HLX1.out.size) (fun v2 w5 hown5 hg5 => ?_)
          have HO5 := Lib.hid ((HOS.out.below HLX1.out).snoc ⟨begTh, .slice (some ⟨gn, 0, none⟩) 4 4, .slice none 0 0⟩ (own_base HON.out HSZ.out) (World.ownsRow_nil _ _ _ _) (HOS.out.new_r HON.out (Nat.le_refl _)).1 (HOS.out.new_r HON.out (Nat.le_refl _)).2 (by simpa using hown5) hg5)
          have HB5 := Lib.hid (below_append (HB.out.trans (HLX1.out.mono HB.out.size)) (own_below HOT.out HLX1.out) (Nat.le_refl _) (Nat.le_trans HB.out.size HLX1.out.size) hg5)
          have HBX5 := Lib.hid ((HBX.out.below HLX1.out HBX.out.lt).grown (by decide) (own_below HOT.out HLX1.out) hg5)
          have HBR5 := Lib.hid (HR.out.below HB5.out HR.out.lt)
          obtain ⟨A5, c5, rfl⟩ := own_slice hown5
          have y5 := HBX5.out.cell 1 _ rfl
          have f5 := HBX5.out.frozen 1
          clear hown5 hg5 HF HON
          refine hK.out _ _ trivial (fun hHeld => ?_)
          clear hK K
          (try simp only [Act.put, pt8])
          refine wtk 6 ?_ ?_ ?_
          rotate_left
          · intro w hSw; (try dsimp only at hSw); go_simp; (try with_reducible rfl)
          (try simp only [Act.put, pt8])
          refine wpAnyH_ready (rs := [7]) (by kernel_rfl) (by simp) ?_
          refine AllReadyH.cons rfl (fun K hK => ?_) AllReadyH.nil
          go_simp
          refine hK.out _ _ trivial (fun hHeld => ?_)
          clear hK K
          (try simp only [Act.put, pt8])
          refine wpAnyH_done (by kernel_rfl) ?_ _
          clear hHeld
          go_wp2_with fail
          clear y5 f5
          go_roundw
          case rel => exact ⟨k + 1, _, _, by omega, by go_num, HBX5.out.set 1 _, by rw [List.replicate_succ']; exact HO5.out.box HBX5.out (by decide) (by decide) (by decide) 1 _, HB5.out.setCell (p := ⟨gs, 1, none⟩) hgs _⟩
          case measure => simp [intOf]; omega
        · -- 2 first
          go_simp
          refine hK.out _ _ trivial (fun hHeld => ?_)
          clear hK K
          (try simp only [Act.put, pt8])
          obtain ⟨gn, hgn⟩ : ∃ g, g = Xa.heap.size := ⟨_, rfl⟩
          obtain ⟨X0, hX0⟩ : ∃ W, W = Xa.alloc (.cells #[.int .i64 0, .int .i64 0, .int .i64 0, .int .i64 0] 3) := ⟨_, rfl⟩
          have HLX0 := Lib.hid (show Below wr.heap.size wr X0 from by rw [hX0]; exact below_al HLXa.out _)
          have HON := Lib.hid (show OwnI wr.heap.size X0 (.slice (some ⟨gn, 0, none⟩) 4 4) [0, 0, 0, 0] from by rw [hX0, hgn]; exact World.ownsRow_lit (base := wr.heap.size) (e := 3) (size := 1) Xa #[.int .i64 0, .int .i64 0, .int .i64 0, .int .i64 0] 4 HLXa.out.size (by decide) rfl)
          rw [← hX0]
          rw [← hgn]
          clear hX0 hgn
          refine wtk 3 ?_ ?_ ?_
          rotate_left
          · intro w hSw; (try dsimp only at hSw); go_simp; (try with_reducible rfl)
          (try simp only [Act.put, pt8])
          refine wpAnyH_ready (rs := [1, 4]) (by kernel_rfl) (by simp) ?_
          refine AllReadyH.cons rfl (fun K hK => ?_) (AllReadyH.cons rfl (fun K hK => ?_) (AllReadyH.nil))
          · -- 1 first
            have y2 := kc HLX0.out y1
            go_simp
            refine hK.out _ _ trivial (fun hHeld => ?_)
            clear hK K
            (try simp only [Act.put, pt8])
            clear y2
            refine wpAnyH_ready (rs := [4]) (by kernel_rfl) (by simp) ?_
            refine AllReadyH.cons rfl (fun K hK => ?_) AllReadyH.nil
            go_simp
            refine hK.out _ _ trivial (fun hHeld => ?_)
            clear hK K
            (try simp only [Act.put, pt8])
            obtain ⟨gb, hgb⟩ : ∃ g, g = X0.heap.size := ⟨_, rfl⟩
            obtain ⟨X1, hX1⟩ : ∃ W, W = X0.alloc (.cells #[.int .i64 0, .slice (some ⟨gn, 0, none⟩) 4 4, .bool false, .slice none 0 0] 44) := ⟨_, rfl⟩
            have HLX1 := Lib.hid (show Below wr.heap.size wr X1 from by rw [hX1]; exact below_al HLX0.out _)
            have HF := Lib.hid (fun (j : Nat) (u : Value) (h : (thC ⟨begTh, .slice (some ⟨gn, 0, none⟩) 4 4, .slice none 0 0⟩)[j]? = some u) => (show X1.cell? ⟨gb, j, none⟩ = some u from by
              have e := World.news_of_block (heap_alloc_new X0 (.cells #[.int .i64 0, .slice (some ⟨gn, 0, none⟩) 4 4, .bool false, .slice none 0 0] 44)) j u h
              rw [Addr.add_lit, Nat.zero_add] at e
              rw [hX1, hgb]; exact e))
            replace HON := Lib.hid (own_below HON.out (show Below X0.heap.size X0 X1 from by rw [hX1]; exact below_al (Below.refl _ _) _))
            rw [← hX1]
            rw [← hgb]
            clear hX1 hgb
            refine wpAnyH_ready (rs := [5]) (by kernel_rfl) (by simp) ?_
            refine AllReadyH.cons rfl (fun K hK => ?_) AllReadyH.nil
            refine step_append_src (by rfl) _ _ _ (by rfl) W2.heap.size 44 i1' (.agg #[.int .i64 0, .slice none 0 0, .bool false, .slice none 0 0]) 4 64 Tryz.underlying37 hi1' hy1 hy2 hy3 (by rfl) (by decide) _ k (ps.flatMap thC) (by rfl) (own_below HOT.out HLX1.out) (some ⟨gb, 0, none⟩) 1 1 (thC ⟨begTh, .slice (some ⟨gn, 0, none⟩) 4 4, .slice none 0 0⟩) (by rfl) (by rfl) (fun c => (by cases c)) (fun ad e j u h => by injection e with e; rw [← e, Addr.add_lit, Nat.zero_add]; exact HF.out j u h) (one_th _ rfl rfl) (by unfold maxLen; omega) (by omega) (Nat.le_trans HSZ.out HLX1.out.size) (fun v2 w5 hown5 hg5 => ?_)
            have HO5 := Lib.hid ((HOS.out.below HLX1.out).snoc ⟨begTh, .slice (some ⟨gn, 0, none⟩) 4 4, .slice none 0 0⟩ (own_base HON.out HSZ.out) (World.ownsRow_nil _ _ _ _) (HOS.out.new_r HON.out (Nat.le_refl _)).1 (HOS.out.new_r HON.out (Nat.le_refl _)).2 (by simpa using hown5) hg5)
            have HB5 := Lib.hid (below_append (HB.out.trans (HLX1.out.mono HB.out.size)) (own_below HOT.out HLX1.out) (Nat.le_refl _) (Nat.le_trans HB.out.size HLX1.out.size) hg5)
            have HBX5 := Lib.hid ((HBX.out.below HLX1.out HBX.out.lt).grown (by decide) (own_below HOT.out HLX1.out) hg5)
            have HBR5 := Lib.hid (HR.out.below HB5.out HR.out.lt)
            obtain ⟨A5, c5, rfl⟩ := own_slice hown5
            have y5 := HBX5.out.cell 1 _ rfl
            have f5 := HBX5.out.frozen 1
            clear hown5 hg5 HF HON
            refine hK.out _ _ trivial (fun hHeld => ?_)
            clear hK K
            (try simp only [Act.put, pt8])
            refine wtk 6 ?_ ?_ ?_
            rotate_left
            · intro w hSw; (try dsimp only at hSw); go_simp; (try with_reducible rfl)
            (try simp only [Act.put, pt8])
            refine wpAnyH_ready (rs := [7]) (by kernel_rfl) (by simp) ?_
            refine AllReadyH.cons rfl (fun K hK => ?_) AllReadyH.nil
            go_simp
            refine hK.out _ _ trivial (fun hHeld => ?_)
            clear hK K
            (try simp only [Act.put, pt8])
            refine wpAnyH_done (by kernel_rfl) ?_ _
            clear hHeld
            go_wp2_with fail
            clear y5 f5
            go_roundw
            case rel => exact ⟨k + 1, _, _, by omega, by go_num, HBX5.out.set 1 _, by rw [List.replicate_succ']; exact HO5.out.box HBX5.out (by decide) (by decide) (by decide) 1 _, HB5.out.setCell (p := ⟨gs, 1, none⟩) hgs _⟩
            case measure => simp [intOf]; omega
          · -- 4 first
            go_simp
            refine hK.out _ _ trivial (fun hHeld => ?_)
            clear hK K
            (try simp only [Act.put, pt8])
            obtain ⟨gb, hgb⟩ : ∃ g, g = X0.heap.size := ⟨_, rfl⟩
            obtain ⟨X1, hX1⟩ : ∃ W, W = X0.alloc (.cells #[.int .i64 0, .slice (some ⟨gn, 0, none⟩) 4 4, .bool false, .slice none 0 0] 44) := ⟨_, rfl⟩
            have HLX1 := Lib.hid (show Below wr.heap.size wr X1 from by rw [hX1]; exact below_al HLX0.out _)
            have HF := Lib.hid (fun (j : Nat) (u : Value) (h : (thC ⟨begTh, .slice (some ⟨gn, 0, none⟩) 4 4, .slice none 0 0⟩)[j]? = some u) => (show X1.cell? ⟨gb, j, none⟩ = some u from by
              have e := World.news_of_block (heap_alloc_new X0 (.cells #[.int .i64 0, .slice (some ⟨gn, 0, none⟩) 4 4, .bool false, .slice none 0 0] 44)) j u h
              rw [Addr.add_lit, Nat.zero_add] at e
              rw [hX1, hgb]; exact e))
            replace HON := Lib.hid (own_below HON.out (show Below X0.heap.size X0 X1 from by rw [hX1]; exact below_al (Below.refl _ _) _))
            rw [← hX1]
            rw [← hgb]
            clear hX1 hgb
            refine wpAnyH_ready (rs := [1]) (by kernel_rfl) (by simp) ?_
            refine AllReadyH.cons rfl (fun K hK => ?_) AllReadyH.nil
            have y2 := kc HLX1.out y1
            go_simp
            refine hK.out _ _ trivial (fun hHeld => ?_)
            clear hK K
            (try simp only [Act.put, pt8])
            clear y2
            refine wpAnyH_ready (rs := [5]) (by kernel_rfl) (by simp) ?_
            refine AllReadyH.cons rfl (fun K hK => ?_) AllReadyH.nil
            refine step_append_src (by rfl) _ _ _ (by rfl) W2.heap.size 44 i1' (.agg #[.int .i64 0, .slice none 0 0, .bool false, .slice none 0 0]) 4 64 Tryz.underlying37 hi1' hy1 hy2 hy3 (by rfl) (by decide) _ k (ps.flatMap thC) (by rfl) (own_below HOT.out HLX1.out) (some ⟨gb, 0, none⟩) 1 1 (thC ⟨begTh, .slice (some ⟨gn, 0, none⟩) 4 4, .slice none 0 0⟩) (by rfl) (by rfl) (fun c => (by cases c)) (fun ad e j u h => by injection e with e; rw [← e, Addr.add_lit, Nat.zero_add]; exact HF.out j u h) (one_th _ rfl rfl) (by unfold maxLen; omega) (by omega) (Nat.le_trans HSZ.out HLX1.out.size) (fun v2 w5 hown5 hg5 => ?_)
            have HO5 := Lib.hid ((HOS.out.below HLX1.out).snoc ⟨begTh, .slice (some ⟨gn, 0, none⟩) 4 4, .slice none 0 0⟩ (own_base HON.out HSZ.out) (World.ownsRow_nil _ _ _ _) (HOS.out.new_r HON.out (Nat.le_refl _)).1 (HOS.out.new_r HON.out (Nat.le_refl _)).2 (by simpa using hown5) hg5)
            have HB5 := Lib.hid (below_append (HB.out.trans (HLX1.out.mono HB.out.size)) (own_below HOT.out HLX1.out) (Nat.le_refl _) (Nat.le_trans HB.out.size HLX1.out.size) hg5)
            have HBX5 := Lib.hid ((HBX.out.below HLX1.out HBX.out.lt).grown (by decide) (own_below HOT.out HLX1.out) hg5)
            have HBR5 := Lib.hid (HR.out.below HB5.out HR.out.lt)
            obtain ⟨A5, c5, rfl⟩ := own_slice hown5
            have y5 := HBX5.out.cell 1 _ rfl
            have f5 := HBX5.out.frozen 1
            clear hown5 hg5 HF HON
            refine hK.out _ _ trivial (fun hHeld => ?_)
            clear hK K
            (try simp only [Act.put, pt8])
            refine wtk 6 ?_ ?_ ?_
            rotate_left
            · intro w hSw; (try dsimp only at hSw); go_simp; (try with_reducible rfl)
            (try simp only [Act.put, pt8])
            refine wpAnyH_ready (rs := [7]) (by kernel_rfl) (by simp) ?_
            refine AllReadyH.cons rfl (fun K hK => ?_) AllReadyH.nil
            go_simp
            refine hK.out _ _ trivial (fun hHeld => ?_)
            clear hK K
            (try simp only [Act.put, pt8])
            refine wpAnyH_done (by kernel_rfl) ?_ _
            clear hHeld
            go_wp2_with fail
            clear y5 f5
            go_roundw
            case rel => exact ⟨k + 1, _, _, by omega, by go_num, HBX5.out.set 1 _, by rw [List.replicate_succ']; exact HO5.out.box HBX5.out (by decide) (by decide) (by decide) 1 _, HB5.out.setCell (p := ⟨gs, 1, none⟩) hgs _⟩
            case measure => simp [intOf]; omega
      · obtain rfl : P.ths.length = k := by omega
        have y0 := HBX.out.cell 0 _ rfl
        have y1 := HBX.out.cell 1 _ rfl
        have HRR := Lib.hid (HR.out.below HB.out HR.out.lt)
        have r0 := HRR.out.cell 0 _ rfl
        have r1 := HRR.out.cell 1 _ rfl
        have f0 := HRR.out.frozen 0
        have f1 := HRR.out.frozen 1
        obtain ⟨W9, hW9⟩ : ∃ W, W = (wr.setCell ⟨gr, 0, none⟩ (.slice Am P.init.length cm)).setCell ⟨gr, 1, none⟩ (.slice Av P.ths.length cv) := ⟨_, rfl⟩
        have HR9 := Lib.hid (show BoxC W9 gr 39 #[.slice Am P.init.length cm, .slice Av P.ths.length cv] from by rw [hW9]; exact (HRR.out.set 0 _).set 1 _)
        have HO9 := Lib.hid (show OwnSt W2.heap.size W9 (.slice Am P.init.length cm) (.slice Av P.ths.length cv) (beg P) ps from by
          rw [hW9, show beg P = ⟨P.init, List.replicate P.ths.length begTh⟩ from by rw [← HTH.out]; rfl]
          exact (HOS.out.box HRR.out (by decide) (by decide) (by decide) 0 _).box (HRR.out.set 0 _) (by decide) (by decide) (by decide) 1 _)
        have HB9 := Lib.hid (show Below w.heap.size w W9 from by rw [hW9]; exact ((chain HB2.out HB.out).setCell (p := ⟨gr, 0, none⟩) HGR.out _).setCell (p := ⟨gr, 1, none⟩) HGR.out _)
        have HW9 := Lib.hid hW9
        clear hW9
        go_wp2_with fail
        rw [← HW9.out]
        clear y0 y1 r0 r1 f0 f1
        have r0 := HR9.out.cell 0 _ rfl
        have r1 := HR9.out.cell 1 _ rfl
        have hz := HCO.out
        refine bodyPost_ret (v := .agg #[.slice Am P.init.length cm, .slice Av P.ths.length cv]) (by simp [results, Tryz.results29, go_sem, r0, r1, hz]) rfl ⟨_, _, _, rfl, HO9.out.base HB2.out.size, HB9.out⟩
end Go.Proofs.YtlpjgaeelnlipaaGreat
namespace Go.Proofs.YtlpjgaeelnlipaaGreat
open Go.RowKit
open CodM (St Pg rightP)
open BfM (Wr plc)
open ScM

set_option maxHeartbeats 8000000 in
set_option maxRecDepth 100000 in
theorem rstep13_any {B : Nat} {v u : Value} {P : Pg} {s : Sta} (t : Int) (d wk : Bool) (w : World) (hv : PgV B w v P) (hu : StaV B w u s) (hBB : B ≤ w.heap.size) (hp : rightP P = true) (ho : OkSt P s) (hw : WideS s) :
    Calls Tryz.prog 41 #[v, u, .agg #[.int .i64 t, .bool d], .bool wk] w (RsRet P s t d wk w) := by
  have HS := Lib.hid (fun W (hW : Below w.heap.size w W) => refstep_any t W ((hv.below (hW.mono hBB)).more (Nat.le_trans hBB hW.size)) ((hu.below (hW.mono hBB)).more (Nat.le_trans hBB hW.size)) (Nat.le_refl _) hp ho hw)
  have HT := Lib.hid (fun W (hW : Below w.heap.size w W) => rtstep_any t d W ((hv.below (hW.mono hBB)).more (Nat.le_trans hBB hW.size)) ((hu.below (hW.mono hBB)).more (Nat.le_trans hBB hW.size)) (Nat.le_refl _) hp ho hw)
  clear hp ho hw
  obtain ⟨pi, pt, rfl, hpm⟩ := hv
  obtain ⟨um, ut, rfl, hum⟩ := hu
  obtain ⟨⟨P0, d0, rfl, -⟩, ⟨P1, d1, rfl, -⟩⟩ := hpm
  obtain ⟨⟨A7, c7, rfl, -⟩, ⟨A1, c1, rfl, -⟩⟩ := hum
  obtain ⟨W2, hW2⟩ : ∃ W, W = ((((w.alloc (.cells #[.slice P0 P.init.length d0, .slice P1 P.ths.length d1] 25)).alloc (.cells #[.slice A7 s.mem.length c7, .slice A1 s.ths.length c1] 39)).alloc (.cells #[.int .i64 t, .bool d] 53)).alloc (.cells #[.slice none 0 0, .slice none 0 0] 39)) := ⟨_, rfl⟩
  obtain ⟨gp, hgp⟩ : ∃ g, g = w.heap.size := ⟨_, rfl⟩
  obtain ⟨gs, hgs⟩ : ∃ g, g = w.heap.size + 1 := ⟨_, rfl⟩
  obtain ⟨gk, hgk⟩ : ∃ g, g = w.heap.size + 1 + 1 := ⟨_, rfl⟩
  obtain ⟨gr, hgr⟩ : ∃ g, g = w.heap.size + 1 + 1 + 1 := ⟨_, rfl⟩
  have HX := Lib.hid (show BoxC W2 gp 25 #[.slice P0 P.init.length d0, .slice P1 P.ths.length d1] from by rw [hW2, hgp]; have := (BoxC.new w 25 #[.slice P0 P.init.length d0, .slice P1 P.ths.length d1]) |>.alloc (.cells #[.slice A7 s.mem.length c7, .slice A1 s.ths.length c1] 39) |>.alloc (.cells #[.int .i64 t, .bool d] 53) |>.alloc (.cells #[.slice none 0 0, .slice none 0 0] 39); (try rw [World.size_alloc] at this); (try rw [World.size_alloc] at this); (try rw [World.size_alloc] at this); exact this)
  have HY := Lib.hid (show BoxC W2 gs 39 #[.slice A7 s.mem.length c7, .slice A1 s.ths.length c1] from by rw [hW2, hgs]; have := (BoxC.new (w.alloc (.cells #[.slice P0 P.init.length d0, .slice P1 P.ths.length d1] 25)) 39 #[.slice A7 s.mem.length c7, .slice A1 s.ths.length c1]) |>.alloc (.cells #[.int .i64 t, .bool d] 53) |>.alloc (.cells #[.slice none 0 0, .slice none 0 0] 39); (try rw [World.size_alloc] at this); (try rw [World.size_alloc] at this); (try rw [World.size_alloc] at this); exact this)
  have HK := Lib.hid (show BoxC W2 gk 53 #[.int .i64 t, .bool d] from by rw [hW2, hgk]; have := (BoxC.new ((w.alloc (.cells #[.slice P0 P.init.length d0, .slice P1 P.ths.length d1] 25)).alloc (.cells #[.slice A7 s.mem.length c7, .slice A1 s.ths.length c1] 39)) 53 #[.int .i64 t, .bool d]) |>.alloc (.cells #[.slice none 0 0, .slice none 0 0] 39); (try rw [World.size_alloc] at this); (try rw [World.size_alloc] at this); (try rw [World.size_alloc] at this); exact this)
  have HR := Lib.hid (show BoxC W2 gr 39 #[.slice none 0 0, .slice none 0 0] from by rw [hW2, hgr]; have := (BoxC.new (((w.alloc (.cells #[.slice P0 P.init.length d0, .slice P1 P.ths.length d1] 25)).alloc (.cells #[.slice A7 s.mem.length c7, .slice A1 s.ths.length c1] 39)).alloc (.cells #[.int .i64 t, .bool d] 53)) 39 #[.slice none 0 0, .slice none 0 0]); (try rw [World.size_alloc] at this); (try rw [World.size_alloc] at this); (try rw [World.size_alloc] at this); exact this)
  have HG := Lib.hid (show w.heap.size ≤ gr from by omega)
  have HB2 := Lib.hid (show Below w.heap.size w W2 from by rw [hW2]; exact below_al (below_al (below_al (below_al (Below.refl _ _) _) _) _) _)
  go_enter Tryz.func41, Tryz.ntmps41
  go_upto_region 1 with fail
  rw [← hW2]
  (try rw [← hgr])
  (try rw [← hgk])
  (try rw [← hgs])
  (try rw [← hgp])
  clear hW2 hgr hgk hgs hgp
  have x0 := HX.out.cell 0 _ rfl
  have x1 := HX.out.cell 1 _ rfl
  have y0 := HY.out.cell 0 _ rfl
  have y1 := HY.out.cell 1 _ rfl
  have k0 := HK.out.cell 0 _ rfl
  have k1 := HK.out.cell 1 _ rfl
  cases wk
  · cases d
    · go_wp2_with fail
      refine (Calls.mono (HS.out _ HB2.out) (fun e w' h => rs_strict h)).mono ?_
      rintro e V1 ⟨A, n, c, Bq, m, k, rfl, hos, hb⟩
      obtain ⟨q, hq⟩ : ∃ q, q = (rst P s t false false).isSome := ⟨_, rfl⟩
      rw [← hq]
      have HQ := Lib.hid hq
      have HO := Lib.hid hos
      have HR1 := Lib.hid (HR.out.below hb HR.out.lt)
      have HB3 := Lib.hid (chain HB2.out hb)
      have HZ2 := Lib.hid HB2.out.size
      clear hq hos hb x0 x1 y0 y1 k0 k1
      go_upto_region 7 with fail
      obtain ⟨X1, hX1⟩ : ∃ W, W = V1.alloc (.cells #[.slice A n c, .slice Bq m k] 39) := ⟨_, rfl⟩
      obtain ⟨g7, hg7⟩ : ∃ g, g = V1.heap.size := ⟨_, rfl⟩
      have H7 := Lib.hid (show BoxC X1 g7 39 #[.slice A n c, .slice Bq m k] from by rw [hX1, hg7]; exact BoxC.new V1 _ _)
      have HX1 := Lib.hid (show Below V1.heap.size V1 X1 from by rw [hX1]; exact below_al (Below.refl _ _) _)
      have HN7 := Lib.hid (show gr ≠ g7 from by have := HR1.out.lt; omega)
      rw [← hX1]
      (try rw [← hg7])
      clear hX1 hg7
      replace HR1 := Lib.hid (HR1.out.below HX1.out HR1.out.lt)
      replace HB3 := Lib.hid (chain HB3.out HX1.out)
      have e0 := H7.out.cell 0 _ rfl
      have e1 := H7.out.cell 1 _ rfl
      have r0 := HR1.out.cell 0 _ rfl
      have r1 := HR1.out.cell 1 _ rfl
      have f0 := HR1.out.frozen 0
      have f1 := HR1.out.frozen 1
      obtain ⟨W9, hW9⟩ : ∃ W, W = (X1.setCell ⟨gr, 0, none⟩ (.slice A n c)).setCell ⟨gr, 1, none⟩ (.slice Bq m k) := ⟨_, rfl⟩
      have HR9 := Lib.hid (show BoxC W9 gr 39 #[(.slice A n c), (.slice Bq m k)] from by rw [hW9]; exact (HR1.out.set 0 _).set 1 _)
      have HO9 := Lib.hid (fun s' (h : rst P s t false false = some s') => show ∃ ps, OwnSt w.heap.size W9 (.slice A n c) (.slice Bq m k) s' ps from by
        obtain ⟨ps, ho⟩ := HO.out s' h
        rw [hW9]
        exact ⟨ps, (((ho.below HX1.out).base HZ2.out).box HR1.out (by decide) (by decide) (by decide) 0 _).box (HR1.out.set 0 _) (by decide) (by decide) (by decide) 1 _⟩)
      have HB9 := Lib.hid (show Below w.heap.size w W9 from by rw [hW9]; exact (HB3.out.setCell (p := ⟨gr, 0, none⟩) HG.out _).setCell (p := ⟨gr, 1, none⟩) HG.out _)
      have HW9 := Lib.hid hW9
      clear hW9
      go_wp2_with fail
      rw [← HW9.out]
      clear r0 r1 f0 f1
      have r0 := HR9.out.cell 0 _ rfl
      have r1 := HR9.out.cell 1 _ rfl
      have hz : Tryz.prog.cellsOf 39 = 2 := by kernel_rfl
      refine bodyPost_ret (v := .tuple #[.agg #[(.slice A n c), (.slice Bq m k)], .bool q]) (by simp [results, Tryz.results41, go_sem, r0, r1, hz]) rfl ?_
      exact ⟨_, _, _, _, _, _, by rw [← HQ.out], HO9.out, HB9.out⟩
    · have HN := Lib.hid (rst_drain P s t)
      have r0 := HR.out.cell 0 _ rfl
      have r1 := HR.out.cell 1 _ rfl
      have f0 := HR.out.frozen 0
      have f1 := HR.out.frozen 1
      obtain ⟨W9, hW9⟩ : ∃ W, W = (W2.setCell ⟨gr, 0, none⟩ (.slice A7 s.mem.length c7)).setCell ⟨gr, 1, none⟩ (.slice A1 s.ths.length c1) := ⟨_, rfl⟩
      have HR9 := Lib.hid (show BoxC W9 gr 39 #[(.slice A7 s.mem.length c7), (.slice A1 s.ths.length c1)] from by rw [hW9]; exact (HR.out.set 0 _).set 1 _)
      clear x0 x1 k0
      have HB9 := Lib.hid (show Below w.heap.size w W9 from by rw [hW9]; exact (HB2.out.setCell (p := ⟨gr, 0, none⟩) HG.out _).setCell (p := ⟨gr, 1, none⟩) HG.out _)
      have HW9 := Lib.hid hW9
      clear hW9
      go_wp2_with fail
      rw [← HW9.out]
      clear r0 r1 f0 f1
      have r0 := HR9.out.cell 0 _ rfl
      have r1 := HR9.out.cell 1 _ rfl
      have hz : Tryz.prog.cellsOf 39 = 2 := by kernel_rfl
      refine bodyPost_ret (v := .tuple #[.agg #[(.slice A7 s.mem.length c7), (.slice A1 s.ths.length c1)], .bool false]) (by simp [results, Tryz.results41, go_sem, r0, r1, hz]) rfl ?_
      exact ⟨_, _, _, _, _, _, by rw [HN.out]; rfl, fun s' (h : rst P s t true false = some s') => absurd (HN.out.symm.trans h) (by simp), HB9.out⟩
  · go_wp2_with fail
    refine (Calls.mono (HT.out _ HB2.out) (fun e w' h => rs_weak h)).mono ?_
    rintro e V1 ⟨A, n, c, Bq, m, k, rfl, hos, hb⟩
    obtain ⟨q, hq⟩ : ∃ q, q = (rst P s t d true).isSome := ⟨_, rfl⟩
    rw [← hq]
    have HQ := Lib.hid hq
    have HO := Lib.hid hos
    have HR1 := Lib.hid (HR.out.below hb HR.out.lt)
    have HB3 := Lib.hid (chain HB2.out hb)
    have HZ2 := Lib.hid HB2.out.size
    clear hq hos hb x0 x1 y0 y1 k0 k1
    go_upto_region 3 with fail
    obtain ⟨X1, hX1⟩ : ∃ W, W = V1.alloc (.cells #[.slice A n c, .slice Bq m k] 39) := ⟨_, rfl⟩
    obtain ⟨g7, hg7⟩ : ∃ g, g = V1.heap.size := ⟨_, rfl⟩
    have H7 := Lib.hid (show BoxC X1 g7 39 #[.slice A n c, .slice Bq m k] from by rw [hX1, hg7]; exact BoxC.new V1 _ _)
    have HX1 := Lib.hid (show Below V1.heap.size V1 X1 from by rw [hX1]; exact below_al (Below.refl _ _) _)
    have HN7 := Lib.hid (show gr ≠ g7 from by have := HR1.out.lt; omega)
    rw [← hX1]
    (try rw [← hg7])
    clear hX1 hg7
    replace HR1 := Lib.hid (HR1.out.below HX1.out HR1.out.lt)
    replace HB3 := Lib.hid (chain HB3.out HX1.out)
    have e0 := H7.out.cell 0 _ rfl
    have e1 := H7.out.cell 1 _ rfl
    have r0 := HR1.out.cell 0 _ rfl
    have r1 := HR1.out.cell 1 _ rfl
    have f0 := HR1.out.frozen 0
    have f1 := HR1.out.frozen 1
    obtain ⟨W9, hW9⟩ : ∃ W, W = (X1.setCell ⟨gr, 0, none⟩ (.slice A n c)).setCell ⟨gr, 1, none⟩ (.slice Bq m k) := ⟨_, rfl⟩
    have HR9 := Lib.hid (show BoxC W9 gr 39 #[(.slice A n c), (.slice Bq m k)] from by rw [hW9]; exact (HR1.out.set 0 _).set 1 _)
    have HO9 := Lib.hid (fun s' (h : rst P s t d true = some s') => show ∃ ps, OwnSt w.heap.size W9 (.slice A n c) (.slice Bq m k) s' ps from by
      obtain ⟨ps, ho⟩ := HO.out s' h
      rw [hW9]
      exact ⟨ps, (((ho.below HX1.out).base HZ2.out).box HR1.out (by decide) (by decide) (by decide) 0 _).box (HR1.out.set 0 _) (by decide) (by decide) (by decide) 1 _⟩)
    have HB9 := Lib.hid (show Below w.heap.size w W9 from by rw [hW9]; exact (HB3.out.setCell (p := ⟨gr, 0, none⟩) HG.out _).setCell (p := ⟨gr, 1, none⟩) HG.out _)
    have HW9 := Lib.hid hW9
    clear hW9
    go_wp2_with fail
    rw [← HW9.out]
    clear r0 r1 f0 f1
    have r0 := HR9.out.cell 0 _ rfl
    have r1 := HR9.out.cell 1 _ rfl
    have hz : Tryz.prog.cellsOf 39 = 2 := by kernel_rfl
    refine bodyPost_ret (v := .tuple #[.agg #[(.slice A n c), (.slice Bq m k)], .bool q]) (by simp [results, Tryz.results41, go_sem, r0, r1, hz]) rfl ?_
    exact ⟨_, _, _, _, _, _, by rw [← HQ.out], HO9.out, HB9.out⟩
end Go.Proofs.YtlpjgaeelnlipaaGreat
namespace Go.Proofs.YtlpjgaeelnlipaaGreat
open Go.RowKit
open CodM (St Pg rightP)
open BfM (Wr plc)
open ScM

theorem ki_new (w : World) (t : Int) (d : Bool) : ∀ j u, ([.int .i64 t, .bool d] : List Value)[j]? = some u → (w.alloc (.cells #[.int .i64 t, .bool d] 53)).cell? ((⟨w.heap.size, 0, none⟩ : Addr).add j) = some u := by
  intro j u hj
  rw [show ((⟨w.heap.size, 0, none⟩ : Addr).add j) = ⟨w.heap.size, j, none⟩ by simp [Addr.add]; intro e; exact e.symm]
  rw [World.cell?_alloc_at _ _ _ _ rfl]
  simpa using hj
end Go.Proofs.YtlpjgaeelnlipaaGreat
namespace Go.Proofs.YtlpjgaeelnlipaaGreat
open Go.RowKit
open CodM (St Pg rightP)
open BfM (Wr plc)
open ScM
open SlM
open CrM

/-- A box with a set of slots, and one with a row of picks of the call's own. -/
def RwJ (W : World) (gF bF n : Nat) (f : Int → Bool) (g3 base : Nat) (r : List (Int × Bool)) : Prop :=
  BoxC W gF 55 #[.map (some bF)] ∧ MapT W bF n f ∧ ∃ A c, BoxC W g3 26 #[.slice A r.length c] ∧ W.ownsRow base 53 2 (.slice A r.length c) r.length (r.flatMap kiC)
theorem RwJ.grown {W W' : World} {gF bF n g3 base : Nat} {f : Int → Bool} {r : List (Int × Bool)} (h : RwJ W gF bF n f g3 base r) (hg : W.grownBy W' none) : RwJ W' gF bF n f g3 base r := by
  obtain ⟨h1, h2, A, c, h3, h4⟩ := h
  exact ⟨(hg.block _ h1.lt (by simp)).trans h1, h2.kept hg (by simp), A, c, (hg.block _ h3.lt (by simp)).trans h3, own_same h4 (fun g cs hh _ => hg.block g (Array.getElem?_eq_some_iff.1 hh).1 (by simp))⟩
theorem mapT_box {W : World} {b n : Nat} {f : Int → Bool} {T : TypeId} {cs : Array Value} {q : Nat} (hm : MapT W b n f) (hb : BoxC W q T cs) : b ≠ q := fun e => by
  subst e
  obtain ⟨D, ⟨es, cl, hh, -⟩, -⟩ := hm
  rw [show W.heap[b]? = _ from hb] at hh
  cases hh
/-- A pick is put behind, and the row stored. -/
theorem RwJ.put {W W' : World} {gF bF n g3 base c c' : Nat} {A A' : Option Addr} {f : Int → Bool} {r : List (Int × Bool)} {p : Int × Bool} (h : RwJ W gF bF n f g3 base r) (hb : BoxC W g3 26 #[.slice A r.length c]) (ho : W.ownsRow base 53 2 (.slice A r.length c) r.length (r.flatMap kiC))
    (ho2 : W'.ownsRow base 53 2 (.slice A' (r.length + 1) c') (r.length + 1) (r.flatMap kiC ++ kiC p)) (hg : W.grownBy W' (Value.slice A r.length c).ownBlock) : RwJ (W'.setCell ⟨g3, 0, none⟩ (.slice A' (r.length + 1) c')) gF bF n f g3 base (r ++ [p]) := by
  obtain ⟨h1, h2, -⟩ := h
  have hne : gF ≠ g3 := fun e => by
    subst e
    have := Option.some.inj ((show W.heap[gF]? = _ from h1).symm.trans (show W.heap[gF]? = _ from hb))
    injection this with _ e
    exact absurd e (by decide)
  have k1 : BoxC W' gF 55 #[.map (some bF)] := h1.grown (by decide) ho hg
  have k3 : BoxC W' g3 26 #[.slice A r.length c] := hb.grown (by decide) ho hg
  have k2 : MapT W' bF n f := h2.kept hg (fun e => by
    obtain ⟨D, ⟨es, cl, hh, -⟩, -⟩ := h2
    rcases ho.2 with ⟨h, _⟩ | ⟨g, c2, cur, h, _, hh2, _⟩
    · rw [h] at e; cases e
    · rw [h] at e
      have e2 : bF = g := Option.some.inj e
      subst e2
      rw [hh2] at hh
      cases hh)
  have hl : (r ++ [p]).length = r.length + 1 := by simp
  have hx : (r ++ [p]).flatMap kiC = r.flatMap kiC ++ kiC p := by rw [List.flatMap_append]; simp
  refine ⟨k1.other hne 0 _, k2.heap (heap_setCell_other W' ⟨g3, 0, none⟩ bF _ (mapT_box k2 k3)), A', c', ?_, ?_⟩
  · rw [hl]; exact k3.set 0 _
  · rw [hl, hx]; exact own_box ho2 k3 (by decide) 0 _
theorem RwJ.ab {E : List ((Int × Bool) × (Int × Bool))} {gF bF n g3 base N : Nat} {f : Int → Bool} {φ : Nat → List (Int × Bool)} (h1 : gF < N) (h2 : bF < N) (h3 : g3 < N) : MayAb N (fun k W => RwJ W gF bF n f g3 base (φ k)) := by
  rintro k X Y row ⟨k1, k2, A, c, k3, k4⟩ hgr hr
  have hne : ∀ q, q < N → some q ≠ row := fun q hq e => by have := (hr q e.symm).1; omega
  refine ⟨(hgr.block gF k1.lt (hne gF h1)).trans k1, k2.kept hgr (hne bF h2), A, c, (hgr.block g3 k3.lt (hne g3 h3)).trans k3, own_same k4 (fun g cs hh _ => hgr.block g (Array.getElem?_eq_some_iff.1 hh).1 (fun e => ?_))⟩
  obtain ⟨-, o, ho, hc⟩ := hr g e.symm
  rw [hh] at ho
  injection ho with ho
  subst ho
  rcases hc with hc | ⟨cs2, ro, T, e2, hT⟩
  · cases hc
  · injection e2 with _ e2; exact hT e2.symm
/-- All stays but block g, and rows of picks. -/
def KpY (g : Nat) (W W' : World) : Prop := ∀ k (o : Obj), W.heap[k]? = some o → k ≠ g → (∀ cs ro, o ≠ .cells cs 53 ro) → W'.heap[k]? = some o
theorem KpY.trans {g : Nat} {X Y Z : World} (h : KpY g X Y) (k : KpY g Y Z) : KpY g X Z := fun i o h1 h2 h3 => k i o (h i o h1 h2 h3) h2 h3
theorem KpY.grown {g : Nat} {A D : World} (hg : A.grownBy D none) : KpY g A D := fun k o h1 _ _ => (hg.block k (Array.getElem?_eq_some_iff.1 h1).1 (by simp)).trans h1
theorem KpY.app {g base m s : Nat} {A D : World} {v : Value} {xs : List Value} (ho : A.ownsRow base 53 s v m xs) (hg : A.grownBy D v.ownBlock) : KpY g A D := fun k o h1 _ h3 => (hg.block k (Array.getElem?_eq_some_iff.1 h1).1 (fun e => by
  rcases ho.2 with ⟨rfl, _⟩ | ⟨g, c, cur, rfl, _, h2, _⟩
  · cases e
  · have e2 : k = g := Option.some.inj e
    subst e2
    rw [h2] at h1
    injection h1 with h1
    exact h3 cur (0, 0) h1.symm)).trans h1
theorem KpY.set (g : Nat) (A : World) (v : Value) : KpY g A (A.setCell ⟨g, 0, none⟩ v) := fun k o h1 h2 _ => (heap_setCell_other A ⟨g, 0, none⟩ k v (by show k ≠ g; exact h2)).trans h1
set_option maxHeartbeats 8000000 in
set_option maxRecDepth 100000 in
theorem lomay_any {B N n gF bF g3 base : Nat} {f : Int → Bool} {r : List (Int × Bool)} (t x : Int) (d c : Bool) (w : World) (hJ : RwJ w gF bF n f g3 base r) (hx : -1 ≤ x ∧ x ≤ 1000000) (hln : r.length ≤ 150000) (hBw : B ≤ w.heap.size) (hB3 : B ≤ g3) (h3N : g3 < N) (hBb : B ≤ base) (hbw : base ≤ w.heap.size) :
    Calls Tryz.prog 36 #[.agg #[.int .i64 t, .bool d], .agg #[.int .i64 x, .bool c], .pointer (some ⟨gF, 0, none⟩), .pointer (some ⟨g3, 0, none⟩)] w fun e w' => e = .returned (.bool true) ∧ RwJ w' gF bF n f g3 base (r ++ (if f x then [] else [(t, d)])) ∧ KpM B N w w' ∧ KpY g3 w w' := by
  obtain ⟨i0, hi, hz0, hz1, hz2⟩ := info_parts info_pk
  have hwx : (Lit.int .i64 x).wf = true := WalkArith.wf_i64 (by omega)
  have HLN := Lib.hid hln
  obtain ⟨rx, hrx⟩ : ∃ rx, rx = (if f x then [] else [(t, d)]) := ⟨_, rfl⟩
  rw [← hrx]
  have HRX := Lib.hid hrx
  clear hrx
  obtain ⟨W1, hW1⟩ : ∃ W, W = (w.alloc (.cells #[.int .i64 t, .bool d] 53)).alloc (.cells #[.int .i64 x, .bool c] 58) := ⟨_, rfl⟩
  obtain ⟨gk, hgk⟩ : ∃ g, g = w.heap.size := ⟨_, rfl⟩
  obtain ⟨gw, hgw⟩ : ∃ g, g = w.heap.size + 1 := ⟨_, rfl⟩
  have HP := Lib.hid (show BoxC W1 gk 53 #[.int .i64 t, .bool d] from by rw [hW1, hgk]; exact (BoxC.new w 53 #[.int .i64 t, .bool d]).alloc _)
  have HW := Lib.hid (show BoxC W1 gw 58 #[.int .i64 x, .bool c] from by rw [hW1, hgw]; have := BoxC.new (w.alloc (.cells #[.int .i64 t, .bool d] 53)) 58 #[.int .i64 x, .bool c]; rw [World.size_alloc] at this; exact this)
  have HG0 := Lib.hid (show w.grownBy W1 none from by rw [hW1]; exact (World.grownBy_alloc w (.cells #[.int .i64 t, .bool d] 53) none).trans (World.grownBy_alloc _ (.cells #[.int .i64 x, .bool c] 58) none))
  have HK1 := Lib.hid (show KpM B N w W1 from KpM.grown hBw HG0.out)
  have HJ1 := Lib.hid (hJ.grown HG0.out)
  have HBW1 := Lib.hid (Nat.le_trans hBw HG0.out.size)
  have HBA1 := Lib.hid (Nat.le_trans hbw HG0.out.size)
  have HGN := Lib.hid (show gk ≠ g3 ∧ gw ≠ g3 ∧ w.heap.size ≤ gk from by obtain ⟨-, -, A, c', h3, -⟩ := hJ; have := h3.lt; omega)
  have q0 := HP.out.cell 0 _ rfl
  have q1 := HP.out.cell 1 _ rfl
  have y0 := HW.out.cell 0 _ rfl
  have y1 := HW.out.cell 1 _ rfl
  have y2 := HJ1.out.1.cell 0 _ rfl
  have HMT := Lib.hid HJ1.out.2.1
  clear hJ
  go_enter Tryz.func36, Tryz.ntmps36
  go_upto_region 1 with fail
  rw [← hW1]
  (try rw [← hgw])
  (try rw [← hgk])
  clear hW1 hgw hgk

  cases hfx : f x
  case true =>
    go_wp2_with (at_lookup; refine at_mapI _ rfl _ _ rfl bF n _ rfl HMT.out.i x rfl hwx ?_; rw [hfx])
    go_ret
    exact ⟨rfl, by rw [HRX.out, hfx]; simpa using HJ1.out, HK1.out, KpY.grown HG0.out⟩
  case false =>
    obtain ⟨-, -, A1, c1, hb1, ho1⟩ := HJ1.out
    have HO1 := Lib.hid ho1
    have HX1 := Lib.hid hb1
    obtain ⟨m1, hm1⟩ : ∃ m, m = r.length := ⟨_, rfl⟩
    have HM1 := Lib.hid hm1
    rw [← hm1] at hb1 HO1 HX1
    have hml1 : m1 ≤ 200000 := by have := HLN.out; rw [hm1]; simp; omega
    have z1 := hb1.cell 0 _ rfl
    have HXL1 := Lib.hid (HX1.out.alloc (.cells #[.int .i64 t, .bool d] 53))
    have HOL1 := Lib.hid (own_same HO1.out (fun g cs hh _ => (World.grownBy_alloc W1 (.cells #[.int .i64 t, .bool d] 53) none).block g (Array.getElem?_eq_some_iff.1 hh).1 (by simp)))
    clear hb1 ho1 hm1
    go_upto_region 2 with (at_lookup; refine at_mapI _ rfl _ _ rfl bF n _ rfl HMT.out.i x rfl hwx ?_; rw [hfx])
    go_upto_region 3 with (at_builtin; refine wpList_append_own _ rfl _ _ 26 rfl base 53 i0 (.agg #[.int .i64 0, .bool false]) 2 16 Tryz.underlying26 hi hz0 hz1 hz2 rfl (by decide) _ m1 ((r).flatMap kiC) rfl HOL1.out ⟨W1.heap.size, 0, none⟩ 1 1 [.int .i64 t, .bool d] rfl rfl (ki_new _ _ _) (by simp [Value.oneCell']) (by unfold maxLen; omega) (by omega) (by rw [World.size_alloc]; have := HBA1.out; omega) ?_; intro v1 wz1 hown1 hg1 _; obtain ⟨Az1, cz1, rfl⟩ := own_slice hown1; have HZ1 := Lib.hid hown1; have HG1 := Lib.hid hg1; have HY1 := Lib.hid (HXL1.out.grown (by decide) HOL1.out hg1); have e1 := HY1.out.cell 0 _ rfl; have f1 := HY1.out.frozen 0; clear hown1 hg1)
    obtain ⟨Y1, hY1⟩ : ∃ W, W = wz1.setCell ⟨g3, 0, none⟩ (.slice Az1 (m1 + 1) cz1) := ⟨_, rfl⟩
    rw [← hY1]
    have HJ2 := Lib.hid (show RwJ Y1 gF bF n f g3 base (r ++ [(t, d)]) from by
      have h1 := HXL1.out
      have h2 := HOL1.out
      have h3 := HZ1.out
      have h4 := HG1.out
      rw [hY1]
      rw [HM1.out] at h1 h2 h3 h4 ⊢
      exact RwJ.put (HJ1.out.grown (World.grownBy_alloc W1 (.cells #[.int .i64 t, .bool d] 53) none)) h1 h2 h3 h4)
    have HK2 := Lib.hid (show KpM B N w Y1 from by
      rw [hY1]
      exact ((HK1.out.trans (KpM.grown HBW1.out (World.grownBy_alloc W1 (.cells #[.int .i64 t, .bool d] 53) none))).trans (KpM.app (by rw [World.size_alloc]; have := HBW1.out; omega) HOL1.out hBb HG1.out)).trans (KpM.set hB3 h3N _ _))
    have HKY := Lib.hid (show KpY g3 w Y1 from by
      rw [hY1]
      exact (((KpY.grown HG0.out).trans (KpY.grown (World.grownBy_alloc W1 (.cells #[.int .i64 t, .bool d] 53) none))).trans (KpY.app HOL1.out HG1.out)).trans (KpY.set g3 _ _))
    clear e1 f1 hY1 z1
    go_wp2
    go_ret
    exact ⟨rfl, by rw [HRX.out, hfx]; exact HJ2.out, HK2.out, HKY.out⟩
set_option maxHeartbeats 8000000 in
set_option maxRecDepth 100000 in
theorem ramay_any {B N n gF bF g3 base : Nat} {f : Int → Bool} {r : List (Int × Bool)} (t x : Int) (d c : Bool) (w : World) (hJ : RwJ w gF bF n f g3 base r) (hx : -1 ≤ x ∧ x ≤ 1000000) (hln : r.length ≤ 150000) (hBw : B ≤ w.heap.size) (hB3 : B ≤ g3) (h3N : g3 < N) (hBb : B ≤ base) (hbw : base ≤ w.heap.size) :
    Calls Tryz.prog 38 #[.agg #[.int .i64 t, .bool d], .agg #[.int .i64 x, .bool c], .pointer (some ⟨gF, 0, none⟩), .pointer (some ⟨g3, 0, none⟩)] w fun e w' => e = .returned (.bool (!(f x && c))) ∧ RwJ w' gF bF n f g3 base (r ++ (if f x then [(t, d), (t, d)] else [(t, d)])) ∧ KpM B N w w' := by
  obtain ⟨i0, hi, hz0, hz1, hz2⟩ := info_parts info_pk
  have hwx : (Lit.int .i64 x).wf = true := WalkArith.wf_i64 (by omega)
  have HLN := Lib.hid hln
  obtain ⟨rx, hrx⟩ : ∃ rx, rx = (if f x then [(t, d), (t, d)] else [(t, d)]) := ⟨_, rfl⟩
  rw [← hrx]
  have HRX := Lib.hid hrx
  clear hrx
  obtain ⟨W1, hW1⟩ : ∃ W, W = (w.alloc (.cells #[.int .i64 t, .bool d] 53)).alloc (.cells #[.int .i64 x, .bool c] 58) := ⟨_, rfl⟩
  obtain ⟨gk, hgk⟩ : ∃ g, g = w.heap.size := ⟨_, rfl⟩
  obtain ⟨gw, hgw⟩ : ∃ g, g = w.heap.size + 1 := ⟨_, rfl⟩
  have HP := Lib.hid (show BoxC W1 gk 53 #[.int .i64 t, .bool d] from by rw [hW1, hgk]; exact (BoxC.new w 53 #[.int .i64 t, .bool d]).alloc _)
  have HW := Lib.hid (show BoxC W1 gw 58 #[.int .i64 x, .bool c] from by rw [hW1, hgw]; have := BoxC.new (w.alloc (.cells #[.int .i64 t, .bool d] 53)) 58 #[.int .i64 x, .bool c]; rw [World.size_alloc] at this; exact this)
  have HG0 := Lib.hid (show w.grownBy W1 none from by rw [hW1]; exact (World.grownBy_alloc w (.cells #[.int .i64 t, .bool d] 53) none).trans (World.grownBy_alloc _ (.cells #[.int .i64 x, .bool c] 58) none))
  have HK1 := Lib.hid (show KpM B N w W1 from KpM.grown hBw HG0.out)
  have HJ1 := Lib.hid (hJ.grown HG0.out)
  have HBW1 := Lib.hid (Nat.le_trans hBw HG0.out.size)
  have HBA1 := Lib.hid (Nat.le_trans hbw HG0.out.size)
  have HGN := Lib.hid (show gk ≠ g3 ∧ gw ≠ g3 ∧ w.heap.size ≤ gk from by obtain ⟨-, -, A, c', h3, -⟩ := hJ; have := h3.lt; omega)
  have q0 := HP.out.cell 0 _ rfl
  have q1 := HP.out.cell 1 _ rfl
  have y0 := HW.out.cell 0 _ rfl
  have y1 := HW.out.cell 1 _ rfl
  have y2 := HJ1.out.1.cell 0 _ rfl
  have HMT := Lib.hid HJ1.out.2.1
  obtain ⟨-, -, A1, c1, hb1, ho1⟩ := hJ
  have HVB := Lib.hid (show ∀ g, (Value.slice A1 r.length c1).ownBlock = some g → g < w.heap.size from fun g e => by
    rcases ho1.2 with ⟨h, _⟩ | ⟨g2, c2, cur, h, _, hh, _⟩
    · rw [h] at e; cases e
    · rw [h] at e
      have e2 : g2 = g := Option.some.inj e
      subst e2
      exact (Array.getElem?_eq_some_iff.1 hh).1)
  have HX1 := Lib.hid (show BoxC W1 g3 26 #[.slice A1 r.length c1] from (HG0.out.block _ hb1.lt (by simp)).trans hb1)
  have HO1 := Lib.hid (own_same ho1 (fun g cs hh _ => HG0.out.block g (Array.getElem?_eq_some_iff.1 hh).1 (by simp)))
  have HWY1 := Lib.hid HW.out
  have HGK := Lib.hid (show gk = w.heap.size from hgk)
  obtain ⟨m1, hm1⟩ : ∃ m, m = r.length := ⟨_, rfl⟩
  have HM1 := Lib.hid hm1
  rw [← hm1] at HX1 HO1 HVB hln
  have HBC := Lib.hid (show ∀ b : Bool, (!(b && c)) = (if b then !c else true) from fun b => by cases b <;> simp)
  clear hb1 ho1 hm1
  go_enter Tryz.func38, Tryz.ntmps38
  go_upto_region 1 with fail
  rw [← hW1]
  (try rw [← hgw])
  (try rw [← hgk])
  clear hW1 hgw hgk

  cases hfx : f x
  case true =>
    have HXL1 := Lib.hid (HX1.out.alloc (.cells #[.int .i64 t, .bool d] 53))
    have HOL1 := Lib.hid (own_same HO1.out (fun g cs hh _ => (World.grownBy_alloc W1 (.cells #[.int .i64 t, .bool d] 53) none).block g (Array.getElem?_eq_some_iff.1 hh).1 (by simp)))
    have z1 := HX1.out.cell 0 _ rfl
    go_upto_region 2 with (at_lookup; refine at_mapI _ rfl _ _ rfl bF n _ rfl HMT.out.i x rfl hwx ?_; rw [hfx])
    go_upto_region 3 with (at_builtin; refine wpList_append_own_at _ rfl _ _ 26 rfl base 53 i0 (.agg #[.int .i64 0, .bool false]) 2 16 Tryz.underlying26 hi hz0 hz1 hz2 rfl (by decide) _ m1 ((r).flatMap kiC) rfl HOL1.out ⟨W1.heap.size, 0, none⟩ 1 1 [.int .i64 t, .bool d] rfl rfl (ki_new _ _ _) (by simp [Value.oneCell']) (by unfold maxLen; omega) (by omega) (by rw [World.size_alloc]; have := HBA1.out; omega) ?_; intro v1 wz1 hown1 hg1 _ hat1; obtain ⟨Az1, cz1, rfl⟩ := own_slice hown1; have HZ1 := Lib.hid hown1; have HG1 := Lib.hid hg1; have HAT1 := Lib.hid hat1; have HY1 := Lib.hid (HXL1.out.grown (by decide) HOL1.out hg1); have HW1 := Lib.hid ((HWY1.out.alloc (.cells #[.int .i64 t, .bool d] 53)).grown (by decide) HOL1.out hg1); have e1 := HY1.out.cell 0 _ rfl; have f1 := HY1.out.frozen 0; clear hown1 hg1 hat1)
    obtain ⟨Y1, hY1⟩ : ∃ W, W = wz1.setCell ⟨g3, 0, none⟩ (.slice Az1 (m1 + 1) cz1) := ⟨_, rfl⟩
    rw [← hY1]
    have HJ2 := Lib.hid (show RwJ Y1 gF bF n f g3 base (r ++ [(t, d)]) from by
      have h1 := HXL1.out
      have h2 := HOL1.out
      have h3 := HZ1.out
      have h4 := HG1.out
      rw [hY1]
      rw [HM1.out] at h1 h2 h3 h4 ⊢
      exact RwJ.put (HJ1.out.grown (World.grownBy_alloc W1 (.cells #[.int .i64 t, .bool d] 53) none)) h1 h2 h3 h4)
    have HK2 := Lib.hid (show KpM B N w Y1 from by
      rw [hY1]
      exact ((HK1.out.trans (KpM.grown HBW1.out (World.grownBy_alloc W1 (.cells #[.int .i64 t, .bool d] 53) none))).trans (KpM.app (by rw [World.size_alloc]; have := HBW1.out; omega) HOL1.out hBb HG1.out)).trans (KpM.set hB3 h3N _ _))
    have HBW2 := Lib.hid (show B ≤ Y1.heap.size from Nat.le_trans hBw HK2.out.2.size)
    have HBA2 := Lib.hid (show base ≤ Y1.heap.size from Nat.le_trans hbw HK2.out.2.size)
    have HX2 := Lib.hid (show BoxC Y1 g3 26 #[.slice Az1 (m1 + 1) cz1] from by rw [hY1]; exact HY1.out.set 0 _)
    have HO2 := Lib.hid (show Y1.ownsRow base 53 2 (.slice Az1 (m1 + 1) cz1) (m1 + 1) ((r ++ [(t, d)]).flatMap kiC) from by
      rw [hY1, show (r ++ [(t, d)]).flatMap kiC = (r).flatMap kiC ++ [.int .i64 t, .bool d] from by rw [List.flatMap_append]; rfl]
      exact own_box HZ1.out HY1.out (by decide) 0 _)
    have HWY2 := Lib.hid (show BoxC Y1 gw 58 #[.int .i64 x, .bool c] from by rw [hY1]; exact HW1.out.other HGN.out.2.1 0 _)
    have HYe1 := Lib.hid hY1
    clear e1 f1 hY1 z1
    (try clear y0 y1 y2)
    obtain ⟨m2, hm2⟩ : ∃ m, m = m1 + 1 := ⟨_, rfl⟩
    have HM2 := Lib.hid (show m2 = (r ++ [(t, d)]).length from by rw [hm2, HM1.out]; simp)
    rw [← hm2] at HX2 HO2
    have HPY := Lib.hid (show BoxC Y1 gk 53 #[.int .i64 t, .bool d] from by
      rw [HYe1.out]
      refine BoxC.other ?_ HGN.out.1 0 _
      exact (HG1.out.block gk (HP.out.alloc _).lt (fun e => by have := HVB.out gk e.symm; have := HGK.out; omega)).trans (HP.out.alloc _))
    clear q0 q1
    have q0 := HPY.out.cell 0 _ rfl
    have q1 := HPY.out.cell 1 _ rfl
    have hm2' : m2 ≤ 200000 := by omega
    have HE2 := Lib.hid hm2
    clear hm2
    have HXL2 := Lib.hid (HX2.out.alloc (.cells #[.int .i64 t, .bool d] 53))
    have HOL2 := Lib.hid (own_same HO2.out (fun g cs hh _ => (World.grownBy_alloc Y1 (.cells #[.int .i64 t, .bool d] 53) none).block g (Array.getElem?_eq_some_iff.1 hh).1 (by simp)))
    have z2 := HX2.out.cell 0 _ rfl
    rw [← HE2.out]
    go_upto_region 4 with (at_builtin; refine wpList_append_own_at _ rfl _ _ 26 rfl base 53 i0 (.agg #[.int .i64 0, .bool false]) 2 16 Tryz.underlying26 hi hz0 hz1 hz2 rfl (by decide) _ m2 ((r ++ [(t, d)]).flatMap kiC) rfl HOL2.out ⟨Y1.heap.size, 0, none⟩ 1 1 [.int .i64 t, .bool d] rfl rfl (ki_new _ _ _) (by simp [Value.oneCell']) (by unfold maxLen; omega) (by omega) (by rw [World.size_alloc]; have := HBA2.out; omega) ?_; intro v2 wz2 hown2 hg2 _ hat2; obtain ⟨Az2, cz2, rfl⟩ := own_slice hown2; have HZ2 := Lib.hid hown2; have HG2 := Lib.hid hg2; have HAT2 := Lib.hid hat2; have HY2 := Lib.hid (HXL2.out.grown (by decide) HOL2.out hg2); have HW2 := Lib.hid ((HWY2.out.alloc (.cells #[.int .i64 t, .bool d] 53)).grown (by decide) HOL2.out hg2); have e2 := HY2.out.cell 0 _ rfl; have f2 := HY2.out.frozen 0; clear hown2 hg2 hat2)
    obtain ⟨Y2, hY2⟩ : ∃ W, W = wz2.setCell ⟨g3, 0, none⟩ (.slice Az2 (m2 + 1) cz2) := ⟨_, rfl⟩
    rw [← hY2]
    have HJ3 := Lib.hid (show RwJ Y2 gF bF n f g3 base ((r ++ [(t, d)]) ++ [(t, d)]) from by
      have h1 := HXL2.out
      have h2 := HOL2.out
      have h3 := HZ2.out
      have h4 := HG2.out
      rw [hY2]
      rw [HM2.out] at h1 h2 h3 h4 ⊢
      exact RwJ.put (HJ2.out.grown (World.grownBy_alloc Y1 (.cells #[.int .i64 t, .bool d] 53) none)) h1 h2 h3 h4)
    have HK3 := Lib.hid (show KpM B N w Y2 from by
      rw [hY2]
      exact ((HK2.out.trans (KpM.grown HBW2.out (World.grownBy_alloc Y1 (.cells #[.int .i64 t, .bool d] 53) none))).trans (KpM.app (by rw [World.size_alloc]; have := HBW2.out; omega) HOL2.out hBb HG2.out)).trans (KpM.set hB3 h3N _ _))
    have HBW3 := Lib.hid (show B ≤ Y2.heap.size from Nat.le_trans hBw HK3.out.2.size)
    have HBA3 := Lib.hid (show base ≤ Y2.heap.size from Nat.le_trans hbw HK3.out.2.size)
    have HX3 := Lib.hid (show BoxC Y2 g3 26 #[.slice Az2 (m2 + 1) cz2] from by rw [hY2]; exact HY2.out.set 0 _)
    have HO3 := Lib.hid (show Y2.ownsRow base 53 2 (.slice Az2 (m2 + 1) cz2) (m2 + 1) (((r ++ [(t, d)]) ++ [(t, d)]).flatMap kiC) from by
      rw [hY2, show ((r ++ [(t, d)]) ++ [(t, d)]).flatMap kiC = ((r ++ [(t, d)])).flatMap kiC ++ [.int .i64 t, .bool d] from by rw [List.flatMap_append]; rfl]
      exact own_box HZ2.out HY2.out (by decide) 0 _)
    have HWY3 := Lib.hid (show BoxC Y2 gw 58 #[.int .i64 x, .bool c] from by rw [hY2]; exact HW2.out.other HGN.out.2.1 0 _)
    have HYe2 := Lib.hid hY2
    clear e2 f2 hY2 z2
    (try clear y0 y1 y2)
    have y0 := HWY3.out.cell 0 _ rfl
    have y1 := HWY3.out.cell 1 _ rfl
    have y2 := HJ3.out.1.cell 0 _ rfl
    have HMT3 := Lib.hid HJ3.out.2.1
    clear q0 q1
    go_wp2_with (at_lookup; refine at_mapI _ rfl _ _ rfl bF n _ rfl HMT3.out.i x rfl hwx ?_; rw [hfx])
    go_ret
    exact ⟨by rw [hfx]; cases c <;> rfl, by rw [HRX.out, hfx]; simpa using HJ3.out, HK3.out⟩
  case false =>
    have HXL1 := Lib.hid (HX1.out.alloc (.cells #[.int .i64 t, .bool d] 53))
    have HOL1 := Lib.hid (own_same HO1.out (fun g cs hh _ => (World.grownBy_alloc W1 (.cells #[.int .i64 t, .bool d] 53) none).block g (Array.getElem?_eq_some_iff.1 hh).1 (by simp)))
    have z1 := HX1.out.cell 0 _ rfl
    go_upto_region 3 with (at_lookup; refine at_mapI _ rfl _ _ rfl bF n _ rfl HMT.out.i x rfl hwx ?_; rw [hfx])
    go_upto_region 4 with (at_builtin; refine wpList_append_own_at _ rfl _ _ 26 rfl base 53 i0 (.agg #[.int .i64 0, .bool false]) 2 16 Tryz.underlying26 hi hz0 hz1 hz2 rfl (by decide) _ m1 ((r).flatMap kiC) rfl HOL1.out ⟨W1.heap.size, 0, none⟩ 1 1 [.int .i64 t, .bool d] rfl rfl (ki_new _ _ _) (by simp [Value.oneCell']) (by unfold maxLen; omega) (by omega) (by rw [World.size_alloc]; have := HBA1.out; omega) ?_; intro v1 wz1 hown1 hg1 _ hat1; obtain ⟨Az1, cz1, rfl⟩ := own_slice hown1; have HZ1 := Lib.hid hown1; have HG1 := Lib.hid hg1; have HAT1 := Lib.hid hat1; have HY1 := Lib.hid (HXL1.out.grown (by decide) HOL1.out hg1); have HW1 := Lib.hid ((HWY1.out.alloc (.cells #[.int .i64 t, .bool d] 53)).grown (by decide) HOL1.out hg1); have e1 := HY1.out.cell 0 _ rfl; have f1 := HY1.out.frozen 0; clear hown1 hg1 hat1)
    obtain ⟨Y1, hY1⟩ : ∃ W, W = wz1.setCell ⟨g3, 0, none⟩ (.slice Az1 (m1 + 1) cz1) := ⟨_, rfl⟩
    rw [← hY1]
    have HJ2 := Lib.hid (show RwJ Y1 gF bF n f g3 base (r ++ [(t, d)]) from by
      have h1 := HXL1.out
      have h2 := HOL1.out
      have h3 := HZ1.out
      have h4 := HG1.out
      rw [hY1]
      rw [HM1.out] at h1 h2 h3 h4 ⊢
      exact RwJ.put (HJ1.out.grown (World.grownBy_alloc W1 (.cells #[.int .i64 t, .bool d] 53) none)) h1 h2 h3 h4)
    have HK2 := Lib.hid (show KpM B N w Y1 from by
      rw [hY1]
      exact ((HK1.out.trans (KpM.grown HBW1.out (World.grownBy_alloc W1 (.cells #[.int .i64 t, .bool d] 53) none))).trans (KpM.app (by rw [World.size_alloc]; have := HBW1.out; omega) HOL1.out hBb HG1.out)).trans (KpM.set hB3 h3N _ _))
    have HBW2 := Lib.hid (show B ≤ Y1.heap.size from Nat.le_trans hBw HK2.out.2.size)
    have HBA2 := Lib.hid (show base ≤ Y1.heap.size from Nat.le_trans hbw HK2.out.2.size)
    have HX2 := Lib.hid (show BoxC Y1 g3 26 #[.slice Az1 (m1 + 1) cz1] from by rw [hY1]; exact HY1.out.set 0 _)
    have HO2 := Lib.hid (show Y1.ownsRow base 53 2 (.slice Az1 (m1 + 1) cz1) (m1 + 1) ((r ++ [(t, d)]).flatMap kiC) from by
      rw [hY1, show (r ++ [(t, d)]).flatMap kiC = (r).flatMap kiC ++ [.int .i64 t, .bool d] from by rw [List.flatMap_append]; rfl]
      exact own_box HZ1.out HY1.out (by decide) 0 _)
    have HWY2 := Lib.hid (show BoxC Y1 gw 58 #[.int .i64 x, .bool c] from by rw [hY1]; exact HW1.out.other HGN.out.2.1 0 _)
    have HYe1 := Lib.hid hY1
    clear e1 f1 hY1 z1
    (try clear y0 y1 y2)
    have y0 := HWY2.out.cell 0 _ rfl
    have y1 := HWY2.out.cell 1 _ rfl
    have y2 := HJ2.out.1.cell 0 _ rfl
    have HMT2 := Lib.hid HJ2.out.2.1
    clear q0 q1
    go_wp2_with (at_lookup; refine at_mapI _ rfl _ _ rfl bF n _ rfl HMT2.out.i x rfl hwx ?_; rw [hfx])
    go_ret
    exact ⟨by rw [hfx]; cases c <;> rfl, by rw [HRX.out, hfx]; simpa using HJ2.out, HK2.out⟩
end Go.Proofs.YtlpjgaeelnlipaaGreat
namespace Go.Proofs.YtlpjgaeelnlipaaGreat
open Go.RowKit
open CodM (St Pg)
open SlM
theorem info_row : (Tryz.prog.info? 73).map (fun i => (i.zero, i.size, i.bytes)) = some (some (.slice none 0 0), 1, 24) := by kernel_rfl
theorem info_stp : (Tryz.prog.info? 75).map (fun i => (i.zero, i.size, i.bytes)) = some (some (.agg #[.int .i64 0, .int .i64 0, .int .i64 0, .int .i64 0, .int .i64 0]), 5, 40) := by kernel_rfl
theorem made_rows (n : Nat) : (madeCells (Value.cells (.slice none 0 0)) (n * 1)).toList = List.replicate n (.slice none 0 0) := by
  rw [Nat.mul_one]; exact toList_madeCells_one _ _
def WSRel (w1 : World) (gm : Nat) (f : Int → Int → Bool) (x : St) (ths : List (List St)) (i : Value) (wr : World) : Prop :=
  ∃ (j : Nat) (vs : List Value) (gy : Nat) (yv : List Value), j ≤ ths.length ∧ i = .int .i64 j ∧ WS w1 75 73 stsCs gm ths.length gy yv vs vs (rowsAt (fun (t : Nat) => wthN (fun q => f (t : Int) (q : Int)) x (ths.getD t []) (ths.getD t []).length) [] ths.length j) wr
def VSRel (w1 : World) (gm : Nat) (f : Int → Int → Bool) (x : St) (ths : List (List St)) (ss : List St) (j : Nat) (i : Value) (wr : World) : Prop :=
  ∃ (k : Nat) (vs : List Value) (gy : Nat) (yv : List Value), k ≤ ss.length ∧ i = .int .i64 k ∧ WS w1 75 73 stsCs gm ths.length gy yv vs vs (rowsAt (fun (t : Nat) => wthN (fun q => f (t : Int) (q : Int)) x (ths.getD t []) (ths.getD t []).length) (wthN (fun q => f (j : Int) (q : Int)) x ss k) ths.length j) wr
set_option maxHeartbeats 8000000 in
set_option maxRecDepth 100000 in
theorem withs_any {B bp N : Nat} {v : Value} {ths : List (List St)} {f : Int → Int → Bool} (x : St) (w : World) (hv : Sss B w v ths) (hBB : B ≤ w.heap.size) (hm : MapP w bp N f) (hbp : bp < w.heap.size) (hl : ths.length ≤ 1000000) (hll : ∀ ss ∈ ths, ss.length ≤ 1000000) :
    Calls Tryz.prog 59 #[v, .map (some bp), .agg #[.int .i64 x.op, .int .i64 x.reg, .int .i64 x.loc, .int .i64 x.n, .int .i64 x.to]] w fun e w' => ∃ b vs, e = .returned (.slice (some ⟨b, 0, none⟩) ths.length ths.length) ∧ w'.ownsRow w.heap.size 73 1 (.slice (some ⟨b, 0, none⟩) ths.length ths.length) ths.length vs ∧
      RowsA w' w.heap.size 75 stsCs vs ((List.range ths.length).map (fun (t : Nat) => wthN (fun q => f (t : Int) (q : Int)) x (ths.getD t []) (ths.getD t []).length)) ∧ Below w.heap.size w w' := by
  have HLL := Lib.hid (fun (t : Nat) (ht : t < ths.length) => hll ths[t] (List.getElem_mem ht))
  obtain ⟨w1, hw1⟩ : ∃ W, W = w.alloc (.cells #[.int .i64 x.op, .int .i64 x.reg, .int .i64 x.loc, .int .i64 x.n, .int .i64 x.to] 75) := ⟨_, rfl⟩
  have hb1 : Below w.heap.size w w1 := by rw [hw1]; exact below_al (Below.refl _ w) _
  have HV := Lib.hid (hv.below (hb1.mono hBB))
  have HM1 := Lib.hid (hm.below hb1 hbp)
  have hbp1 : bp < w1.heap.size := Nat.lt_of_lt_of_le hbp hb1.size
  have hB1 : B ≤ w1.heap.size := Nat.le_trans hBB hb1.size
  have HX1 := Lib.hid (show StAt w1 w.heap.size 0 x from by
    rw [hw1]
    refine ⟨?_, ?_, ?_, ?_, ?_⟩ <;> (rw [World.cell?_alloc_at _ _ _ _ rfl]; rfl))
  obtain ⟨A0, c0, rfl, hc1, hc2, -⟩ := hv
  obtain ⟨A', c', e', -, -, hc3⟩ := HV.out
  simp only [Value.slice.injEq, true_and] at e'
  obtain ⟨rfl, rfl⟩ := e'
  unfold maxLen at hc2
  obtain ⟨ii, hii, hiz, his, hib⟩ := info_parts info_row
  obtain ⟨i0, hi0, hz0, hz1, hz2⟩ := info_parts info_stp
  obtain ⟨w2, hmk, hown2, hgr2⟩ := run_makeSlice_full (P := Tryz.prog) (w := w1) w1.heap.size 23 73 ii (.slice none 0 0) 1 Tryz.underlying23 hii hiz his .i64 .i64 ths.length (by omega) (by rw [hib]; omega) (by unfold maxLen; omega) (Nat.le_refl _)
  rw [made_rows] at hown2
  have hB2 : Below w1.heap.size w1 w2 := ⟨hgr2.os, hgr2.tape, hgr2.output, hgr2.size, fun k hk => hgr2.block k hk (by simp)⟩
  obtain ⟨gm, hgm⟩ : ∃ g, g = w1.heap.size := ⟨_, rfl⟩
  rw [← hgm] at hmk
  have HST := Lib.hid (show WS w1 75 73 stsCs gm ths.length bp [] (List.replicate ths.length (.slice none 0 0)) (List.replicate ths.length (.slice none 0 0)) (rowsAt (fun (t : Nat) => wthN (fun q => f (t : Int) (q : Int)) x (ths.getD t []) (ths.getD t []).length) [] ths.length 0) w2 from by
    rw [rowsAt_zero, hgm]
    exact ⟨hown2, RowsA.made _ _ _ _ rfl _, fun i v h => (by cases h), ⟨(by omega), fun j u h => by
      rw [List.getElem?_replicate] at h
      split at h
      · injection h with h; subst h; simp [Value.ownBlock]
      · cases h⟩, Nat.lt_of_lt_of_le hbp1 hB2.size, hB2⟩)
  have HBS := Lib.hid hb1
  rw [hw1] at hmk
  have HW1 := Lib.hid hw1
  clear hw1 hb1 hown2 hgr2 hB2 hgm
  go_enter Tryz.func59, Tryz.ntmps59
  go_wp2
  go_loopw [17] (fun i wr => WSRel w1 gm f x ths i wr) (fun i _ => ths.length - (intOf i).toNat)
  case atStart => exact ⟨0, _, bp, [], Nat.zero_le _, rfl, HST.out⟩
  case round =>
    obtain ⟨j, vs, gy0, yv, hj, rfl, hW⟩ := hrel
    by_cases hlt : j < ths.length
    · obtain ⟨b1, f1, rfl, hb1, hcl⟩ := hc3 (by omega)
      obtain ⟨vv, hvs, hsts⟩ := hcl j hlt
      have hvs' := (hW.below.cell (p := ⟨b1, f1 + j, none⟩) (show b1 < _ by omega)).trans hvs
      obtain ⟨A1, c1, rfl, hd1, hd2, hd3⟩ := hsts
      have hlen := HLL.out j hlt
      unfold maxLen at hd2
      have HFU := Lib.hid (show rowsAt (fun (t : Nat) => wthN (fun q => f (t : Int) (q : Int)) x (ths.getD t []) (ths.getD t []).length) (wthN (fun q => f (j : Int) (q : Int)) x ths[j] ths[j].length) ths.length j = rowsAt (fun (t : Nat) => wthN (fun q => f (t : Int) (q : Int)) x (ths.getD t []) (ths.getD t []).length) [] ths.length (j + 1) by rw [← rowsAt_next]; simp only [SlM.getD_at hlt])
      generalize ths[j] = ss at *
      clear hcl hvs
      go_wp2
      go_loopw [24] (fun i wr => VSRel w1 gm f x ths ss j i wr) (fun i _ => ss.length - (intOf i).toNat)
      case atStart => exact ⟨0, vs, gy0, yv, Nat.zero_le _, rfl, hW⟩
      case round =>
        clear hW hvs'
        obtain ⟨k, vs, gy0, yv, hk, rfl, hW⟩ := hrel
        by_cases hlt2 : k < ss.length
        · obtain ⟨b2, f2, rfl, hb2, hst⟩ := hd3 (by omega)
          obtain ⟨z0, z1, z2, z3, z4⟩ := (hst k hlt2).below hW.below (by omega)
          have HPN := Lib.hid ((show wthN (fun q => f (j : Int) (q : Int)) x ss (k + 1) = wthN (fun q => f (j : Int) (q : Int)) x ss k ++ ((if f (j : Int) (k : Int) then [x] else []) ++ [ss[k]]) from wthN_next _ x ss k hlt2))
          generalize ss[k] = y at *
          clear hst
          have hws := hW.below.size
          have hb2' : b2 < wr.heap.size := by omega
          have wj : (Lit.int .i64 (j : Int)).wf = true := WalkArith.wf_i64 (by omega)
          have wk : (Lit.int .i64 (k : Int)).wf = true := WalkArith.wf_i64 (by omega)
          have HMw := Lib.hid ((HM1.out.below hW.below (by omega)).kept (World.grownBy_alloc wr (.cells #[.int .i64 y.op, .int .i64 y.reg, .int .i64 y.loc, .int .i64 y.n, .int .i64 y.to] 75) none) (by simp))
          have HW0 := Lib.hid (hW.box [.int .i64 y.op, .int .i64 y.reg, .int .i64 y.loc, .int .i64 y.n, .int .i64 y.to] 75)
          obtain ⟨fk, hfk⟩ : ∃ b, f (j : Int) (k : Int) = b := ⟨_, rfl⟩
          go_upto_if 33 with (at_lookup; refine at_mapP _ rfl _ _ rfl bp N _ rfl HMw.out (j : Int) (k : Int) rfl wj wk ?_; rw [hfk]; go_frame)
          have hlk : (wthN (fun q => f (j : Int) (q : Int)) x ss k).length ≤ 2000000 := by have := wthN_len (fun q => f (j : Int) (q : Int)) x ss k; omega
          generalize wthN (fun q => f (j : Int) (q : Int)) x ss k = pt at *
          obtain ⟨gy, hgy⟩ : ∃ g, g = wr.heap.size := ⟨_, rfl⟩
          obtain ⟨WW, hWW⟩ : ∃ W, W = wr.alloc (.cells #[.int .i64 y.op, .int .i64 y.reg, .int .i64 y.loc, .int .i64 y.n, .int .i64 y.to] 75) := ⟨_, rfl⟩
          have HW0 := Lib.hid (show WS w1 75 73 stsCs gm ths.length gy (stCs y) vs vs (rowsAt (fun (t : Nat) => wthN (fun q => f (t : Int) (q : Int)) x (ths.getD t []) (ths.getD t []).length) pt ths.length j) WW from by rw [hgy, hWW]; exact HW0.out)
          rw [← hWW, ← hgy]
          rw [hfk] at HPN
          clear hWW hgy HMw hW z0 z1 z2 z3 z4 hws hb2' wj wk hfk
          go_cut [] (fun wx => ∃ vs', WS w1 75 73 stsCs gm ths.length gy (stCs y) vs' vs' (rowsAt (fun (t : Nat) => wthN (fun q => f (t : Int) (q : Int)) x (ths.getD t []) (ths.getD t []).length) (pt ++ (if fk then [x] else [])) ths.length j) wx)
          case first =>
            cases fk
            · go_wp2_with fail
              go_meet
              exact ⟨vs, by simpa using HW0.out⟩
            · go_upto_region 9 with fail
              obtain ⟨Au, cu, huM, hOW⟩ := HW0.out.row hlt
              generalize hN : pt.length = N at huM hOW
              have HNL := Lib.hid (show (pt ++ [x]).length = N + 1 by simp [hN])
              have HCS := Lib.hid (show stsCs (pt ++ [x]) = stsCs pt ++ stCs x by rw [stsCs_app]; rfl)
              have hNb : N ≤ 3000000 := by omega
              have HRS := Lib.hid (fun q => rowsAt_set (fun (t : Nat) => wthN (fun q => f (t : Int) (q : Int)) x (ths.getD t []) (ths.getD t []).length) pt q hlt)
              have HOW := Lib.hid hOW
              have HON := Lib.hid (show ∀ u ∈ stCs x, u.oneCell' = true from fun u hu => stsCs_one [x] u (by simpa [stsCs] using hu))
              have HP := Lib.hid (fun (vm vr : List Value) (xss : List (List St)) (W : World) (h : WS w1 75 73 stsCs gm ths.length gy (stCs y) vm vr xss W) => (show ((W.cell? ⟨w.heap.size, 0, none⟩ = some (.int .i64 x.op) ∧ W.cell? ⟨w.heap.size, 1, none⟩ = some (.int .i64 x.reg) ∧ W.cell? ⟨w.heap.size, 2, none⟩ = some (.int .i64 x.loc) ∧ W.cell? ⟨w.heap.size, 3, none⟩ = some (.int .i64 x.n) ∧ W.cell? ⟨w.heap.size, 4, none⟩ = some (.int .i64 x.to)) ∧ Below w1.heap.size w1 W) from ⟨⟨kc h.below HX1.out.1, kc h.below HX1.out.2.1, kc h.below HX1.out.2.2.1, kc h.below HX1.out.2.2.2.1, kc h.below HX1.out.2.2.2.2⟩, h.below⟩))
              have hzt : (0 : Int) ≤ (j : Int) := by omega
              have hzt2 : (j : Int) < (ths.length : Int) := by omega
              have hjn := hlt
              obtain ⟨RS, hRS⟩ : ∃ r, r = rowsAt (fun (t : Nat) => wthN (fun q => f (t : Int) (q : Int)) x (ths.getD t []) (ths.getD t []).length) pt ths.length j := ⟨_, rfl⟩
              rw [← hRS] at HW0 HRS HOW
              clear hOW hN hRS
              refine wp_region_held_drew (S := (fun w' => (w'.cell? ⟨w.heap.size, 0, none⟩ = some (.int .i64 x.op) ∧ w'.cell? ⟨w.heap.size, 1, none⟩ = some (.int .i64 x.reg) ∧ w'.cell? ⟨w.heap.size, 2, none⟩ = some (.int .i64 x.loc) ∧ w'.cell? ⟨w.heap.size, 3, none⟩ = some (.int .i64 x.n) ∧ w'.cell? ⟨w.heap.size, 4, none⟩ = some (.int .i64 x.to)) ∧ Below w1.heap.size w1 w')) (by kernel_rfl) (HP.out _ _ _ _ HW0.out.drew) (fun hHeld => ?_)
              obtain ⟨X0, hX0⟩ : ∃ W, W = WW.drew := ⟨_, rfl⟩
              have HWX0 := Lib.hid (show WS w1 75 73 stsCs gm ths.length gy (stCs y) vs vs RS X0 from by rw [hX0]; exact HW0.out.drew)
              rw [← hX0] at hHeld ⊢
              clear hX0
              refine wtk 0 ?_ ?_ ?_
              rotate_left
              · intro w hSw; (try dsimp only at hSw); go_simp; (try with_reducible rfl)
              (try simp only [Act.put, pt8])
              refine wtk 1 ?_ ?_ ?_
              rotate_left
              · intro w hSw; (try dsimp only at hSw); go_simp; (try with_reducible rfl)
              (try simp only [Act.put, pt8])
              refine wtk 2 ?_ ?_ ?_
              rotate_left
              · intro w hSw; (try dsimp only at hSw); go_simp; (try with_reducible rfl)
              (try simp only [Act.put, pt8])
              refine wtk 3 ?_ ?_ ?_
              rotate_left
              · intro w hSw; (try dsimp only at hSw); go_simp; (try with_reducible rfl)
              (try simp only [Act.put, pt8])
              refine wtk 4 ?_ ?_ ?_
              rotate_left
              · intro w hSw; (try dsimp only at hSw); go_simp; (try with_reducible rfl)
              (try simp only [Act.put, pt8])
              refine wtk 6 ?_ ?_ ?_
              rotate_left
              · intro w hSw; (try dsimp only at hSw); go_simp; (try with_reducible rfl)
              (try simp only [Act.put, pt8])
              refine wpAnyH_ready (rs := [5, 7]) (by kernel_rfl) (by simp) ?_
              refine AllReadyH.cons rfl (fun K hK => ?_) (AllReadyH.cons rfl (fun K hK => ?_) (AllReadyH.nil))
              · -- 5 first
                have c39 := HWX0.out.load hjn huM
                go_simp
                refine hK.out _ _ (HP.out _ _ _ _ HWX0.out) (fun hHeld => ?_)
                clear hK K
                (try simp only [Act.put, pt8])
                clear c39
                refine wpAnyH_ready (rs := [7]) (by kernel_rfl) (by simp) ?_
                refine AllReadyH.cons rfl (fun K hK => ?_) AllReadyH.nil
                go_simp
                refine hK.out _ _ (HP.out _ _ _ _ (HWX0.out.alloc (.cells #[.int .i64 x.op, .int .i64 x.reg, .int .i64 x.loc, .int .i64 x.n, .int .i64 x.to] 75))) (fun hHeld => ?_)
                clear hK K
                (try simp only [Act.put, pt8])
                obtain ⟨X7, hX7⟩ : ∃ W, W = X0.alloc (.cells #[.int .i64 x.op, .int .i64 x.reg, .int .i64 x.loc, .int .i64 x.n, .int .i64 x.to] 75) := ⟨_, rfl⟩
                have HWX7 := Lib.hid (show WS w1 75 73 stsCs gm ths.length gy (stCs y) vs vs RS X7 from by rw [hX7]; exact HWX0.out.alloc _)
                have HF := Lib.hid (fun (i : Nat) (u : Value) (h : (stCs x)[i]? = some u) => (show X7.cell? ⟨X0.heap.size, i, none⟩ = some u from by
                  have e := World.news_of_block (heap_alloc_new X0 (.cells #[.int .i64 x.op, .int .i64 x.reg, .int .i64 x.loc, .int .i64 x.n, .int .i64 x.to] 75)) i u h
                  rw [Addr.add_lit, Nat.zero_add] at e
                  rw [hX7]; exact e))
                rw [← hX7] at hHeld ⊢
                clear hX7
                refine wpAnyH_ready (rs := [8]) (by kernel_rfl) (by simp) ?_
                refine AllReadyH.cons rfl (fun K hK => ?_) AllReadyH.nil
                refine step_append_at (by rfl) _ _ _ (by rfl) w1.heap.size 75 i0 (.agg #[.int .i64 0, .int .i64 0, .int .i64 0, .int .i64 0, .int .i64 0]) 5 40 Tryz.underlying73 hi0 hz0 hz1 hz2 (by rfl) (by decide) _ N (stsCs pt) (by rfl) (HOW.out _ _ _ _ HWX7.out) ⟨X0.heap.size, 0, none⟩ 1 1 (stCs x) (by rfl) (by rfl) (fun i u h => by rw [Addr.add_lit, Nat.zero_add]; exact HF.out i u h) (HON.out) (by unfold maxLen; omega) (by omega) HWX7.out.below.size (fun v8 w8 hown8 hg8 hat8 => ?_)
                obtain ⟨A8, c8, rfl⟩ := own_slice hown8
                have HWw8 := Lib.hid (show WS w1 75 73 stsCs gm ths.length gy (stCs y) vs (vs.set j (.slice A8 (N + 1) c8)) (RS.set j (pt ++ [x])) w8 from HWX7.out.append (by decide) huM (by rw [HNL.out, HCS.out]; exact hown8) hg8 hat8)
                clear hown8 hg8 hat8 HF
                refine hK.out _ _ (HP.out _ _ _ _ HWw8.out) (fun hHeld => ?_)
                clear hK K
                (try simp only [Act.put, pt8])
                refine wtk 9 ?_ ?_ ?_
                rotate_left
                · intro w hSw; (try dsimp only at hSw); go_simp; (try with_reducible rfl)
                (try simp only [Act.put, pt8])
                refine wpAnyH_ready (rs := [10]) (by kernel_rfl) (by simp) ?_
                refine AllReadyH.cons rfl (fun K hK => ?_) AllReadyH.nil
                have c9 := HWw8.out.load hjn huM
                have f9 := HWw8.out.frz j
                go_simp
                have HW9 := Lib.hid (HWw8.out.store (by decide) rfl)
                refine hK.out _ _ (HP.out _ _ _ _ HW9.out) (fun hHeld => ?_)
                clear hK K
                (try simp only [Act.put, pt8])
                refine wpAnyH_done (by kernel_rfl) ?_ _
                clear c9 f9 hHeld
                go_wp2_with fail
                go_meet
                exact ⟨_, by simp only [if_true]; rw [← HRS.out]; exact HW9.out⟩
              · -- 7 first
                go_simp
                refine hK.out _ _ (HP.out _ _ _ _ (HWX0.out.alloc (.cells #[.int .i64 x.op, .int .i64 x.reg, .int .i64 x.loc, .int .i64 x.n, .int .i64 x.to] 75))) (fun hHeld => ?_)
                clear hK K
                (try simp only [Act.put, pt8])
                obtain ⟨X7, hX7⟩ : ∃ W, W = X0.alloc (.cells #[.int .i64 x.op, .int .i64 x.reg, .int .i64 x.loc, .int .i64 x.n, .int .i64 x.to] 75) := ⟨_, rfl⟩
                have HWX7 := Lib.hid (show WS w1 75 73 stsCs gm ths.length gy (stCs y) vs vs RS X7 from by rw [hX7]; exact HWX0.out.alloc _)
                have HF := Lib.hid (fun (i : Nat) (u : Value) (h : (stCs x)[i]? = some u) => (show X7.cell? ⟨X0.heap.size, i, none⟩ = some u from by
                  have e := World.news_of_block (heap_alloc_new X0 (.cells #[.int .i64 x.op, .int .i64 x.reg, .int .i64 x.loc, .int .i64 x.n, .int .i64 x.to] 75)) i u h
                  rw [Addr.add_lit, Nat.zero_add] at e
                  rw [hX7]; exact e))
                rw [← hX7] at hHeld ⊢
                clear hX7
                refine wpAnyH_ready (rs := [5]) (by kernel_rfl) (by simp) ?_
                refine AllReadyH.cons rfl (fun K hK => ?_) AllReadyH.nil
                have c39 := HWX7.out.load hjn huM
                go_simp
                refine hK.out _ _ (HP.out _ _ _ _ HWX7.out) (fun hHeld => ?_)
                clear hK K
                (try simp only [Act.put, pt8])
                clear c39
                refine wpAnyH_ready (rs := [8]) (by kernel_rfl) (by simp) ?_
                refine AllReadyH.cons rfl (fun K hK => ?_) AllReadyH.nil
                refine step_append_at (by rfl) _ _ _ (by rfl) w1.heap.size 75 i0 (.agg #[.int .i64 0, .int .i64 0, .int .i64 0, .int .i64 0, .int .i64 0]) 5 40 Tryz.underlying73 hi0 hz0 hz1 hz2 (by rfl) (by decide) _ N (stsCs pt) (by rfl) (HOW.out _ _ _ _ HWX7.out) ⟨X0.heap.size, 0, none⟩ 1 1 (stCs x) (by rfl) (by rfl) (fun i u h => by rw [Addr.add_lit, Nat.zero_add]; exact HF.out i u h) (HON.out) (by unfold maxLen; omega) (by omega) HWX7.out.below.size (fun v8 w8 hown8 hg8 hat8 => ?_)
                obtain ⟨A8, c8, rfl⟩ := own_slice hown8
                have HWw8 := Lib.hid (show WS w1 75 73 stsCs gm ths.length gy (stCs y) vs (vs.set j (.slice A8 (N + 1) c8)) (RS.set j (pt ++ [x])) w8 from HWX7.out.append (by decide) huM (by rw [HNL.out, HCS.out]; exact hown8) hg8 hat8)
                clear hown8 hg8 hat8 HF
                refine hK.out _ _ (HP.out _ _ _ _ HWw8.out) (fun hHeld => ?_)
                clear hK K
                (try simp only [Act.put, pt8])
                refine wtk 9 ?_ ?_ ?_
                rotate_left
                · intro w hSw; (try dsimp only at hSw); go_simp; (try with_reducible rfl)
                (try simp only [Act.put, pt8])
                refine wpAnyH_ready (rs := [10]) (by kernel_rfl) (by simp) ?_
                refine AllReadyH.cons rfl (fun K hK => ?_) AllReadyH.nil
                have c9 := HWw8.out.load hjn huM
                have f9 := HWw8.out.frz j
                go_simp
                have HW9 := Lib.hid (HWw8.out.store (by decide) rfl)
                refine hK.out _ _ (HP.out _ _ _ _ HW9.out) (fun hHeld => ?_)
                clear hK K
                (try simp only [Act.put, pt8])
                refine wpAnyH_done (by kernel_rfl) ?_ _
                clear c9 f9 hHeld
                go_wp2_with fail
                go_meet
                exact ⟨_, by simp only [if_true]; rw [← HRS.out]; exact HW9.out⟩
          case rest =>
            obtain ⟨vs1, hcut1⟩ := hcut
            clear HW0
            have HW0 := Lib.hid hcut1
            have HPN2 := Lib.hid (show wthN (fun q => f (j : Int) (q : Int)) x ss (k + 1) = (pt ++ (if fk then [x] else [])) ++ [y] by rw [HPN.out, List.append_assoc])
            have hlk2 : (pt ++ (if fk then [x] else [])).length ≤ 2000001 := by rw [List.length_append]; split <;> simp <;> omega
            generalize pt ++ (if fk then [x] else []) = pt at *
            generalize vs1 = vs at *
            generalize wc = WW at *
            clear hcut1 hlk HPN
            go_upto_region 10 with fail
            obtain ⟨Au, cu, huM, hOW⟩ := HW0.out.row hlt
            generalize hN : pt.length = N at huM hOW
            have HNL := Lib.hid (show (pt ++ [y]).length = N + 1 by simp [hN])
            have HCS := Lib.hid (show stsCs (pt ++ [y]) = stsCs pt ++ stCs y by rw [stsCs_app]; rfl)
            have hNb : N ≤ 3000000 := by omega
            have HRS := Lib.hid (fun q => rowsAt_set (fun (t : Nat) => wthN (fun q => f (t : Int) (q : Int)) x (ths.getD t []) (ths.getD t []).length) pt q hlt)
            have HOW := Lib.hid hOW
            have HON := Lib.hid (show ∀ u ∈ stCs y, u.oneCell' = true from fun u hu => stsCs_one [y] u (by simpa [stsCs] using hu))
            have HP := Lib.hid (fun (vm vr : List Value) (xss : List (List St)) (W : World) (h : WS w1 75 73 stsCs gm ths.length gy (stCs y) vm vr xss W) => (show ((W.cell? ⟨gy, 0, none⟩ = some (.int .i64 y.op) ∧ W.cell? ⟨gy, 1, none⟩ = some (.int .i64 y.reg) ∧ W.cell? ⟨gy, 2, none⟩ = some (.int .i64 y.loc) ∧ W.cell? ⟨gy, 3, none⟩ = some (.int .i64 y.n) ∧ W.cell? ⟨gy, 4, none⟩ = some (.int .i64 y.to)) ∧ Below w1.heap.size w1 W) from ⟨⟨h.y 0 _ rfl, h.y 1 _ rfl, h.y 2 _ rfl, h.y 3 _ rfl, h.y 4 _ rfl⟩, h.below⟩))
            have hzt : (0 : Int) ≤ (j : Int) := by omega
            have hzt2 : (j : Int) < (ths.length : Int) := by omega
            have hjn := hlt
            obtain ⟨RS, hRS⟩ : ∃ r, r = rowsAt (fun (t : Nat) => wthN (fun q => f (t : Int) (q : Int)) x (ths.getD t []) (ths.getD t []).length) pt ths.length j := ⟨_, rfl⟩
            rw [← hRS] at HW0 HRS HOW
            clear hOW hN hRS
            refine wp_region_held_drew (S := (fun w' => (w'.cell? ⟨gy, 0, none⟩ = some (.int .i64 y.op) ∧ w'.cell? ⟨gy, 1, none⟩ = some (.int .i64 y.reg) ∧ w'.cell? ⟨gy, 2, none⟩ = some (.int .i64 y.loc) ∧ w'.cell? ⟨gy, 3, none⟩ = some (.int .i64 y.n) ∧ w'.cell? ⟨gy, 4, none⟩ = some (.int .i64 y.to)) ∧ Below w1.heap.size w1 w')) (by kernel_rfl) (HP.out _ _ _ _ HW0.out.drew) (fun hHeld => ?_)
            obtain ⟨X0, hX0⟩ : ∃ W, W = WW.drew := ⟨_, rfl⟩
            have HWX0 := Lib.hid (show WS w1 75 73 stsCs gm ths.length gy (stCs y) vs vs RS X0 from by rw [hX0]; exact HW0.out.drew)
            rw [← hX0] at hHeld ⊢
            clear hX0
            refine wtk 0 ?_ ?_ ?_
            rotate_left
            · intro w hSw; (try dsimp only at hSw); go_simp; (try with_reducible rfl)
            (try simp only [Act.put, pt8])
            refine wtk 1 ?_ ?_ ?_
            rotate_left
            · intro w hSw; (try dsimp only at hSw); go_simp; (try with_reducible rfl)
            (try simp only [Act.put, pt8])
            refine wtk 2 ?_ ?_ ?_
            rotate_left
            · intro w hSw; (try dsimp only at hSw); go_simp; (try with_reducible rfl)
            (try simp only [Act.put, pt8])
            refine wtk 3 ?_ ?_ ?_
            rotate_left
            · intro w hSw; (try dsimp only at hSw); go_simp; (try with_reducible rfl)
            (try simp only [Act.put, pt8])
            refine wtk 4 ?_ ?_ ?_
            rotate_left
            · intro w hSw; (try dsimp only at hSw); go_simp; (try with_reducible rfl)
            (try simp only [Act.put, pt8])
            refine wtk 6 ?_ ?_ ?_
            rotate_left
            · intro w hSw; (try dsimp only at hSw); go_simp; (try with_reducible rfl)
            (try simp only [Act.put, pt8])
            refine wpAnyH_ready (rs := [5, 7]) (by kernel_rfl) (by simp) ?_
            refine AllReadyH.cons rfl (fun K hK => ?_) (AllReadyH.cons rfl (fun K hK => ?_) (AllReadyH.nil))
            · -- 5 first
              have c39 := HWX0.out.load hjn huM
              go_simp
              refine hK.out _ _ (HP.out _ _ _ _ HWX0.out) (fun hHeld => ?_)
              clear hK K
              (try simp only [Act.put, pt8])
              clear c39
              refine wpAnyH_ready (rs := [7]) (by kernel_rfl) (by simp) ?_
              refine AllReadyH.cons rfl (fun K hK => ?_) AllReadyH.nil
              go_simp
              refine hK.out _ _ (HP.out _ _ _ _ (HWX0.out.alloc (.cells #[.int .i64 y.op, .int .i64 y.reg, .int .i64 y.loc, .int .i64 y.n, .int .i64 y.to] 75))) (fun hHeld => ?_)
              clear hK K
              (try simp only [Act.put, pt8])
              obtain ⟨X7, hX7⟩ : ∃ W, W = X0.alloc (.cells #[.int .i64 y.op, .int .i64 y.reg, .int .i64 y.loc, .int .i64 y.n, .int .i64 y.to] 75) := ⟨_, rfl⟩
              have HWX7 := Lib.hid (show WS w1 75 73 stsCs gm ths.length gy (stCs y) vs vs RS X7 from by rw [hX7]; exact HWX0.out.alloc _)
              have HF := Lib.hid (fun (i : Nat) (u : Value) (h : (stCs y)[i]? = some u) => (show X7.cell? ⟨X0.heap.size, i, none⟩ = some u from by
                have e := World.news_of_block (heap_alloc_new X0 (.cells #[.int .i64 y.op, .int .i64 y.reg, .int .i64 y.loc, .int .i64 y.n, .int .i64 y.to] 75)) i u h
                rw [Addr.add_lit, Nat.zero_add] at e
                rw [hX7]; exact e))
              rw [← hX7] at hHeld ⊢
              clear hX7
              refine wpAnyH_ready (rs := [8]) (by kernel_rfl) (by simp) ?_
              refine AllReadyH.cons rfl (fun K hK => ?_) AllReadyH.nil
              refine step_append_at (by rfl) _ _ _ (by rfl) w1.heap.size 75 i0 (.agg #[.int .i64 0, .int .i64 0, .int .i64 0, .int .i64 0, .int .i64 0]) 5 40 Tryz.underlying73 hi0 hz0 hz1 hz2 (by rfl) (by decide) _ N (stsCs pt) (by rfl) (HOW.out _ _ _ _ HWX7.out) ⟨X0.heap.size, 0, none⟩ 1 1 (stCs y) (by rfl) (by rfl) (fun i u h => by rw [Addr.add_lit, Nat.zero_add]; exact HF.out i u h) (HON.out) (by unfold maxLen; omega) (by omega) HWX7.out.below.size (fun v8 w8 hown8 hg8 hat8 => ?_)
              obtain ⟨A8, c8, rfl⟩ := own_slice hown8
              have HWw8 := Lib.hid (show WS w1 75 73 stsCs gm ths.length gy (stCs y) vs (vs.set j (.slice A8 (N + 1) c8)) (RS.set j (pt ++ [y])) w8 from HWX7.out.append (by decide) huM (by rw [HNL.out, HCS.out]; exact hown8) hg8 hat8)
              clear hown8 hg8 hat8 HF
              refine hK.out _ _ (HP.out _ _ _ _ HWw8.out) (fun hHeld => ?_)
              clear hK K
              (try simp only [Act.put, pt8])
              refine wtk 9 ?_ ?_ ?_
              rotate_left
              · intro w hSw; (try dsimp only at hSw); go_simp; (try with_reducible rfl)
              (try simp only [Act.put, pt8])
              refine wpAnyH_ready (rs := [10]) (by kernel_rfl) (by simp) ?_
              refine AllReadyH.cons rfl (fun K hK => ?_) AllReadyH.nil
              have c9 := HWw8.out.load hjn huM
              have f9 := HWw8.out.frz j
              go_simp
              have HW9 := Lib.hid (HWw8.out.store (by decide) rfl)
              refine hK.out _ _ (HP.out _ _ _ _ HW9.out) (fun hHeld => ?_)
              clear hK K
              (try simp only [Act.put, pt8])
              refine wpAnyH_done (by kernel_rfl) ?_ _
              clear c9 f9 hHeld
              go_wp2_with fail
              go_roundw
              case rel => exact ⟨k + 1, _, gy, _, by omega, by go_num, by rw [HPN2.out, ← HRS.out]; exact HW9.out⟩
              case measure => simp [intOf]; omega
            · -- 7 first
              go_simp
              refine hK.out _ _ (HP.out _ _ _ _ (HWX0.out.alloc (.cells #[.int .i64 y.op, .int .i64 y.reg, .int .i64 y.loc, .int .i64 y.n, .int .i64 y.to] 75))) (fun hHeld => ?_)
              clear hK K
              (try simp only [Act.put, pt8])
              obtain ⟨X7, hX7⟩ : ∃ W, W = X0.alloc (.cells #[.int .i64 y.op, .int .i64 y.reg, .int .i64 y.loc, .int .i64 y.n, .int .i64 y.to] 75) := ⟨_, rfl⟩
              have HWX7 := Lib.hid (show WS w1 75 73 stsCs gm ths.length gy (stCs y) vs vs RS X7 from by rw [hX7]; exact HWX0.out.alloc _)
              have HF := Lib.hid (fun (i : Nat) (u : Value) (h : (stCs y)[i]? = some u) => (show X7.cell? ⟨X0.heap.size, i, none⟩ = some u from by
                have e := World.news_of_block (heap_alloc_new X0 (.cells #[.int .i64 y.op, .int .i64 y.reg, .int .i64 y.loc, .int .i64 y.n, .int .i64 y.to] 75)) i u h
                rw [Addr.add_lit, Nat.zero_add] at e
                rw [hX7]; exact e))
              rw [← hX7] at hHeld ⊢
              clear hX7
              refine wpAnyH_ready (rs := [5]) (by kernel_rfl) (by simp) ?_
              refine AllReadyH.cons rfl (fun K hK => ?_) AllReadyH.nil
              have c39 := HWX7.out.load hjn huM
              go_simp
              refine hK.out _ _ (HP.out _ _ _ _ HWX7.out) (fun hHeld => ?_)
              clear hK K
              (try simp only [Act.put, pt8])
              clear c39
              refine wpAnyH_ready (rs := [8]) (by kernel_rfl) (by simp) ?_
              refine AllReadyH.cons rfl (fun K hK => ?_) AllReadyH.nil
              refine step_append_at (by rfl) _ _ _ (by rfl) w1.heap.size 75 i0 (.agg #[.int .i64 0, .int .i64 0, .int .i64 0, .int .i64 0, .int .i64 0]) 5 40 Tryz.underlying73 hi0 hz0 hz1 hz2 (by rfl) (by decide) _ N (stsCs pt) (by rfl) (HOW.out _ _ _ _ HWX7.out) ⟨X0.heap.size, 0, none⟩ 1 1 (stCs y) (by rfl) (by rfl) (fun i u h => by rw [Addr.add_lit, Nat.zero_add]; exact HF.out i u h) (HON.out) (by unfold maxLen; omega) (by omega) HWX7.out.below.size (fun v8 w8 hown8 hg8 hat8 => ?_)
              obtain ⟨A8, c8, rfl⟩ := own_slice hown8
              have HWw8 := Lib.hid (show WS w1 75 73 stsCs gm ths.length gy (stCs y) vs (vs.set j (.slice A8 (N + 1) c8)) (RS.set j (pt ++ [y])) w8 from HWX7.out.append (by decide) huM (by rw [HNL.out, HCS.out]; exact hown8) hg8 hat8)
              clear hown8 hg8 hat8 HF
              refine hK.out _ _ (HP.out _ _ _ _ HWw8.out) (fun hHeld => ?_)
              clear hK K
              (try simp only [Act.put, pt8])
              refine wtk 9 ?_ ?_ ?_
              rotate_left
              · intro w hSw; (try dsimp only at hSw); go_simp; (try with_reducible rfl)
              (try simp only [Act.put, pt8])
              refine wpAnyH_ready (rs := [10]) (by kernel_rfl) (by simp) ?_
              refine AllReadyH.cons rfl (fun K hK => ?_) AllReadyH.nil
              have c9 := HWw8.out.load hjn huM
              have f9 := HWw8.out.frz j
              go_simp
              have HW9 := Lib.hid (HWw8.out.store (by decide) rfl)
              refine hK.out _ _ (HP.out _ _ _ _ HW9.out) (fun hHeld => ?_)
              clear hK K
              (try simp only [Act.put, pt8])
              refine wpAnyH_done (by kernel_rfl) ?_ _
              clear c9 f9 hHeld
              go_wp2_with fail
              go_roundw
              case rel => exact ⟨k + 1, _, gy, _, by omega, by go_num, by rw [HPN2.out, ← HRS.out]; exact HW9.out⟩
              case measure => simp [intOf]; omega
        · obtain rfl : ss.length = k := by omega
          go_wp2
          go_roundw
          case rel => exact ⟨j + 1, vs, gy0, yv, by omega, by go_num, by rw [← HFU.out]; exact hW⟩
          case measure => simp [intOf]; omega
    · obtain rfl : ths.length = j := by omega
      rw [rowsAt_end] at hW
      go_wp2
      go_ret
      exact ⟨gm, vs, rfl, own_base hW.more HBS.out.size, ⟨hW.rows.len, fun i hi => by obtain ⟨u, h1, h2⟩ := hW.rows.own i hi; exact ⟨u, h1, own_base h2 HBS.out.size⟩, hW.rows.apart⟩, HBS.out.trans (hW.below.mono HBS.out.size)⟩
end Go.Proofs.YtlpjgaeelnlipaaGreat
namespace Go.Proofs.YtlpjgaeelnlipaaGreat
open Go.RowKit
open CodM (St Pg)
open SlM
set_option maxRecDepth 100000
section
variable (w : World) {ops : Array Oper} {rest : List Oper} {o : Oper} {a : Act} {Q : Exit → Act → World → Prop}
end
end Go.Proofs.YtlpjgaeelnlipaaGreat
namespace Go.Proofs.YtlpjgaeelnlipaaGreat
open Go.RowKit
open WordM (L)
open CodM (St Pg)
open VM (Fl)
open SlM

section
variable {A : Type} {one : A → List Value} {s : Nat}
theorem flat_len (h : ∀ a, (one a).length = s) : ∀ l : List A, (l.flatMap one).length = l.length * s
  | [] => by simp
  | a :: r => by rw [List.flatMap_cons, List.length_append, h a, flat_len h r, List.length_cons, Nat.succ_mul, Nat.add_comm]
theorem flat_at (h : ∀ a, (one a).length = s) : ∀ (l : List A) (j i : Nat) (hj : j < l.length), i < s → (l.flatMap one)[j * s + i]? = (one l[j])[i]?
  | [], j, i, hj, _ => absurd hj (Nat.not_lt_zero j)
  | a :: r, 0, i, hj, hi => by rw [List.flatMap_cons, Nat.zero_mul, Nat.zero_add, List.getElem?_append_left (by rw [h a]; exact hi)]; rfl
  | a :: r, j + 1, i, hj, hi => by
    rw [List.flatMap_cons, List.getElem?_append_right (by rw [h a, Nat.succ_mul]; omega), h a, show (j + 1) * s + i - s = j * s + i by rw [Nat.succ_mul]; omega, flat_at h r j i (by simpa using hj) hi]; rfl
theorem flat_src (hs : 0 < s) (h : ∀ a, (one a).length = s) {w : World} {b f : Nat} {l : List A} (hc : ∀ j (hj : j < l.length) i, i < s → w.cell? ⟨b, f + j * s + i, none⟩ = (one l[j])[i]?) : ∀ (q : Nat) (u : Value), (l.flatMap one)[q]? = some u → w.cell? ⟨b, f + q, none⟩ = some u := by
  intro q u hu
  have hq : q < l.length * s := by rw [← flat_len h]; exact (List.getElem?_eq_some_iff.1 hu).1
  have h1 : q / s < l.length := (Nat.div_lt_iff_lt_mul hs).2 hq
  have h2 : q % s < s := Nat.mod_lt _ hs
  have e : q = q / s * s + q % s := by rw [Nat.mul_comm]; exact (Nat.div_add_mod q s).symm
  have e2 := hc (q / s) h1 (q % s) h2
  rw [← flat_at h l (q / s) (q % s) h1 h2, ← e, Nat.add_assoc, ← e, hu] at e2
  exact e2
theorem flat_own (h : ∀ a, (one a).length = s) {w : World} {base : Nat} {T : TypeId} {v : Value} {l : List A} (ho : w.ownsRow base T s v l.length (l.flatMap one)) :
    (v = .slice none 0 0 ∧ l.length = 0) ∨ ∃ g cap, v = .slice (some ⟨g, 0, none⟩) l.length cap ∧ g < w.heap.size ∧ l.length ≤ cap ∧ cap ≤ maxLen ∧ ∀ j (hj : j < l.length) i, i < s → w.cell? ⟨g, j * s + i, none⟩ = (one l[j])[i]? := by
  rcases id ho.2 with ⟨rfl, h0⟩ | ⟨g, cap, cur, rfl, hbg, hg, hnc, hcm, hcs, htake⟩
  · exact .inl ⟨rfl, h0⟩
  · refine .inr ⟨g, cap, rfl, (Array.getElem?_eq_some_iff.1 hg).1, hnc, hcm, fun j hj i hi => ?_⟩
    have hb : j * s + i < l.length * s := by
      have : (j + 1) * s ≤ l.length * s := Nat.mul_le_mul_right s hj
      rw [Nat.succ_mul] at this; omega
    rw [ho.cellAt (j * s + i) hb, flat_at h l j i hj hi]
end
def inC (n : Int) : List Value := [.int .i64 n]
theorem ints_own {w : World} {base B : Nat} {T : TypeId} {v : Value} {l : List Int} (h : w.ownsRow base T 1 v l.length (l.flatMap inC)) (hB : w.heap.size ≤ B) : Ints B w v l := by
  rcases flat_own (one := inC) (s := 1) (fun _ => rfl) h with ⟨rfl, h0⟩ | ⟨g, cap, rfl, hg, h1, h2, hc⟩
  · exact ⟨none, 0, by rw [h0], by omega, by decide, fun k => absurd k (by omega)⟩
  · refine ⟨_, cap, rfl, h1, h2, fun _ => ⟨g, 0, rfl, by omega, fun j hj => ?_⟩⟩
    have := hc j hj 0 (by omega)
    rw [Nat.mul_one, Nat.add_zero] at this
    unfold IntAt; rw [Nat.zero_add]; exact this
theorem info_cin : (Tryz.prog.info? 3).map (fun i => (i.zero, i.size, i.bytes)) = some (some (.int .i64 0), 1, 8) := by kernel_rfl
set_option maxHeartbeats 4000000 in
set_option maxRecDepth 100000 in
theorem slclonei_any {B : Nat} {v : Value} {l : List (Int)} (w : World) (hv : Ints B w v l) (hBB : B ≤ w.heap.size) (hl : l.length ≤ 1000000) :
    Calls Tryz.prog 58 #[v] w fun e w' => ∃ u, e = .returned u ∧ w'.ownsRow w.heap.size 3 1 u l.length (l.flatMap inC) ∧ Below w.heap.size w w' := by
  obtain ⟨A, c, rfl, h1, h2, h3⟩ := hv
  unfold maxLen at h2
  obtain ⟨i0, hi0, hz0, hz1, hz2⟩ := info_parts info_cin
  have heq := fun (W : World) (a : Option Addr) (n c : Nat) => Lib.run_eql_slice_nil (P := Tryz.prog) W 22 3 a n c 0 0 Tryz.underlying22
  cases A with
  | none =>
    have h0 : l.length = 0 := by
      rcases Nat.eq_zero_or_pos l.length with h | h
      · exact h
      · obtain ⟨b, f, e, _⟩ := h3 h; cases e
    have HE := Lib.hid (List.eq_nil_of_length_eq_zero h0)
    clear h0 h1 h2 h3
    go_enter Tryz.func58, Tryz.ntmps58
    go_wp2
    go_ret
    rw [HE.out]
    exact ⟨_, rfl, World.ownsRow_nil _ _ _ _, Below.refl _ _⟩
  | some ad =>
    obtain ⟨b, f, sp⟩ := ad
    have HC := Lib.hid (show ∀ (q : Nat) (u : Value), (l.flatMap inC)[q]? = some u → (w.alloc (.cells #[] 3)).cell? ((⟨b, f, sp⟩ : Addr).add q) = some u from fun q u hu => by
      have hp : 0 < l.length := by
        rcases Nat.eq_zero_or_pos l.length with h | h
        · rw [List.eq_nil_of_length_eq_zero h] at hu; cases hu
        · exact h
      obtain ⟨b', f', e, hb, hc⟩ := h3 hp
      injection e with e; injection e with e1 e2 e3; subst e1; subst e2; subst e3
      rw [Addr.add_lit]
      have := flat_src (one := inC) (s := 1) (by decide) (fun _ => rfl) (l := l) (w := w) (b := b) (f := f) (fun j hj i hi => by
        have := hc j hj; unfold IntAt at this; obtain rfl : i = 0 := by omega
        rw [Nat.mul_one, Nat.add_zero]; exact this) q u hu
      exact kc (below_al (Below.refl _ _) _) this)
    have HL := Lib.hid (flat_len (one := inC) (s := 1) (fun _ => rfl) l)
    have HO := Lib.hid (show (w.alloc (.cells #[] 3)).ownsRow w.heap.size 3 1 (.slice (some ⟨w.heap.size, 0, none⟩) 0 0) 0 [] from by
      have := World.ownsRow_lit (base := w.heap.size) (e := 3) (size := 1) w #[] 0 (Nat.le_refl _) (by decide) rfl
      simpa using this)
    have HON := Lib.hid (show ∀ u ∈ l.flatMap inC, u.oneCell' = true from fun u hu => by
      obtain ⟨x, _, hx⟩ := List.mem_flatMap.1 hu
      simp only [inC, List.mem_cons, List.not_mem_nil, or_false] at hx
      subst hx; rfl)
    have hB1 := below_al (Below.refl w.heap.size w) (.cells #[] 3)
    clear h3
    go_enter Tryz.func58, Tryz.ntmps58
    go_wp2_with (at_builtin; refine wpList_append_own _ rfl _ _ 22 rfl w.heap.size 3 i0 (.int .i64 0) 1 8 Tryz.underlying22 hi0 hz0 hz1 hz2 rfl (by decide) _ 0 [] rfl HO.out ⟨b, f, sp⟩ l.length c (l.flatMap inC) rfl HL.out HC.out HON.out (by unfold maxLen; omega) (by omega) (by simp) ?_; intro v1 w1 hown1 hg1 _; obtain ⟨A8, c8, rfl⟩ := own_slice hown1)
    go_ret
    simp only [Nat.zero_add, List.nil_append] at hown1
    refine ⟨_, rfl, hown1, below_append hB1 HO.out (Nat.le_refl _) (by simp) hg1⟩
theorem jump_any (x : St) (w : World) :
    Calls Tryz.prog 61 #[.agg #[.int .i64 x.op, .int .i64 x.reg, .int .i64 x.loc, .int .i64 x.n, .int .i64 x.to]] w fun e w' => e = .returned (.bool (jmpS x)) ∧ Below w.heap.size w w' := by
  have hB := below_al (Below.refl w.heap.size w) (.cells #[.int .i64 x.op, .int .i64 x.reg, .int .i64 x.loc, .int .i64 x.n, .int .i64 x.to] 75)
  go_enter Tryz.func61, Tryz.ntmps61
  go_wp2
  all_goals go_ret
  all_goals exact ⟨by simp [jmpS, *, Bool.or_assoc], below_al (Below.refl _ _) _⟩
set_option maxHeartbeats 2000000 in
set_option maxRecDepth 100000 in
theorem land_any {bp N ge gf gt t len : Nat} {f : Int → Int → Bool} (tn : Nat) (w : World) (ce : w.cell? ⟨ge, 0, none⟩ = some (.int .i64 (len : Int))) (cf : w.cell? ⟨gf, 0, none⟩ = some (.map (some bp))) (ct : w.cell? ⟨gt, 0, none⟩ = some (.int .i64 (t : Int)))
    (hm : MapP w bp N f) (hl : len ≤ 1000000) (ht : t ≤ 1000000) (hto : tn ≤ 1000000) :
    Calls Tryz.prog 75 #[.int .i64 (tn : Int), .pointer (some ⟨ge, 0, none⟩), .pointer (some ⟨gf, 0, none⟩), .pointer (some ⟨gt, 0, none⟩)] w fun e w' => e = .returned (.int .i64 (land (fun k => f (t : Int) (k : Int)) len tn)) ∧ w' = w := by
  obtain ⟨m, hmi⟩ : ∃ m : Nat, m = min tn len := ⟨_, rfl⟩
  have HLA := Lib.hid (show land (fun k => f (t : Int) (k : Int)) len tn = (tn : Int) + (cntC (fun k => f (t : Int) (k : Int)) m : Nat) by unfold land; rw [hmi]; congr 3; omega)
  have hml : m ≤ 1000000 := by omega
  have HCN := Lib.hid (fun k => show cntC (fun k => f (t : Int) (k : Int)) (k + 1) = cntC (fun k => f (t : Int) (k : Int)) k + (if f (t : Int) (k : Int) then 1 else 0) from rfl)
  have HC0 := Lib.hid (show cntC (fun k => f (t : Int) (k : Int)) 0 = 0 from rfl)
  have HCL := Lib.hid (fun k => cntC_le (fun k => f (t : Int) (k : Int)) k)
  generalize cntC (fun k => f (t : Int) (k : Int)) = C at *
  have wt : (Lit.int .i64 (t : Int)).wf = true := WalkArith.wf_i64 (by omega)
  by_cases hc : tn ≤ len
  · obtain rfl : m = tn := by omega
    clear hmi
    have hci : (m : Int) ≤ (len : Int) := by omega
    go_enter Tryz.func75, Tryz.ntmps75
    go_wp2
    go_loopw [6, 12] (fun v i wr => ∃ k : Nat, k ≤ m ∧ i = .int .i64 k ∧ v = .int .i64 ((m : Int) + (C k : Nat)) ∧ wr = w) (fun _ i _ => m - (intOf i).toNat)
    case atStart => exact ⟨0, Nat.zero_le _, rfl, by rw [HC0.out]; simp, rfl⟩
    case round =>
      obtain ⟨k, hk, rfl, rfl, rfl⟩ := hrel
      by_cases hlt : k < m
      · have wk : (Lit.int .i64 (k : Int)).wf = true := WalkArith.wf_i64 (by omega)
        have hcn := Lib.hid (HCN.out k)
        have hcl := HCL.out k
        obtain ⟨q, hq⟩ : ∃ q, q = C k := ⟨_, rfl⟩
        rw [← hq] at hcn hcl ⊢
        clear hq
        cases hfk : f (t : Int) (k : Int)
        · go_wp2_with (at_lookup; refine at_mapP _ rfl _ _ rfl bp N _ rfl hm (t : Int) (k : Int) rfl wt wk ?_; rw [hfk]; try go_frame)
          go_roundw
          case rel => exact ⟨k + 1, by omega, by go_num, by rw [hcn.out, hfk]; simp, by simp⟩
          case measure => simp [intOf]; omega
        · go_wp2_with (at_lookup; refine at_mapP _ rfl _ _ rfl bp N _ rfl hm (t : Int) (k : Int) rfl wt wk ?_; rw [hfk]; try go_frame)
          go_roundw
          case rel => exact ⟨k + 1, by omega, by go_num, by rw [hcn.out, hfk]; simp; omega, by simp⟩
          case measure => simp [intOf]; omega
      · obtain rfl : m = k := by omega
        go_wp2
        go_ret
        exact ⟨by rw [HLA.out]; rfl, rfl⟩
  · obtain rfl : m = len := by omega
    clear hmi
    have hci : ¬ (tn : Int) ≤ (m : Int) := by omega
    have hci2 : (m : Int) < (tn : Int) := by omega
    go_enter Tryz.func75, Tryz.ntmps75
    go_wp2
    go_loopw [6, 12] (fun v i wr => ∃ k : Nat, k ≤ m ∧ i = .int .i64 k ∧ v = .int .i64 ((tn : Int) + (C k : Nat)) ∧ wr = w) (fun _ i _ => m - (intOf i).toNat)
    case atStart => exact ⟨0, Nat.zero_le _, rfl, by rw [HC0.out]; simp, rfl⟩
    case round =>
      obtain ⟨k, hk, rfl, rfl, rfl⟩ := hrel
      by_cases hlt : k < m
      · have wk : (Lit.int .i64 (k : Int)).wf = true := WalkArith.wf_i64 (by omega)
        have hcn := Lib.hid (HCN.out k)
        have hcl := HCL.out k
        obtain ⟨q, hq⟩ : ∃ q, q = C k := ⟨_, rfl⟩
        rw [← hq] at hcn hcl ⊢
        clear hq
        cases hfk : f (t : Int) (k : Int)
        · go_wp2_with (at_lookup; refine at_mapP _ rfl _ _ rfl bp N _ rfl hm (t : Int) (k : Int) rfl wt wk ?_; rw [hfk]; try go_frame)
          go_roundw
          case rel => exact ⟨k + 1, by omega, by go_num, by rw [hcn.out, hfk]; simp, by simp⟩
          case measure => simp [intOf]; omega
        · go_wp2_with (at_lookup; refine at_mapP _ rfl _ _ rfl bp N _ rfl hm (t : Int) (k : Int) rfl wt wk ?_; rw [hfk]; try go_frame)
          go_roundw
          case rel => exact ⟨k + 1, by omega, by go_num, by rw [hcn.out, hfk]; simp; omega, by simp⟩
          case measure => simp [intOf]; omega
      · obtain rfl : m = k := by omega
        go_wp2
        go_ret
        exact ⟨by rw [HLA.out]; rfl, rfl⟩
end Go.Proofs.YtlpjgaeelnlipaaGreat
namespace Go.Proofs.YtlpjgaeelnlipaaGreat
open Go.RowKit
open WordM (L)
open VM (Fl)
open SlM

/-- Block g is a box of these cells. -/
def SlBoxC (W : World) (g : Nat) (T : TypeId) (cs : Array Value) : Prop := W.heap[g]? = some (.cells cs T (0, 0))
theorem SlBoxC.lt {W : World} {g : Nat} {T : TypeId} {cs : Array Value} (h : SlBoxC W g T cs) : g < W.heap.size := (Array.getElem?_eq_some_iff.1 h).1
theorem SlBoxC.cell {W : World} {g : Nat} {T : TypeId} {cs : Array Value} (h : SlBoxC W g T cs) (i : Nat) (v : Value) (hv : cs[i]? = some v) : W.cell? ⟨g, i, none⟩ = some v := by simp [World.cell?, show W.heap[g]? = _ from h, hv]
theorem SlBoxC.frozen {W : World} {g : Nat} {T : TypeId} {cs : Array Value} (h : SlBoxC W g T cs) (i : Nat) : W.frozen? ⟨g, i, none⟩ = false := by simp [World.frozen?, show W.heap[g]? = _ from h]
theorem SlBoxC.below {W W' : World} {B g : Nat} {T : TypeId} {cs : Array Value} (h : SlBoxC W g T cs) (hb : Below B W W') (hg : g < B) : SlBoxC W' g T cs := (hb.block g hg).trans h
theorem SlBoxC.new (W : World) (T : TypeId) (cs : Array Value) : SlBoxC (W.alloc (.cells cs T)) W.heap.size T cs := World.alloc_heap_new W _
theorem SlBoxC.alloc {W : World} {g : Nat} {T : TypeId} {cs : Array Value} (h : SlBoxC W g T cs) (o : Obj) : SlBoxC (W.alloc o) g T cs := h.below (below_al (Below.refl _ W) o) h.lt
theorem SlBoxC.set {W : World} {g : Nat} {T : TypeId} {cs : Array Value} (h : SlBoxC W g T cs) (i : Nat) (v : Value) : SlBoxC (W.setCell ⟨g, i, none⟩ v) g T (cs.setIfInBounds i v) := heap_setCell_same W g i cs T v h
theorem SlBoxC.other {W : World} {g b : Nat} {T : TypeId} {cs : Array Value} (h : SlBoxC W g T cs) (hne : g ≠ b) (i : Nat) (v : Value) : SlBoxC (W.setCell ⟨b, i, none⟩ v) g T cs :=
  ((slgrown_set W b i v).block g h.lt (fun e => by injection e with e; exact hne e)).trans h
/-- W' is W but for what is new, and the blocks H. -/
structure Off (H : Nat → Prop) (W W' : World) : Prop where
  size : W.heap.size ≤ W'.heap.size
  block : ∀ k, k < W.heap.size → ¬ H k → W'.heap[k]? = W.heap[k]?
end Go.Proofs.YtlpjgaeelnlipaaGreat
namespace Go.Proofs.YtlpjgaeelnlipaaGreat
open Go.RowKit
open CodM (St Pg)
open SlM

theorem slown_box {W : World} {base s n g : Nat} {T T' : TypeId} {v : Value} {xs : List Value} {cs : Array Value} (h : W.ownsRow base T s v n xs) (hb : SlBoxC W g T' cs) (hT : T ≠ T') : v.ownBlock = none ∨ v.ownBlock ≠ some g := by
  rcases h.2 with ⟨rfl, _⟩ | ⟨g2, cap, cur, rfl, _, hg, _⟩
  · exact .inl rfl
  · right
    intro e
    have e : g2 = g := by simpa [Value.ownBlock] using e
    subst e
    rw [show W.heap[g2]? = _ from hb] at hg
    injection hg with hg; injection hg with _ h _
    exact hT h.symm
theorem SlBoxC.kept {W W' : World} {g : Nat} {T : TypeId} {cs : Array Value} {row : Option Nat} (h : SlBoxC W g T cs) (hg : W.grownBy W' row) (hne : row ≠ some g) : SlBoxC W' g T cs := (hg.block g h.lt (fun e => hne e.symm)).trans h
section
variable {A : Type}
def rowsG (full rest : Nat → List A) (part : List A) (n i : Nat) : List (List A) := (List.range n).map fun j => if j < i then full j else if j = i then part else rest j
theorem rowsG_len (full rest : Nat → List A) (part : List A) (n i : Nat) : (rowsG full rest part n i).length = n := by simp [rowsG]
theorem rowsG_at (full rest : Nat → List A) (part : List A) {n i : Nat} (h : i < n) : (rowsG full rest part n i)[i]'(by rw [rowsG_len]; exact h) = part := by simp [rowsG]
theorem rowsG_set (full rest : Nat → List A) (part part' : List A) {n i : Nat} (h : i < n) : (rowsG full rest part n i).set i part' = rowsG full rest part' n i := by
  refine List.ext_getElem (by simp [rowsG_len]) (fun j h1 h2 => ?_)
  by_cases e : j = i
  · subst e; rw [List.getElem_set_self, rowsG_at full rest part' h]
  · rw [List.getElem_set_ne (Ne.symm e)]; simp [rowsG, e]
theorem rowsG_next (full rest : Nat → List A) (n i : Nat) : rowsG full rest (full i) n i = rowsG full rest (rest (i + 1)) n (i + 1) := by
  unfold rowsG
  refine List.map_congr_left (fun j _ => ?_)
  by_cases e : j < i
  · simp [e, show j < i + 1 by omega]
  · by_cases e2 : j = i
    · subst e2; simp
    · by_cases e3 : j = i + 1
      · subst e3; simp; intro h; exact absurd h (by omega)
      · simp [e, e2, e3, show ¬ j < i + 1 by omega]
theorem rowsG_zero (full rest : Nat → List A) (n : Nat) : rowsG full rest (rest 0) n 0 = (List.range n).map rest := by
  unfold rowsG
  refine List.map_congr_left (fun j _ => ?_)
  by_cases e : j = 0
  · subst e; simp
  · simp [e]
theorem rowsG_end (full rest : Nat → List A) (p : List A) (n : Nat) : rowsG full rest p n n = (List.range n).map full := by
  unfold rowsG
  refine List.map_congr_left (fun j hj => ?_)
  simp [List.mem_range.1 hj]
end
/-- The first k steps changed. -/
def pm (m : St → St) (R : List St) (k : Nat) : List St := (R.take k).map m ++ R.drop k
theorem pm_len (m : St → St) (R : List St) (k : Nat) : (pm m R k).length = R.length := by unfold pm; rw [List.length_append, List.length_map, List.length_take, List.length_drop]; omega
theorem pm_end (m : St → St) (R : List St) : pm m R R.length = R.map m := by unfold pm; rw [List.take_length, List.drop_length, List.append_nil]
theorem pm_get (m : St → St) (R : List St) {k : Nat} (hk : k ≤ R.length) (j : Nat) : (pm m R k)[j]? = (R[j]?).map (fun s => if j < k then m s else s) := by
  unfold pm
  by_cases hl : j < k
  · rw [List.getElem?_append_left (by simp; omega), List.getElem?_map, List.getElem?_take, if_pos hl]; simp [hl]
  · rw [List.getElem?_append_right (by simp; omega), List.getElem?_drop]
    simp only [List.length_map, List.length_take, Nat.min_eq_left hk]
    rw [show k + (j - k) = j by omega]
    simp [hl]
theorem pm_at (m : St → St) (R : List St) {k : Nat} (h : k < R.length) : (pm m R k)[k]'(by rw [pm_len]; exact h) = R[k] := by
  have := pm_get m R (Nat.le_of_lt h) k
  rw [List.getElem?_eq_getElem (by rw [pm_len]; exact h), List.getElem?_eq_getElem h] at this
  simpa using this
theorem pm_next (m : St → St) (R : List St) {k : Nat} (h : k < R.length) : pm m R (k + 1) = (pm m R k).set k (m R[k]) := by
  refine List.ext_getElem? (fun j => ?_)
  rw [pm_get m R h, List.getElem?_set, pm_get m R (Nat.le_of_lt h), pm_len]
  by_cases e : k = j
  · subst e
    rw [if_pos rfl, if_pos h, List.getElem?_eq_getElem h]; simp
  · rw [if_neg e]
    congr 1; funext s
    by_cases hl : j < k
    · simp [hl, show j < k + 1 by omega]
    · simp [hl, show ¬ j < k + 1 by omega]
theorem pm_same (m : St → St) (R : List St) {k : Nat} (h : k < R.length) (hm : m R[k] = R[k]) : pm m R (k + 1) = pm m R k := by
  rw [pm_next m R h, hm]
  refine List.ext_getElem (by simp) (fun j h1 h2 => ?_)
  by_cases e : j = k
  · subst e; rw [List.getElem_set_self, pm_at m R h]
  · rw [List.getElem_set_ne (Ne.symm e)]
theorem stsCs_set : ∀ (l : List St) (k : Nat) (hk : k < l.length) (x : Int), stsCs (l.set k ⟨l[k].op, l[k].reg, l[k].loc, l[k].n, x⟩) = (stsCs l).set (k * 5 + 4) (.int .i64 x)
  | [], k, hk, _ => absurd hk (Nat.not_lt_zero k)
  | s :: r, 0, hk, x => by
    rw [List.set_cons_zero, stsCs, stsCs]
    show _ = ((stCs s) ++ stsCs r).set 4 _
    rw [List.set_append_left _ _ (by show 4 < 5; omega)]; rfl
  | s :: r, k + 1, hk, x => by
    rw [List.set_cons_succ, stsCs, stsCs, List.set_append_right _ _ (by show 5 ≤ _; omega)]
    have := stsCs_set r k (by simpa using hk) x
    simp only [List.getElem_cons_succ]
    rw [this]
    show _ ++ _ = _ ++ (stsCs r).set ((k + 1) * 5 + 4 - 5) _
    rw [show (k + 1) * 5 + 4 - 5 = k * 5 + 4 by omega]
theorem cntC_congr {c c' : Nat → Bool} : ∀ n, (∀ k, k < n → c k = c' k) → cntC c n = cntC c' n
  | 0, _ => rfl
  | n + 1, h => by rw [cntC, cntC, cntC_congr n (fun k hk => h k (by omega)), h n (Nat.lt_succ_self n)]
theorem mv_congr {c c' : Nat → Bool} {len : Nat} (h : ∀ k, k < len → c k = c' k) (s : St) : mv c len s = mv c' len s := by
  unfold mv land
  rw [cntC_congr _ (fun k hk => h k (by omega))]
/-- The code with fences at the places that f tells. -/
def insF (f : Int → Int → Bool) (P : Pg) : Pg := ⟨P.init, (List.range P.ths.length).map fun (t : Nat) => (wthN (fun q => f (t : Int) (q : Int)) fenS (P.ths.getD t []) (P.ths.getD t []).length).map (mv (fun q => f (t : Int) (q : Int)) (P.ths.getD t []).length)⟩
theorem insF_eq {f : Int → Int → Bool} {P : Pg} {g : List Int} (h : ∀ t k (ht : t < P.ths.length), k < P.ths[t].length → f (t : Nat) (k : Nat) = ch anyS P.ths g t k) : insF f P = insP P g := by
  have e : (insF f P).ths = (insP P g).ths := by
    refine List.ext_getElem (by rw [insP_len]; simp [insF]) (fun t h1 h2 => ?_)
    have ht : t < P.ths.length := by rw [insP_len] at h2; exact h2
    rw [insP_row g ht]
    simp only [insF, List.getElem_map, List.getElem_range, SlM.getD_at ht]
    rw [wthN_congr fenS P.ths[t] _ (fun k hk => h t k ht hk)]
    refine List.map_congr_left (fun s _ => mv_congr (fun k hk => h t k ht hk) s)
  show Pg.mk (insF f P).init (insF f P).ths = Pg.mk (insP P g).init (insP P g).ths
  rw [e]; rfl
theorem mem_wthN {A : Type} {c : Nat → Bool} {x : A} {l : List A} : ∀ {n : Nat} {s : A}, s ∈ wthN c x l n → s = x ∨ s ∈ l
  | 0, _, h => by cases h
  | n + 1, s, h => by
    rw [wthN] at h
    rcases List.mem_append.1 h with h | h
    · exact mem_wthN h
    · rcases List.mem_append.1 h with h | h
      · split at h
        · exact .inl (by simpa using h)
        · cases h
      · right
        cases e : l[n]? with
        | none => rw [e] at h; cases h
        | some y => rw [e] at h; rw [show s = y by simpa using h]; exact List.mem_of_getElem? e
structure IS (b : Nat) (WW : World) (ns : List Int) (ui : Value) (gm gq n : Nat) (vs : List Value) (xss : List (List St)) (W : World) : Prop where
  ini : W.ownsRow b 3 1 ui ns.length (ns.flatMap inC)
  more : W.ownsRow b 73 1 (.slice (some ⟨gm, 0, none⟩) n n) n vs
  rows : RowsA W b 75 stsCs vs xss
  box : SlBoxC W gq 25 #[ui, .slice (some ⟨gm, 0, none⟩) n n]
  below : Below b WW W
section
variable {b gm gq n : Nat} {WW W W' : World} {ns : List Int} {ui : Value} {vs : List Value} {xss : List (List St)}
theorem IS.grow (h : IS b WW ns ui gm gq n vs xss W) (hb : Below W.heap.size W W') (hbW : b ≤ WW.heap.size) : IS b WW ns ui gm gq n vs xss W' :=
  ⟨own_below h.ini hb, own_below h.more hb, h.rows.below hb, h.box.below hb h.box.lt, h.below.trans (hb.mono (Nat.le_trans hbW h.below.size))⟩
theorem RowsA.cell {A : Type} {base g N cap : Nat} {T : TypeId} {cs : List A → List Value} {vs : List Value} {xss : List (List A)} {W : World} (h : RowsA W base T cs vs xss) {i m : Nat} (hu : vs[i]? = some (.slice (some ⟨g, 0, none⟩) N cap)) {v : Value} {ys : List A}
    (hi : i < xss.length) (hy : ys.length = xss[i].length) (hcs : cs ys = (cs xss[i]).set m v) : RowsA (W.setCell ⟨g, m, none⟩ v) base T cs vs (xss.set i ys) := by
  obtain ⟨hi', ho⟩ := h.of hu
  have hN : xss[i].length = N := by
    rcases ho.2 with ⟨e, _⟩ | ⟨_, _, _, e, _⟩
    · cases e
    · injection e with _ e _; exact e.symm
  rw [hN] at ho
  have hst := ho.stored m v
  refine ⟨by simp [h.len], fun j hj => ?_, h.apart⟩
  have hj' : j < xss.length := by simpa using hj
  by_cases e : j = i
  · subst e
    refine ⟨_, hu, ?_⟩
    rw [List.getElem_set_self, hcs, hy, hN]
    exact hst.1
  · obtain ⟨u, h1, h2⟩ := h.own j hj'
    refine ⟨u, h1, ?_⟩
    rw [List.getElem_set_ne (Ne.symm e)]
    exact h2.kept hst.2 (by have := h.apart j i u _ e h1 hu; simpa [Value.ownBlock] using this)
theorem IS.cell (h : IS b WW ns ui gm gq n vs xss W) {i m N cap g : Nat} (hu : vs[i]? = some (.slice (some ⟨g, 0, none⟩) N cap)) {v : Value} {ys : List St} (hi : i < xss.length) (hy : ys.length = xss[i].length) (hcs : stsCs ys = (stsCs xss[i]).set m v) :
    IS b WW ns ui gm gq n vs (xss.set i ys) (W.setCell ⟨g, m, none⟩ v) ∧ W.grownBy (W.setCell ⟨g, m, none⟩ v) (some g) := by
  obtain ⟨hi', ho⟩ := h.rows.of hu
  have hg := slgrown_set W g m v
  have hob : (Value.slice (some ⟨g, 0, none⟩) N cap).ownBlock = some g := rfl
  refine ⟨⟨?_, ?_, h.rows.cell hu hi hy hcs, ?_, h.below.setCell (p := ⟨g, m, none⟩) (ho.lt g rfl).1 v⟩, hg⟩
  · exact h.ini.kept hg (by have := cdown_apart (by decide) h.ini ho; rwa [hob] at this)
  · exact h.more.kept hg (by have := cdown_apart (by decide) h.more ho; rwa [hob] at this)
  · refine h.box.kept hg (fun e => ?_)
    rcases slown_box ho h.box (by decide) with e2 | e2
    · cases e2
    · exact e2 e
end
end Go.Proofs.YtlpjgaeelnlipaaGreat
namespace Go.Proofs.YtlpjgaeelnlipaaGreat
open Go.RowKit
open CodM (St Pg)
open SlM

theorem sl_nilz {w : World} {base : Nat} {e : TypeId} {size n : Nat} {v : Value} {xs : List Value} (h : w.ownsRow base e size v n xs) : NilZ v := by
  rcases h.2 with ⟨rfl, rfl⟩ | ⟨g, cap, cur, rfl, _⟩
  · intro n c e; injection e with _ _ e; exact e.symm
  · intro n c e; injection e with e; cases e
/-- A code whose rows are all of the call's own. -/
def PgO (base : Nat) (W : World) (u : Value) (P : Pg) : Prop := ∃ ui ut vs, u = .agg #[ui, ut] ∧ W.ownsRow base 3 1 ui P.init.length (P.init.flatMap inC) ∧ W.ownsRow base 73 1 ut P.ths.length vs ∧
  ∀ q (hq : q < P.ths.length), ∃ v, vs[q]? = some v ∧ W.ownsRow base 75 5 v P.ths[q].length (stsCs P.ths[q])
theorem PgO.v {base : Nat} {W : World} {u : Value} {P : Pg} (h : PgO base W u P) : PgV W.heap.size W u P := by
  obtain ⟨ui, ut, vs, rfl, h1, h2, h3⟩ := h
  exact ⟨_, _, rfl, ints_own h1 (Nat.le_refl _), sss_of_own h2 (Nat.le_refl _) (fun q hq => by
    obtain ⟨v, e1, e2⟩ := h3 q hq
    exact ⟨v, e1, sts_of_own e2 (Nat.le_refl _)⟩)⟩
theorem PgO.nz {base : Nat} {W : World} {u : Value} {P : Pg} (h : PgO base W u P) : ∀ vi vt, u = .agg #[vi, vt] → NilZ vi := by
  obtain ⟨ui, ut, vs, rfl, h1, -, -⟩ := h
  intro a b e
  injection e with e; injection e with e; injection e with e1 e2
  exact e1 ▸ sl_nilz h1
theorem rows_base {A : Type} {W : World} {b b' : Nat} {T : TypeId} {cs : List A → List Value} {vs : List Value} {xss : List (List A)} (h : RowsA W b T cs vs xss) (hb : b' ≤ b) : RowsA W b' T cs vs xss :=
  ⟨h.len, fun j hj => by obtain ⟨u, h1, h2⟩ := h.own j hj; exact ⟨u, h1, own_base h2 hb⟩, h.apart⟩
theorem is_made {b gm gq n : Nat} {WW W : World} {ns : List Int} {ui : Value} {vs : List Value} {xss : List (List St)} (h1 : W.ownsRow b 3 1 ui ns.length (ns.flatMap inC)) (h2 : W.ownsRow b 73 1 (.slice (some ⟨gm, 0, none⟩) n n) n vs)
    (h3 : RowsA W b 75 stsCs vs xss) (h4 : SlBoxC W gq 25 #[.slice none 0 0, .slice none 0 0]) (hgq : b ≤ gq) (h5 : Below b WW W) :
    IS b WW ns ui gm gq n vs xss ((W.setCell ⟨gq, 0, none⟩ ui).setCell ⟨gq, 1, none⟩ (.slice (some ⟨gm, 0, none⟩) n n)) := by
  have hb1 := h4.set 0 ui
  have k1 : ∀ {s m : Nat} {T : TypeId} {v : Value} {xs : List Value}, T ≠ 25 → W.ownsRow b T s v m xs → ((W.setCell ⟨gq, 0, none⟩ ui).setCell ⟨gq, 1, none⟩ (.slice (some ⟨gm, 0, none⟩) n n)).ownsRow b T s v m xs := fun hT h => by
    have ha := h.kept (slgrown_set W gq 0 ui) (slown_box h h4 hT)
    exact ha.kept (slgrown_set _ gq 1 _) (slown_box ha hb1 hT)
  refine ⟨k1 (by decide) h1, k1 (by decide) h2, ⟨h3.len, fun j hj => ?_, h3.apart⟩, hb1.set 1 _, (h5.setCell (p := ⟨gq, 0, none⟩) hgq _).setCell (p := ⟨gq, 1, none⟩) hgq _⟩
  obtain ⟨u, e1, e2⟩ := h3.own j hj
  exact ⟨u, e1, k1 (by decide) e2⟩
theorem landing_any (bp : Nat) (i n : Int) (w : World) :
    Calls Tryz.prog 60 #[.map (some bp), .int .i64 i, .int .i64 n] w fun e w' => ∃ gf gt ge, e = .returned (.func (.func 75) #[] #[.pointer (some ⟨ge, 0, none⟩), .pointer (some ⟨gf, 0, none⟩), .pointer (some ⟨gt, 0, none⟩)]) ∧
      SlBoxC w' gf 96 #[.map (some bp)] ∧ SlBoxC w' gt 3 #[.int .i64 i] ∧ SlBoxC w' ge 3 #[.int .i64 n] ∧ Below w.heap.size w w' := by
  have b1 := ((SlBoxC.new w 96 #[.map (some bp)]).alloc (.cells #[.int .i64 i] 3)).alloc (.cells #[.int .i64 n] 3)
  have b2 := (SlBoxC.new (w.alloc (.cells #[.map (some bp)] 96)) 3 #[.int .i64 i]).alloc (.cells #[.int .i64 n] 3)
  have b3 := SlBoxC.new ((w.alloc (.cells #[.map (some bp)] 96)).alloc (.cells #[.int .i64 i] 3)) 3 #[.int .i64 n]
  rw [World.size_alloc] at b2
  rw [World.size_alloc, World.size_alloc] at b3
  have hB := below_al (below_al (below_al (Below.refl w.heap.size w) (.cells #[.map (some bp)] 96)) (.cells #[.int .i64 i] 3)) (.cells #[.int .i64 n] 3)
  have hst : ∀ (W : World) (a : Addr) (f : Fn) (x y : Array Value), (store a (.func f x y)).run Tryz.prog W = _ := fun W a f x y => run_store Tryz.prog W a (.func f x y) _ rfl
  go_enter Tryz.func60, Tryz.ntmps60
  go_wp2
  go_ret
  exact ⟨w.heap.size, w.heap.size + 1, w.heap.size + 1 + 1, rfl, b1, b2, b3, hB⟩
set_option maxHeartbeats 8000000 in
set_option maxRecDepth 100000 in
theorem insert_any {B : Nat} {v vg : Value} {P : Pg} {g : List Int} (w : World) (hv : PgV B w v P) (hg : Ints B w vg g) (hBB : B ≤ w.heap.size) (hi : P.init.length ≤ 1000000) (hl : P.ths.length ≤ 1000000) (hll : ∀ ss ∈ P.ths, ss.length ≤ 1000000) (hgl : g.length ≤ 1000000)
    (hj : ∀ ss ∈ P.ths, ∀ s ∈ ss, jmpS s = true → 0 ≤ s.5 ∧ s.5 ≤ 1000000) :
    Calls Tryz.prog 35 #[v, vg] w fun e w' => ∃ u, e = .returned u ∧ PgO w.heap.size w' u (insP P g) ∧ Below w.heap.size w w' := by
  obtain ⟨vi, vt, rfl, hm⟩ := hv
  have HM := Lib.hid hm
  have HG := Lib.hid hg
  have HN1 := Lib.hid hi
  have HN2 := Lib.hid hl
  have HN3 := Lib.hid hll
  have HN4 := Lib.hid hgl
  have HJ := Lib.hid hj
  obtain ⟨⟨P0, c0, rfl, -⟩, ⟨P1, c1, rfl, l1, l2, l3⟩⟩ := hm
  obtain ⟨PG, cg, rfl, -⟩ := hg
  unfold maxLen at l2
  obtain ⟨W1, hW1⟩ : ∃ W, W = (w.alloc (.cells #[(.slice P0 P.init.length c0), (.slice P1 P.ths.length c1)] 25)).alloc (.cells #[.slice none 0 0, .slice none 0 0] 25) := ⟨_, rfl⟩
  have hB1 := Lib.hid (show Below w.heap.size w W1 from by rw [hW1]; exact below_al (below_al (Below.refl _ w) _) _)
  have HPB := Lib.hid (show SlBoxC W1 w.heap.size 25 #[(.slice P0 P.init.length c0), (.slice P1 P.ths.length c1)] from by rw [hW1]; exact (SlBoxC.new w _ _).alloc _)
  have HRB := Lib.hid (show SlBoxC W1 (w.heap.size + 1) 25 #[.slice none 0 0, .slice none 0 0] from by
    rw [hW1]; have := SlBoxC.new (w.alloc (.cells #[(.slice P0 P.init.length c0), (.slice P1 P.ths.length c1)] 25)) 25 #[.slice none 0 0, .slice none 0 0]
    rw [World.size_alloc] at this; exact this)
  have HCH := Lib.hid (callsIn_wide.1 (chosens_in Fence.wide 10 trivial trivial trivial trivial trivial trivial rfl (by omega) (B := B) (v := (.slice P1 P.ths.length c1)) (vg := .slice PG g.length cg) (ths := P.ths) (g := g) W1 (HM.out.2.below (hB1.out.mono hBB)) (HG.out.below (hB1.out.mono hBB)) (Nat.le_trans hBB hB1.out.size) HN2.out HN3.out HN4.out))
  rw [hW1] at HCH
  go_enter Tryz.func35, Tryz.ntmps35
  go_wp2_with fail
  refine HCH.out.mono ?_
  rintro e WW ⟨bp, f, rfl, hbp1, hbp2, hmp, hf, hba⟩
  rw [← hW1] at hba
  have HF := Lib.hid hf
  have hBW := Lib.hid (hB1.out.trans (hba.mono hB1.out.size))
  have HPW := Lib.hid (HPB.out.below hba HPB.out.lt)
  have HRW := Lib.hid (HRB.out.below hba HRB.out.lt)
  have HMP := Lib.hid (fun X (hX : Below WW.heap.size WW X) => hmp.below hX hbp1)
  have HBP := Lib.hid (fun X (hX : Below WW.heap.size WW X) => Nat.lt_of_lt_of_le hbp1 hX.size)
  have hBWW : B ≤ WW.heap.size := Nat.le_trans hBB hBW.out.size
  have HBX := Lib.hid (fun X (hX : Below WW.heap.size WW X) => Nat.le_trans hBWW hX.size)
  have HIN := Lib.hid (fun X (hX : Below WW.heap.size WW X) => (HM.out.1.below (hBW.out.mono hBB)).below (hX.mono hBWW))
  have HTH := Lib.hid (fun X (hX : Below WW.heap.size WW X) => (HM.out.2.below (hBW.out.mono hBB)).below (hX.mono hBWW))
  have HS := Lib.hid (fun X (hX : Below WW.heap.size WW X) => (show ((X.cell? ⟨w.heap.size, 0, none⟩ = some (.slice P0 P.init.length c0) ∧ X.cell? ⟨w.heap.size, 1, none⟩ = some (.slice P1 P.ths.length c1)) ∧ Below WW.heap.size WW X) from ⟨⟨(HPW.out.below hX HPW.out.lt).cell 0 _ rfl, (HPW.out.below hX HPW.out.lt).cell 1 _ rfl⟩, hX⟩))
  clear hW1 HCH hba hmp hf hbp1 hbp2
  have p1 := HPW.out.cell 1 _ rfl
  go_upto_region 2 with fail
  clear p1
  go_cut [6] (fun s6 wx => ∃ gq gm vs ui, s6 = .pointer (some ⟨gq, 0, none⟩) ∧ IS WW.heap.size WW P.init ui gm gq P.ths.length vs ((List.range P.ths.length).map (fun (t : Nat) => wthN (fun q => f (t : Int) (q : Int)) fenS (P.ths.getD t []) (P.ths.getD t []).length)) wx)
  case first =>
    refine wp_region_held_drew (S := (fun w' => (w'.cell? ⟨w.heap.size, 0, none⟩ = some (.slice P0 P.init.length c0) ∧ w'.cell? ⟨w.heap.size, 1, none⟩ = some (.slice P1 P.ths.length c1)) ∧ Below WW.heap.size WW w')) (by kernel_rfl) (HS.out _ (below_drewN (Below.refl _ _) 1)) (fun hHeld => ?_)
    obtain ⟨X0, hX0⟩ : ∃ W, W = WW.drew := ⟨_, rfl⟩
    have HLX0 := Lib.hid (show Below WW.heap.size WW X0 from by rw [hX0]; exact below_drewN (Below.refl _ _) 1)
    rw [← hX0] at hHeld ⊢
    clear hX0
    refine wtk 0 ?_ ?_ ?_
    rotate_left
    · intro w hSw; (try dsimp only at hSw); go_simp; (try with_reducible rfl)
    (try simp only [Act.put, pt8])
    refine wtk 1 ?_ ?_ ?_
    rotate_left
    · intro w hSw; (try dsimp only at hSw); go_simp; (try with_reducible rfl)
    (try simp only [Act.put, pt8])
    refine wtk 3 ?_ ?_ ?_
    rotate_left
    · intro w hSw; (try dsimp only at hSw); go_simp; (try with_reducible rfl)
    (try simp only [Act.put, pt8])
    refine wtk 4 ?_ ?_ ?_
    rotate_left
    · intro w hSw; (try dsimp only at hSw); go_simp; (try with_reducible rfl)
    (try simp only [Act.put, pt8])
    refine wtk 5 ?_ ?_ ?_
    rotate_left
    · intro w hSw; (try dsimp only at hSw); go_simp; (try with_reducible rfl)
    (try simp only [Act.put, pt8])
    refine wtk 6 ?_ ?_ ?_
    rotate_left
    · intro w hSw; (try dsimp only at hSw); go_simp; (try with_reducible rfl)
    (try simp only [Act.put, pt8])
    refine wpAnyH_ready (rs := [2, 9]) (by kernel_rfl) (by simp) ?_
    refine AllReadyH.cons rfl (fun K hK => ?_) (AllReadyH.cons rfl (fun K hK => ?_) (AllReadyH.nil))
    · -- 2 first
      go_simp
      refine (slclonei_any _ (HIN.out _ HLX0.out) (HBX.out _ HLX0.out) HN1.out).mono ?_
      rintro e wa ⟨u1, rfl, hu1, hba⟩
      obtain ⟨Au1, cu1, rfl⟩ := own_slice hu1
      have HLwa := Lib.hid (chain HLX0.out hba)
      have HU1 := Lib.hid (own_base hu1 HLX0.out.size)
      clear hba hu1
      refine hK.out _ _ (HS.out _ HLwa.out) (fun hHeld => ?_)
      clear hK K
      (try simp only [Act.put, pt8])
      refine wpAnyH_ready (rs := [7, 9]) (by kernel_rfl) (by simp) ?_
      refine AllReadyH.cons rfl (fun K hK => ?_) (AllReadyH.cons rfl (fun K hK => ?_) (AllReadyH.nil))
      · -- 7 first
        go_simp
        refine (withs_any fenS _ (HTH.out _ HLwa.out) (HBX.out _ HLwa.out) (HMP.out _ HLwa.out) (HBP.out _ HLwa.out) HN2.out HN3.out).mono ?_
        rintro e wb ⟨gm, vs, rfl, hmo, hro, hba⟩
        have HLwb := Lib.hid (chain HLwa.out hba)
        replace HU1 := Lib.hid (own_below HU1.out hba)
        have HMO := Lib.hid (own_base hmo HLwa.out.size)
        have HRO := Lib.hid (rows_base hro HLwa.out.size)
        clear hba hmo hro
        refine hK.out _ _ (HS.out _ HLwb.out) (fun hHeld => ?_)
        clear hK K
        (try simp only [Act.put, pt8])
        refine wtk 8 ?_ ?_ ?_
        rotate_left
        · intro w hSw; (try dsimp only at hSw); go_simp; (try with_reducible rfl)
        (try simp only [Act.put, pt8])
        refine wpAnyH_ready (rs := [9]) (by kernel_rfl) (by simp) ?_
        refine AllReadyH.cons rfl (fun K hK => ?_) AllReadyH.nil
        go_simp
        refine hK.out _ _ (HS.out _ (below_al HLwb.out (.cells #[.slice none 0 0, .slice none 0 0] 25))) (fun hHeld => ?_)
        clear hK K
        (try simp only [Act.put, pt8])
        obtain ⟨gq, hgq⟩ : ∃ g, g = wb.heap.size := ⟨_, rfl⟩
        obtain ⟨xq, hxq⟩ : ∃ W, W = wb.alloc (.cells #[.slice none 0 0, .slice none 0 0] 25) := ⟨_, rfl⟩
        have hba := Lib.hid (show Below wb.heap.size wb xq from by rw [hxq]; exact below_al (Below.refl _ _) _)
        have HLxq := Lib.hid (chain HLwb.out hba.out)
        replace HU1 := Lib.hid (own_below HU1.out hba.out)
        replace HMO := Lib.hid (own_below HMO.out hba.out)
        replace HRO := Lib.hid (HRO.out.below hba.out)
        have HQ := Lib.hid (show SlBoxC xq gq 25 #[.slice none 0 0, .slice none 0 0] from by rw [hxq, hgq]; exact SlBoxC.new _ _ _)
        have HGQ := Lib.hid (show WW.heap.size ≤ gq from by rw [hgq]; exact HLwb.out.size)
        rw [← hxq] at hHeld ⊢
        rw [← hgq]
        clear hxq hgq hba
        refine wpAnyH_ready (rs := [10]) (by kernel_rfl) (by simp) ?_
        refine AllReadyH.cons rfl (fun K hK => ?_) AllReadyH.nil
        have q0 := HQ.out.cell 0 _ rfl
        have q1 := HQ.out.cell 1 _ rfl
        have f0 := HQ.out.frozen 0
        have f1 := HQ.out.frozen 1
        go_simp
        refine hK.out _ _ (HS.out _ ((HLxq.out.setCell (p := ⟨gq, 0, none⟩) HGQ.out _).setCell (p := ⟨gq, 1, none⟩) HGQ.out _)) (fun hHeld => ?_)
        clear hK K
        (try simp only [Act.put, pt8])
        clear q0 q1 f0 f1
        refine wpAnyH_done (by kernel_rfl) ?_ _
        have HIS := Lib.hid (is_made HU1.out HMO.out HRO.out HQ.out HGQ.out HLxq.out)
        clear hHeld
        go_wp2_with fail
        go_meet
        exact ⟨gq, gm, vs, _, rfl, HIS.out⟩
      · -- 9 first
        go_simp
        refine hK.out _ _ (HS.out _ (below_al HLwa.out (.cells #[.slice none 0 0, .slice none 0 0] 25))) (fun hHeld => ?_)
        clear hK K
        (try simp only [Act.put, pt8])
        obtain ⟨gq, hgq⟩ : ∃ g, g = wa.heap.size := ⟨_, rfl⟩
        obtain ⟨xq, hxq⟩ : ∃ W, W = wa.alloc (.cells #[.slice none 0 0, .slice none 0 0] 25) := ⟨_, rfl⟩
        have hba := Lib.hid (show Below wa.heap.size wa xq from by rw [hxq]; exact below_al (Below.refl _ _) _)
        have HLxq := Lib.hid (chain HLwa.out hba.out)
        replace HU1 := Lib.hid (own_below HU1.out hba.out)
        have HQ := Lib.hid (show SlBoxC xq gq 25 #[.slice none 0 0, .slice none 0 0] from by rw [hxq, hgq]; exact SlBoxC.new _ _ _)
        have HGQ := Lib.hid (show WW.heap.size ≤ gq from by rw [hgq]; exact HLwa.out.size)
        rw [← hxq] at hHeld ⊢
        rw [← hgq]
        clear hxq hgq hba
        refine wpAnyH_ready (rs := [7]) (by kernel_rfl) (by simp) ?_
        refine AllReadyH.cons rfl (fun K hK => ?_) AllReadyH.nil
        go_simp
        refine (withs_any fenS _ (HTH.out _ HLxq.out) (HBX.out _ HLxq.out) (HMP.out _ HLxq.out) (HBP.out _ HLxq.out) HN2.out HN3.out).mono ?_
        rintro e wb ⟨gm, vs, rfl, hmo, hro, hba⟩
        have HLwb := Lib.hid (chain HLxq.out hba)
        replace HU1 := Lib.hid (own_below HU1.out hba)
        replace HQ := Lib.hid (HQ.out.below hba HQ.out.lt)
        have HMO := Lib.hid (own_base hmo HLxq.out.size)
        have HRO := Lib.hid (rows_base hro HLxq.out.size)
        clear hba hmo hro
        refine hK.out _ _ (HS.out _ HLwb.out) (fun hHeld => ?_)
        clear hK K
        (try simp only [Act.put, pt8])
        refine wtk 8 ?_ ?_ ?_
        rotate_left
        · intro w hSw; (try dsimp only at hSw); go_simp; (try with_reducible rfl)
        (try simp only [Act.put, pt8])
        refine wpAnyH_ready (rs := [10]) (by kernel_rfl) (by simp) ?_
        refine AllReadyH.cons rfl (fun K hK => ?_) AllReadyH.nil
        have q0 := HQ.out.cell 0 _ rfl
        have q1 := HQ.out.cell 1 _ rfl
        have f0 := HQ.out.frozen 0
        have f1 := HQ.out.frozen 1
        go_simp
        refine hK.out _ _ (HS.out _ ((HLwb.out.setCell (p := ⟨gq, 0, none⟩) HGQ.out _).setCell (p := ⟨gq, 1, none⟩) HGQ.out _)) (fun hHeld => ?_)
        clear hK K
        (try simp only [Act.put, pt8])
        clear q0 q1 f0 f1
        refine wpAnyH_done (by kernel_rfl) ?_ _
        have HIS := Lib.hid (is_made HU1.out HMO.out HRO.out HQ.out HGQ.out HLwb.out)
        clear hHeld
        go_wp2_with fail
        go_meet
        exact ⟨gq, gm, vs, _, rfl, HIS.out⟩
    · -- 9 first
      go_simp
      refine hK.out _ _ (HS.out _ (below_al HLX0.out (.cells #[.slice none 0 0, .slice none 0 0] 25))) (fun hHeld => ?_)
      clear hK K
      (try simp only [Act.put, pt8])
      obtain ⟨gq, hgq⟩ : ∃ g, g = X0.heap.size := ⟨_, rfl⟩
      obtain ⟨xq, hxq⟩ : ∃ W, W = X0.alloc (.cells #[.slice none 0 0, .slice none 0 0] 25) := ⟨_, rfl⟩
      have hba := Lib.hid (show Below X0.heap.size X0 xq from by rw [hxq]; exact below_al (Below.refl _ _) _)
      have HLxq := Lib.hid (chain HLX0.out hba.out)
      have HQ := Lib.hid (show SlBoxC xq gq 25 #[.slice none 0 0, .slice none 0 0] from by rw [hxq, hgq]; exact SlBoxC.new _ _ _)
      have HGQ := Lib.hid (show WW.heap.size ≤ gq from by rw [hgq]; exact HLX0.out.size)
      rw [← hxq] at hHeld ⊢
      rw [← hgq]
      clear hxq hgq hba
      refine wpAnyH_ready (rs := [2]) (by kernel_rfl) (by simp) ?_
      refine AllReadyH.cons rfl (fun K hK => ?_) AllReadyH.nil
      go_simp
      refine (slclonei_any _ (HIN.out _ HLxq.out) (HBX.out _ HLxq.out) HN1.out).mono ?_
      rintro e wa ⟨u1, rfl, hu1, hba⟩
      obtain ⟨Au1, cu1, rfl⟩ := own_slice hu1
      have HLwa := Lib.hid (chain HLxq.out hba)
      replace HQ := Lib.hid (HQ.out.below hba HQ.out.lt)
      have HU1 := Lib.hid (own_base hu1 HLxq.out.size)
      clear hba hu1
      refine hK.out _ _ (HS.out _ HLwa.out) (fun hHeld => ?_)
      clear hK K
      (try simp only [Act.put, pt8])
      refine wpAnyH_ready (rs := [7]) (by kernel_rfl) (by simp) ?_
      refine AllReadyH.cons rfl (fun K hK => ?_) AllReadyH.nil
      go_simp
      refine (withs_any fenS _ (HTH.out _ HLwa.out) (HBX.out _ HLwa.out) (HMP.out _ HLwa.out) (HBP.out _ HLwa.out) HN2.out HN3.out).mono ?_
      rintro e wb ⟨gm, vs, rfl, hmo, hro, hba⟩
      have HLwb := Lib.hid (chain HLwa.out hba)
      replace HU1 := Lib.hid (own_below HU1.out hba)
      replace HQ := Lib.hid (HQ.out.below hba HQ.out.lt)
      have HMO := Lib.hid (own_base hmo HLwa.out.size)
      have HRO := Lib.hid (rows_base hro HLwa.out.size)
      clear hba hmo hro
      refine hK.out _ _ (HS.out _ HLwb.out) (fun hHeld => ?_)
      clear hK K
      (try simp only [Act.put, pt8])
      refine wtk 8 ?_ ?_ ?_
      rotate_left
      · intro w hSw; (try dsimp only at hSw); go_simp; (try with_reducible rfl)
      (try simp only [Act.put, pt8])
      refine wpAnyH_ready (rs := [10]) (by kernel_rfl) (by simp) ?_
      refine AllReadyH.cons rfl (fun K hK => ?_) AllReadyH.nil
      have q0 := HQ.out.cell 0 _ rfl
      have q1 := HQ.out.cell 1 _ rfl
      have f0 := HQ.out.frozen 0
      have f1 := HQ.out.frozen 1
      go_simp
      refine hK.out _ _ (HS.out _ ((HLwb.out.setCell (p := ⟨gq, 0, none⟩) HGQ.out _).setCell (p := ⟨gq, 1, none⟩) HGQ.out _)) (fun hHeld => ?_)
      clear hK K
      (try simp only [Act.put, pt8])
      clear q0 q1 f0 f1
      refine wpAnyH_done (by kernel_rfl) ?_ _
      have HIS := Lib.hid (is_made HU1.out HMO.out HRO.out HQ.out HGQ.out HLwb.out)
      clear hHeld
      go_wp2_with fail
      go_meet
      exact ⟨gq, gm, vs, _, rfl, HIS.out⟩
  case rest =>
    obtain ⟨gq, gm, vs, ui, rfl, hIS⟩ := hcut
    obtain ⟨Au1, cu1, rfl⟩ := own_slice hIS.ini
    obtain ⟨R, hR⟩ : ∃ R : Nat → List St, R = (fun (t : Nat) => wthN (fun q => f (t : Int) (q : Int)) fenS (P.ths.getD t []) (P.ths.getD t []).length) := ⟨_, rfl⟩
    obtain ⟨M, hM⟩ : ∃ M : Nat → St → St, M = fun (t : Nat) => mv (fun q => f (t : Int) (q : Int)) (P.ths.getD t []).length := ⟨_, rfl⟩
    rw [← hR, ← rowsG_zero (fun t => (R t).map (M t)) R] at hIS
    have HI0 := Lib.hid hIS
    have HINS := Lib.hid (show insP P g = ⟨P.init, (List.range P.ths.length).map fun t => (R t).map (M t)⟩ from by rw [← insF_eq HF.out, hR, hM]; rfl)
    have HRL := Lib.hid (fun (t : Nat) (ht : t < P.ths.length) => show (R t).length ≤ 2000000 from by
      have h1 := wthN_len (fun q => f (t : Int) (q : Int)) fenS (P.ths.getD t []) (P.ths.getD t []).length
      have h2 := HN3.out _ (List.getElem_mem ht)
      rw [hR]; simp only [SlM.getD_at ht] at h1 ⊢; omega)
    have HRJ := Lib.hid (fun (t : Nat) (ht : t < P.ths.length) (s : St) (hs : s ∈ R t) (hjs : jmpS s = true) => show ∃ tn : Nat, s.5 = (tn : Int) ∧ tn ≤ 1000000 from by
      rw [hR] at hs
      rcases mem_wthN hs with rfl | hs
      · cases hjs
      · rw [SlM.getD_at ht] at hs
        obtain ⟨h1, h2⟩ := HJ.out _ (List.getElem_mem ht) s hs hjs
        exact ⟨s.5.toNat, by omega, by omega⟩)
    have HMJ := Lib.hid (fun (t : Nat) (ht : t < P.ths.length) (s : St) => show M t s = mv (fun q => f (t : Int) (q : Int)) P.ths[t].length s from by rw [hM]; simp only [SlM.getD_at ht])
    clear hR hM hIS HF
    have b1 := HI0.out.box.cell 1 _ rfl
    have b0 := HI0.out.box.cell 0 _ rfl
    go_wp2
    go_loopw [28] (fun i wr => ∃ j : Nat, j ≤ P.ths.length ∧ i = .int .i64 j ∧ IS WW.heap.size WW P.init (.slice Au1 P.init.length cu1) gm gq P.ths.length vs (rowsG (fun t => (R t).map (M t)) R (R j) P.ths.length j) wr) (fun i _ => P.ths.length - (intOf i).toNat)
    case atStart => exact ⟨0, Nat.zero_le _, rfl, HI0.out⟩
    case round =>
      clear b0 b1
      obtain ⟨j, hj, rfl, hI⟩ := hrel
      by_cases hlt : j < P.ths.length
      · obtain ⟨u, hu, ho⟩ := hI.rows.own j (by rw [rowsG_len]; exact hlt)
        rw [rowsG_at _ _ _ hlt] at ho
        obtain ⟨Aj, cj, rfl⟩ := own_slice ho
        have c32 : wr.cell? ⟨gm, j, none⟩ = some (.slice Aj (R j).length cj) := by rw [hI.more.cellAt j (by omega)]; exact hu
        have pb1 := (HPW.out.below hI.below HPW.out.lt).cell 1 _ rfl
        obtain ⟨A', c', e', -, -, hth⟩ := HTH.out wr hI.below
        simp only [Value.slice.injEq, true_and] at e'
        obtain ⟨rfl, rfl⟩ := e'
        obtain ⟨b2, f2, rfl, hb2, hcl⟩ := hth (by omega)
        obtain ⟨vv, hvv, hsts⟩ := hcl j hlt
        obtain ⟨A2, c2, rfl, -⟩ := hsts
        have hlj : P.ths[j].length ≤ 1000000 := HN3.out _ (List.getElem_mem hlt)
        have hrl := HRL.out j hlt
        have hrj := Lib.hid (HRJ.out j hlt)
        have hmj := Lib.hid (HMJ.out j hlt)
        have HU := Lib.hid hu
        have HI := Lib.hid hI
        have hNX := Lib.hid (rowsG_next (fun t => (R t).map (M t)) R P.ths.length j)
        have hSE := Lib.hid (fun q q' => rowsG_set (fun t => (R t).map (M t)) R q q' hlt)
        clear hth hcl hu ho
        generalize P.ths[j].length = lj at *
        go_wp2_with fail
        refine (landing_any bp _ _ _).mono ?_
        rintro e wl ⟨gf, gt, ge, rfl, bF, bT, bE, hbl⟩
        have HI1 := Lib.hid (HI.out.grow hbl (Nat.le_refl _))
        have HF1 := Lib.hid bF
        have HT1 := Lib.hid bT
        have HE1 := Lib.hid bE
        clear c32 pb1 hvv hI hbl bF bT bE
        obtain ⟨RJ, hRJ⟩ : ∃ r, r = R j := ⟨_, rfl⟩
        rw [← hRJ] at HU HI1 hrl hrj hNX ⊢
        clear hRJ HI
        go_wp2_with fail
        go_loopw [44] (fun i wr => ∃ k : Nat, k ≤ RJ.length ∧ i = .int .i64 k ∧ IS WW.heap.size WW P.init (.slice Au1 P.init.length cu1) gm gq P.ths.length vs (rowsG (fun t => (R t).map (M t)) R (pm (M j) RJ k) P.ths.length j) wr ∧ SlBoxC wr gf 96 #[.map (some bp)] ∧ SlBoxC wr gt 3 #[.int .i64 (j : Int)] ∧ SlBoxC wr ge 3 #[.int .i64 (lj : Int)]) (fun i _ => RJ.length - (intOf i).toNat)
        case atStart => exact ⟨0, Nat.zero_le _, rfl, HI1.out, HF1.out, HT1.out, HE1.out⟩
        case round =>
          obtain ⟨k, hk, rfl, hI, bF, bT, bE⟩ := hrel
          by_cases hlt2 : k < RJ.length
          · obtain ⟨hj', ho⟩ := hI.rows.of HU.out
            rw [rowsG_at _ _ _ hlt, pm_len] at ho
            obtain ⟨gj, cap, e, hgj1, hgj2⟩ := ho.form (by omega)
            injection e with e1 _ e3
            subst e1; subst e3
            have hz : ∀ i, i < 5 → wr.cell? ⟨gj, k * 5 + i, none⟩ = (stCs RJ[k])[i]? := fun i hi => by
              rw [ho.cellAt (k * 5 + i) (by omega), stsCs_at (pm (M j) RJ k) k i (by rw [pm_len]; exact hlt2) hi, pm_at (M j) RJ hlt2]
            have HO := Lib.hid ho
            have HSM := Lib.hid (fun (h : M j RJ[k] = RJ[k]) => pm_same (M j) RJ hlt2 h)
            have HPN := Lib.hid (pm_next (M j) RJ hlt2)
            have HPA := Lib.hid (fun L => show stsCs ((pm (M j) RJ k).set k ⟨RJ[k].op, RJ[k].reg, RJ[k].loc, RJ[k].n, L⟩) = (stsCs (pm (M j) RJ k)).set (k * 5 + 4) (.int .i64 L) from by
              have := stsCs_set (pm (M j) RJ k) k (by rw [pm_len]; exact hlt2) L
              rw [pm_at (M j) RJ hlt2] at this; exact this)
            have hjy := Lib.hid (hrj.out RJ[k] (List.getElem_mem hlt2))
            have hmy := Lib.hid (hmj.out RJ[k])
            have HI := Lib.hid hI
            have HFB := Lib.hid bF
            have HTB := Lib.hid bT
            have HEB := Lib.hid bE
            clear ho bF bT bE
            obtain ⟨y, hy⟩ : ∃ y, y = RJ[k] := ⟨_, rfl⟩
            rw [← hy] at hz HSM HPN HPA hjy hmy
            clear hy hI
            obtain ⟨ya, yb, yc, yd, yt⟩ := y
            have z0 : wr.cell? ⟨gj, k * 5, none⟩ = some (.int .i64 ya) := hz 0 (by omega)
            have z1 : wr.cell? ⟨gj, k * 5 + 1, none⟩ = some (.int .i64 yb) := hz 1 (by omega)
            have z2 : wr.cell? ⟨gj, k * 5 + 2, none⟩ = some (.int .i64 yc) := hz 2 (by omega)
            have z3 : wr.cell? ⟨gj, k * 5 + 3, none⟩ = some (.int .i64 yd) := hz 3 (by omega)
            have z4 : wr.cell? ⟨gj, k * 5 + 4, none⟩ = some (.int .i64 yt) := hz 4 (by omega)
            clear hz
            cases hjmp : jmpS ⟨ya, yb, yc, yd, yt⟩
            · have hmm : M j ⟨ya, yb, yc, yd, yt⟩ = ⟨ya, yb, yc, yd, yt⟩ := by rw [hmy.out]; unfold mv; rw [hjmp]; rfl
              have HSN := Lib.hid (HSM.out hmm)
              clear hmm hjy hmy HPN HPA HSM
              go_wp2_with fail
              refine (jump_any ⟨ya, yb, yc, yd, yt⟩ _).mono ?_
              rw [hjmp]
              rintro e wq ⟨rfl, hbq⟩
              have hb' := Lib.hid (chain (below_al (Below.refl wr.heap.size wr) _) hbq)
              clear hbq z0 z1 z2 z3 z4 hjmp
              go_wp2_with fail
              go_roundw
              case rel => exact ⟨k + 1, by omega, by go_num, by rw [HSN.out]; exact HI.out.grow hb'.out (Nat.le_refl _), HFB.out.below hb'.out HFB.out.lt, HTB.out.below hb'.out HTB.out.lt, HEB.out.below hb'.out HEB.out.lt⟩
              case measure => simp [intOf]; omega
            · obtain ⟨tn, htn, htl⟩ := hjy.out hjmp
              replace htn : yt = (tn : Int) := htn
              subst htn
              obtain ⟨L, hL⟩ : ∃ L, L = land (fun q => f (j : Int) (q : Int)) lj tn := ⟨_, rfl⟩
              have hmm : M j ⟨ya, yb, yc, yd, (tn : Int)⟩ = ⟨ya, yb, yc, yd, L⟩ := by rw [hmy.out]; unfold mv; rw [hjmp, hL]; rfl
              have HPN2 := Lib.hid (show stsCs (pm (M j) RJ (k + 1)) = (stsCs (pm (M j) RJ k)).set (k * 5 + 4) (.int .i64 L) from by rw [HPN.out, hmm]; exact HPA.out L)
              have HLL := Lib.hid (show ∀ (W : World), W.cell? ⟨ge, 0, none⟩ = some (.int .i64 (lj : Int)) → W.cell? ⟨gf, 0, none⟩ = some (.map (some bp)) → W.cell? ⟨gt, 0, none⟩ = some (.int .i64 (j : Int)) → MapP W bp (many anyS P.ths) f →
                  Calls Tryz.prog 75 #[.int .i64 (tn : Int), .pointer (some ⟨ge, 0, none⟩), .pointer (some ⟨gf, 0, none⟩), .pointer (some ⟨gt, 0, none⟩)] W fun e w' => e = .returned (.int .i64 L) ∧ w' = W from fun W h1 h2 h3 h4 => by rw [hL]; exact land_any tn W h1 h2 h3 h4 hlj (by omega) htl)
              clear hmm hjy hmy HPN HPA HSM hL
              go_wp2_with fail
              refine (jump_any ⟨ya, yb, yc, yd, (tn : Int)⟩ _).mono ?_
              rw [hjmp]
              rintro e wq ⟨rfl, hbq⟩
              have bX := (SlBoxC.new wr 75 #[.int .i64 ya, .int .i64 yb, .int .i64 yc, .int .i64 yd, .int .i64 (tn : Int)])
              have k4 := (bX.below hbq bX.lt).cell 4 _ rfl
              have hb' := Lib.hid (chain (below_al (Below.refl wr.heap.size wr) _) hbq)
              have HIq := Lib.hid (HI.out.grow hb'.out (Nat.le_refl _))
              have HFq := Lib.hid (HFB.out.below hb'.out HFB.out.lt)
              have HTq := Lib.hid (HTB.out.below hb'.out HTB.out.lt)
              have HEq := Lib.hid (HEB.out.below hb'.out HEB.out.lt)
              have HOq := Lib.hid (own_below HO.out hb'.out)
              have zq := kc hb'.out z4
              have fq := HOq.out.frozenAt (k * 5 + 4)
              have HMq := Lib.hid (HMP.out wq HIq.out.below)
              clear hbq z0 z1 z2 z3 z4 hjmp bX
              go_wp2_with fail
              refine (HLL.out _ (HEq.out.cell 0 _ rfl) (HFq.out.cell 0 _ rfl) (HTq.out.cell 0 _ rfl) HMq.out).mono ?_
              rintro e wz ⟨rfl, rfl⟩
              go_wp2_with fail
              go_roundw
              case rel =>
                have hc := HIq.out.cell (m := k * 5 + 4) HU.out (v := .int .i64 L) (ys := pm (M j) RJ (k + 1)) (by rw [rowsG_len]; exact hlt) (by rw [rowsG_at _ _ _ hlt, pm_len, pm_len]) (by rw [rowsG_at _ _ _ hlt]; exact HPN2.out)
                rw [hSE.out] at hc
                have hne : ∀ {g : Nat} {T : TypeId} {cs : Array Value}, SlBoxC wz g T cs → 75 ≠ T → g ≠ gj := fun hb hT e => by
                  rcases slown_box HOq.out hb hT with e2 | e2
                  · cases e2
                  · exact e2 (by rw [e]; rfl)
                exact ⟨k + 1, by omega, by go_num, hc.1, HFq.out.other (hne HFq.out (by decide)) _ _, HTq.out.other (hne HTq.out (by decide)) _ _, HEq.out.other (hne HEq.out (by decide)) _ _⟩
              case measure => simp [intOf]; omega
          · obtain rfl : RJ.length = k := by omega
            rw [pm_end] at hI
            have HIe := Lib.hid hI
            clear hI bF bT bE
            go_wp2
            go_roundw
            case rel => exact ⟨j + 1, by omega, by go_num, by rw [← hNX.out]; exact HIe.out⟩
            case measure => simp [intOf]; omega
      · obtain rfl : P.ths.length = j := by omega
        rw [rowsG_end] at hI
        have hz : Tryz.prog.cellsOf 25 = 2 := by kernel_rfl
        have hRr := HRW.out.below hI.below HRW.out.lt
        have q0 := hI.box.cell 0 _ rfl
        have q1 := hI.box.cell 1 _ rfl
        have r0 := hRr.cell 0 _ rfl
        have r1 := hRr.cell 1 _ rfl
        have g0 := hRr.frozen 0
        have g1 := hRr.frozen 1
        have HIe := Lib.hid hI
        have HRr := Lib.hid hRr
        clear hI hRr
        go_wp2
        have hZ9 := (HRr.out.set 0 (.slice Au1 P.init.length cu1)).set 1 (.slice (some ⟨gm, 0, none⟩) P.ths.length P.ths.length)
        have e0 := hZ9.cell 0 _ rfl
        have e1 := hZ9.cell 1 _ rfl
        have hgb : w.heap.size + 1 < WW.heap.size := HRW.out.lt
        have k9 : ∀ {s m : Nat} {T : TypeId} {v : Value} {xs : List Value}, wr.ownsRow WW.heap.size T s v m xs → ((wr.setCell ⟨w.heap.size + 1, 0, none⟩ (.slice Au1 P.init.length cu1)).setCell ⟨w.heap.size + 1, 1, none⟩ (.slice (some ⟨gm, 0, none⟩) P.ths.length P.ths.length)).ownsRow WW.heap.size T s v m xs := fun h =>
          ownsRow_setCell_below (ownsRow_setCell_below h (a := ⟨w.heap.size + 1, 0, none⟩) hgb _) (a := ⟨w.heap.size + 1, 1, none⟩) hgb _
        have hB9 := ((hBW.out.trans (HIe.out.below.mono hBW.out.size)).setCell (p := ⟨w.heap.size + 1, 0, none⟩) (show w.heap.size ≤ w.heap.size + 1 by omega) (.slice Au1 P.init.length cu1)).setCell (p := ⟨w.heap.size + 1, 1, none⟩) (show w.heap.size ≤ w.heap.size + 1 by omega) (.slice (some ⟨gm, 0, none⟩) P.ths.length P.ths.length)
        refine bodyPost_ret (v := .agg #[.slice Au1 P.init.length cu1, .slice (some ⟨gm, 0, none⟩) P.ths.length P.ths.length]) (by simp [results, Tryz.results35, go_sem, e0, e1, hz]) rfl ?_
        rw [HINS.out]
        have hlen : ((List.range P.ths.length).map fun t => (R t).map (M t)).length = P.ths.length := by simp
        refine ⟨_, rfl, ⟨_, _, vs, rfl, own_base (k9 HIe.out.ini) hBW.out.size, own_base (by rw [hlen]; exact k9 HIe.out.more) hBW.out.size, fun q hq => ?_⟩, hB9⟩
        obtain ⟨u, h1, h2⟩ := HIe.out.rows.own q hq
        exact ⟨u, h1, own_base (k9 h2) hBW.out.size⟩
end Go.Proofs.YtlpjgaeelnlipaaGreat
