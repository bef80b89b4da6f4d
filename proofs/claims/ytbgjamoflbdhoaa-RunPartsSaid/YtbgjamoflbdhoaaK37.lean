/-
  THE DOCUMENT's Begin of layer 10.
  LAYER 13: THE DOCUMENT's Step of a run, and its Run.
-/
import Derived.Test.YtbgjamoflbdhoaaK04
import Derived.Test.YtbgjamoflbdhoaaScAt
import Derived.Deep.RegionHeld3
import Derived.Deep.DeepCutAuto
import Derived.Test.YtbgjamoflbdhoaaK17
import Derived.Test.YtbgjamoflbdhoaaTsJ
import Derived.Test.YtbgjamoflbdhoaaScSt
set_option linter.unusedVariables false
set_option linter.unusedSimpArgs false
namespace Go.Proofs.Ytbgjamoflbdhoaa
open Go.RowKit
set_option linter.unusedVariables false
set_option linter.unusedSimpArgs false
open CodM (St Pg rightP)
open BfM (Wr plc)
open ScM

set_option maxHeartbeats 8000000 in
set_option maxRecDepth 100000 in
theorem rbegin_any {B : Nat} {v : Value} {P : Pg} (w : World) (hv : PgZ B w v P) (hBB : B ≤ w.heap.size) (hp : rightP P = true) :
    Calls Try.prog 34 #[v] w (StRet (beg P) w) := by
  obtain ⟨pi, pt, rfl, hpm, hpi⟩ := hv
  obtain ⟨hi4, ht1, ht3, -⟩ := right_ths hp
  obtain ⟨-, P1, d1, rfl, l1, l2, -⟩ := hpm
  obtain ⟨A0, c0, rfl, a1, a2, a0, a3⟩ := hpi
  unfold maxLen at l2 a2
  obtain ⟨i0, hi0, hz0, hz1, hz2⟩ := info_parts info_nu
  obtain ⟨i1', hi1', hy1, hy2, hy3⟩ := info_parts info_th
  have HCO := Lib.hid (show Try.prog.cellsOf 31 = 2 from by kernel_rfl)
  obtain ⟨W2, hW2⟩ : ∃ W, W = (w.alloc (.cells #[.slice A0 P.init.length c0, .slice P1 P.ths.length d1] 25)).alloc (.cells #[.slice none 0 0, .slice none 0 0] 31) := ⟨_, rfl⟩
  obtain ⟨gp, hgp⟩ : ∃ g, g = w.heap.size := ⟨_, rfl⟩
  obtain ⟨gr, hgr⟩ : ∃ g, g = w.heap.size + 1 := ⟨_, rfl⟩
  have HX := Lib.hid (show BoxC W2 gp 25 #[.slice A0 P.init.length c0, .slice P1 P.ths.length d1] from by rw [hW2, hgp]; exact (BoxC.new w _ _).alloc _)
  have HR := Lib.hid (show BoxC W2 gr 31 #[.slice none 0 0, .slice none 0 0] from by rw [hW2, hgr]; have := BoxC.new (w.alloc (.cells #[.slice A0 P.init.length c0, .slice P1 P.ths.length d1] 25)) 31 #[.slice none 0 0, .slice none 0 0]; rw [World.size_alloc] at this; exact this)
  have HB2 := Lib.hid (show Below w.heap.size w W2 from by rw [hW2]; exact below_al (below_al (Below.refl _ _) _) _)
  have HGR := Lib.hid (show w.heap.size ≤ gr from by omega)
  have HSRC := Lib.hid (fun W (hW : Below W2.heap.size W2 W) => src_rw (W := W) nuC_len a0 a3 ((chain HB2.out hW).mono hBB))
  have HTH := Lib.hid (show (beg P).ths = List.replicate P.ths.length begTh from by unfold beg; simp [List.map_const'])
  have x0 := HX.out.cell 0 _ rfl
  clear a3
  go_enter Try.func34, Try.ntmps34
  go_upto_region 1 with fail
  rw [← hW2]
  (try rw [← hgr])
  (try rw [← hgp])
  clear hW2 hgr hgp
  go_cut [3] (fun s3 wx => ∃ (gs : Nat) (vm : Value), s3 = .pointer (some ⟨gs, 0, none⟩) ∧ BoxC wx gs 31 #[vm, .slice none 0 0] ∧ OwnI W2.heap.size wx vm P.init ∧ Below W2.heap.size W2 wx ∧ W2.heap.size ≤ gs)
  case first =>
    have HE := Lib.hid (below_al (Below.refl W2.heap.size W2) (.cells #[] 3))
    have HO := Lib.hid (show (W2.alloc (.cells #[] 3)).ownsRow W2.heap.size 3 1 (.slice (some ⟨W2.heap.size, 0, none⟩) 0 0) 0 [] from World.ownsRow_lit (base := W2.heap.size) (e := 3) (size := 1) W2 #[] 0 (Nat.le_refl _) (by decide) rfl)
    have l0 := lt_of_cell x0
    have x0 := kc HE.out x0
    go_wp2_with (at_builtin; refine wpList_append_rw _ rfl _ _ 22 rfl W2.heap.size 3 i0 (.int .i64 0) 1 8 Try.underlying22 hi0 hz0 hz1 hz2 rfl (by decide) _ 0 [] rfl HO.out A0 P.init.length c0 (P.init.flatMap nuC) rfl (fl_len nuC_len P.init) a0 (HSRC.out _ HE.out) (one_nu P.init) (by unfold maxLen; omega) (by omega) (by simp) ?_; intro v1 wz hown1 hg1; rw [Nat.zero_add, List.nil_append] at hown1; obtain ⟨A8, c8, rfl⟩ := own_slice hown1)
    go_meet
    have hb1 := below_append HE.out HO.out (Nat.le_refl _) HE.out.size hg1
    have hb2 := below_al (Below.refl wz.heap.size wz) (.cells #[.slice A8 P.init.length c8, .slice none 0 0] 31)
    exact ⟨wz.heap.size, _, rfl, BoxC.new wz _ _, own_below hown1 hb2, chain hb1 hb2, hb1.size⟩
  case rest =>
    obtain ⟨gs, vm, rfl, hbs, hom, hBc, hgs⟩ := hcut
    have HBS := Lib.hid hbs
    have HOM := Lib.hid hom
    have HBC := Lib.hid hBc
    obtain ⟨Am, cm, rfl⟩ := own_slice hom
    clear hbs hom hBc x0
    have hmk := mk4
    go_wp2
    go_loopw [4] (fun i wr => ∃ (k : Nat) (vt : Value) (ps : List TV), k ≤ P.ths.length ∧ i = .int .i64 k ∧ BoxC wr gs 31 #[.slice Am P.init.length cm, vt] ∧ OwnSt W2.heap.size wr (.slice Am P.init.length cm) vt ⟨P.init, List.replicate k begTh⟩ ps ∧ Below W2.heap.size W2 wr) (fun i _ => P.ths.length - (intOf i).toNat)
    case atStart => exact ⟨0, _, [], Nat.zero_le _, rfl, HBS.out, OwnSt.nothing _ HOM.out, HBC.out⟩
    case round =>
      obtain ⟨k, vt, ps, hk, rfl, hbx, hos, hB⟩ := hrel
      have HBX := Lib.hid hbx
      have HOS := Lib.hid hos
      have HB := Lib.hid hB
      have HOT := Lib.hid (show wr.ownsRow W2.heap.size 55 4 vt k (ps.flatMap thC) from by have := hos.ths; rwa [show (⟨P.init, List.replicate k begTh⟩ : Sta).ths.length = k from List.length_replicate] at this)
      obtain ⟨Av, cv, rfl⟩ := own_slice HOT.out
      have HSZ := Lib.hid (show W2.heap.size ≤ wr.heap.size from hB.size)
      have x1 := (HX.out.below hB HX.out.lt).cell 1 _ rfl
      clear hbx hos hB
      by_cases hlt : k < P.ths.length
      · go_wp2
        have y1 := HBX.out.cell 1 _ rfl
        refine wp_region_held_drew (S := (fun w' => True)) (by kernel_rfl) trivial (fun hHeld => ?_)
        obtain ⟨Xa, hXa⟩ : ∃ W, W = wr.drew := ⟨_, rfl⟩
        have HLXa := Lib.hid (show Below wr.heap.size wr Xa from by rw [hXa]; exact below_drewN (Below.refl _ _) 1)
        rw [← hXa]
        clear hXa
        refine wpAnyH_take (i := 0) (v := ?_) rfl (by kernel_rfl) (by kernel_rfl) (by kernel_rfl) (fun _ _ _ h => h) (Or.inl ⟨by rfl, ?_⟩) (by assumption) ?_
        rotate_left
        · intro w hSw; (try dsimp only at hSw); go_simp; (try with_reducible rfl)
        (try simp only [Act.put, pt8])
        refine wpAnyH_ready (rs := [1, 2]) (by kernel_rfl) (by simp) ?_
        refine AllReadyH.cons rfl (fun K hK => ?_) (AllReadyH.cons rfl (fun K hK => ?_) (AllReadyH.nil))
        · -- 1 first
          have y2 := kc HLXa.out y1
          go_simp
          refine hK.out _ _ trivial (fun hHeld => ?_)
          clear hK K
          (try simp only [Act.put, pt8])
          clear y2
          refine wpAnyH_ready (rs := [2]) (by kernel_rfl) (by simp) ?_
          refine AllReadyH.cons rfl (fun K hK => ?_) AllReadyH.nil
          go_simp
          refine hK.out _ _ trivial (fun hHeld => ?_)
          clear hK K
          (try simp only [Act.put, pt8])
          obtain ⟨gn, hgn⟩ : ∃ g, g = Xa.heap.size := ⟨_, rfl⟩
          obtain ⟨X0, hX0⟩ : ∃ W, W = Xa.alloc (.cells #[.int .i64 0, .int .i64 0, .int .i64 0, .int .i64 0] 3) := ⟨_, rfl⟩
          have HLX0 := Lib.hid (show Below wr.heap.size wr X0 from by rw [hX0]; exact below_al HLXa.out _)
          have HON := Lib.hid (show OwnI wr.heap.size X0 (.slice (some ⟨gn, 0, none⟩) 4 4) [0, 0, 0, 0] from by rw [hX0, hgn]; exact World.ownsRow_lit (base := wr.heap.size) (e := 3) (size := 1) Xa #[.int .i64 0, .int .i64 0, .int .i64 0, .int .i64 0] 4 HLXa.out.size (by decide) rfl)
          rw [← hX0]
          rw [← hgn]
          clear hX0 hgn
          refine wpAnyH_take (i := 3) (v := ?_) rfl (by kernel_rfl) (by kernel_rfl) (by kernel_rfl) (fun _ _ _ h => h) (Or.inl ⟨by rfl, ?_⟩) (by assumption) ?_
          rotate_left
          · intro w hSw; (try dsimp only at hSw); go_simp; (try with_reducible rfl)
          (try simp only [Act.put, pt8])
          refine wpAnyH_ready (rs := [4]) (by kernel_rfl) (by simp) ?_
          refine AllReadyH.cons rfl (fun K hK => ?_) AllReadyH.nil
          go_simp
          refine hK.out _ _ trivial (fun hHeld => ?_)
          clear hK K
          (try simp only [Act.put, pt8])
          obtain ⟨gb, hgb⟩ : ∃ g, g = X0.heap.size := ⟨_, rfl⟩
          obtain ⟨X1, hX1⟩ : ∃ W, W = X0.alloc (.cells #[.int .i64 0, .slice (some ⟨gn, 0, none⟩) 4 4, .bool false, .slice none 0 0] 55) := ⟨_, rfl⟩
          have HLX1 := Lib.hid (show Below wr.heap.size wr X1 from by rw [hX1]; exact below_al HLX0.out _)
          have HF := Lib.hid (fun (j : Nat) (u : Value) (h : (thC ⟨begTh, .slice (some ⟨gn, 0, none⟩) 4 4, .slice none 0 0⟩)[j]? = some u) => (show X1.cell? ⟨gb, j, none⟩ = some u from by
            have e := World.news_of_block (heap_alloc_new X0 (.cells #[.int .i64 0, .slice (some ⟨gn, 0, none⟩) 4 4, .bool false, .slice none 0 0] 55)) j u h
            rw [Addr.add_lit, Nat.zero_add] at e
            rw [hX1, hgb]; exact e))
          replace HON := Lib.hid (own_below HON.out (show Below X0.heap.size X0 X1 from by rw [hX1]; exact below_al (Below.refl _ _) _))
          rw [← hX1]
          rw [← hgb]
          clear hX1 hgb
          refine wpAnyH_ready (rs := [5]) (by kernel_rfl) (by simp) ?_
          refine AllReadyH.cons rfl (fun K hK => ?_) AllReadyH.nil
          refine step_append_src (by rfl) _ _ _ (by rfl) W2.heap.size 55 i1' (.agg #[.int .i64 0, .slice none 0 0, .bool false, .slice none 0 0]) 4 64 Try.underlying29 hi1' hy1 hy2 hy3 (by rfl) (by decide) _ k (ps.flatMap thC) (by rfl) (own_below HOT.out HLX1.out) (some ⟨gb, 0, none⟩) 1 1 (thC ⟨begTh, .slice (some ⟨gn, 0, none⟩) 4 4, .slice none 0 0⟩) (by rfl) (by rfl) (fun c => (by cases c)) (fun ad e j u h => by injection e with e; rw [← e, Addr.add_lit, Nat.zero_add]; exact HF.out j u h) (one_th _ rfl rfl) (by unfold maxLen; omega) (by omega) (Nat.le_trans HSZ.out HLX1.out.size) (fun v2 w5 hown5 hg5 => ?_)
          have HO5 := Lib.hid ((HOS.out.below HLX1.out).snoc ⟨begTh, .slice (some ⟨gn, 0, none⟩) 4 4, .slice none 0 0⟩ (own_base HON.out HSZ.out) (World.ownsRow_nil _ _ _ _) (HOS.out.new_r HON.out (Nat.le_refl _)).1 (HOS.out.new_r HON.out (Nat.le_refl _)).2 (by simpa using hown5) hg5)
          have HB5 := Lib.hid (below_append (HB.out.trans (HLX1.out.mono HB.out.size)) (own_below HOT.out HLX1.out) (Nat.le_refl _) (Nat.le_trans HB.out.size HLX1.out.size) hg5)
          have HBX5 := Lib.hid ((HBX.out.below HLX1.out HBX.out.lt).grown (by decide) (own_below HOT.out HLX1.out) hg5)
          have HBR5 := Lib.hid (HR.out.below HB5.out HR.out.lt)
          obtain ⟨A5, c5, rfl⟩ := own_slice hown5
          have y5 := HBX5.out.cell 1 _ rfl
          have f5 := HBX5.out.frozen 1
          clear hown5 hg5 HF HON
          refine hK.out _ _ trivial (fun hHeld => ?_)
          clear hK K
          (try simp only [Act.put, pt8])
          refine wpAnyH_take (i := 6) (v := ?_) rfl (by kernel_rfl) (by kernel_rfl) (by kernel_rfl) (fun _ _ _ h => h) (Or.inl ⟨by rfl, ?_⟩) (by assumption) ?_
          rotate_left
          · intro w hSw; (try dsimp only at hSw); go_simp; (try with_reducible rfl)
          (try simp only [Act.put, pt8])
          refine wpAnyH_ready (rs := [7]) (by kernel_rfl) (by simp) ?_
          refine AllReadyH.cons rfl (fun K hK => ?_) AllReadyH.nil
          go_simp
          refine hK.out _ _ trivial (fun hHeld => ?_)
          clear hK K
          (try simp only [Act.put, pt8])
          refine wpAnyH_done (by kernel_rfl) ?_ _
          clear hHeld
          go_wp2_with fail
          clear y5 f5
          go_roundw
          case rel => exact ⟨k + 1, _, _, by omega, by go_num, HBX5.out.set 1 _, by rw [List.replicate_succ']; exact HO5.out.box HBX5.out (by decide) (by decide) (by decide) 1 _, HB5.out.setCell (p := ⟨gs, 1, none⟩) hgs _⟩
          case measure => simp [intOf]; omega
        · -- 2 first
          go_simp
          refine hK.out _ _ trivial (fun hHeld => ?_)
          clear hK K
          (try simp only [Act.put, pt8])
          obtain ⟨gn, hgn⟩ : ∃ g, g = Xa.heap.size := ⟨_, rfl⟩
          obtain ⟨X0, hX0⟩ : ∃ W, W = Xa.alloc (.cells #[.int .i64 0, .int .i64 0, .int .i64 0, .int .i64 0] 3) := ⟨_, rfl⟩
          have HLX0 := Lib.hid (show Below wr.heap.size wr X0 from by rw [hX0]; exact below_al HLXa.out _)
          have HON := Lib.hid (show OwnI wr.heap.size X0 (.slice (some ⟨gn, 0, none⟩) 4 4) [0, 0, 0, 0] from by rw [hX0, hgn]; exact World.ownsRow_lit (base := wr.heap.size) (e := 3) (size := 1) Xa #[.int .i64 0, .int .i64 0, .int .i64 0, .int .i64 0] 4 HLXa.out.size (by decide) rfl)
          rw [← hX0]
          rw [← hgn]
          clear hX0 hgn
          refine wpAnyH_take (i := 3) (v := ?_) rfl (by kernel_rfl) (by kernel_rfl) (by kernel_rfl) (fun _ _ _ h => h) (Or.inl ⟨by rfl, ?_⟩) (by assumption) ?_
          rotate_left
          · intro w hSw; (try dsimp only at hSw); go_simp; (try with_reducible rfl)
          (try simp only [Act.put, pt8])
          refine wpAnyH_ready (rs := [1, 4]) (by kernel_rfl) (by simp) ?_
          refine AllReadyH.cons rfl (fun K hK => ?_) (AllReadyH.cons rfl (fun K hK => ?_) (AllReadyH.nil))
          · -- 1 first
            have y2 := kc HLX0.out y1
            go_simp
            refine hK.out _ _ trivial (fun hHeld => ?_)
            clear hK K
            (try simp only [Act.put, pt8])
            clear y2
            refine wpAnyH_ready (rs := [4]) (by kernel_rfl) (by simp) ?_
            refine AllReadyH.cons rfl (fun K hK => ?_) AllReadyH.nil
            go_simp
            refine hK.out _ _ trivial (fun hHeld => ?_)
            clear hK K
            (try simp only [Act.put, pt8])
            obtain ⟨gb, hgb⟩ : ∃ g, g = X0.heap.size := ⟨_, rfl⟩
            obtain ⟨X1, hX1⟩ : ∃ W, W = X0.alloc (.cells #[.int .i64 0, .slice (some ⟨gn, 0, none⟩) 4 4, .bool false, .slice none 0 0] 55) := ⟨_, rfl⟩
            have HLX1 := Lib.hid (show Below wr.heap.size wr X1 from by rw [hX1]; exact below_al HLX0.out _)
            have HF := Lib.hid (fun (j : Nat) (u : Value) (h : (thC ⟨begTh, .slice (some ⟨gn, 0, none⟩) 4 4, .slice none 0 0⟩)[j]? = some u) => (show X1.cell? ⟨gb, j, none⟩ = some u from by
              have e := World.news_of_block (heap_alloc_new X0 (.cells #[.int .i64 0, .slice (some ⟨gn, 0, none⟩) 4 4, .bool false, .slice none 0 0] 55)) j u h
              rw [Addr.add_lit, Nat.zero_add] at e
              rw [hX1, hgb]; exact e))
            replace HON := Lib.hid (own_below HON.out (show Below X0.heap.size X0 X1 from by rw [hX1]; exact below_al (Below.refl _ _) _))
            rw [← hX1]
            rw [← hgb]
            clear hX1 hgb
            refine wpAnyH_ready (rs := [5]) (by kernel_rfl) (by simp) ?_
            refine AllReadyH.cons rfl (fun K hK => ?_) AllReadyH.nil
            refine step_append_src (by rfl) _ _ _ (by rfl) W2.heap.size 55 i1' (.agg #[.int .i64 0, .slice none 0 0, .bool false, .slice none 0 0]) 4 64 Try.underlying29 hi1' hy1 hy2 hy3 (by rfl) (by decide) _ k (ps.flatMap thC) (by rfl) (own_below HOT.out HLX1.out) (some ⟨gb, 0, none⟩) 1 1 (thC ⟨begTh, .slice (some ⟨gn, 0, none⟩) 4 4, .slice none 0 0⟩) (by rfl) (by rfl) (fun c => (by cases c)) (fun ad e j u h => by injection e with e; rw [← e, Addr.add_lit, Nat.zero_add]; exact HF.out j u h) (one_th _ rfl rfl) (by unfold maxLen; omega) (by omega) (Nat.le_trans HSZ.out HLX1.out.size) (fun v2 w5 hown5 hg5 => ?_)
            have HO5 := Lib.hid ((HOS.out.below HLX1.out).snoc ⟨begTh, .slice (some ⟨gn, 0, none⟩) 4 4, .slice none 0 0⟩ (own_base HON.out HSZ.out) (World.ownsRow_nil _ _ _ _) (HOS.out.new_r HON.out (Nat.le_refl _)).1 (HOS.out.new_r HON.out (Nat.le_refl _)).2 (by simpa using hown5) hg5)
            have HB5 := Lib.hid (below_append (HB.out.trans (HLX1.out.mono HB.out.size)) (own_below HOT.out HLX1.out) (Nat.le_refl _) (Nat.le_trans HB.out.size HLX1.out.size) hg5)
            have HBX5 := Lib.hid ((HBX.out.below HLX1.out HBX.out.lt).grown (by decide) (own_below HOT.out HLX1.out) hg5)
            have HBR5 := Lib.hid (HR.out.below HB5.out HR.out.lt)
            obtain ⟨A5, c5, rfl⟩ := own_slice hown5
            have y5 := HBX5.out.cell 1 _ rfl
            have f5 := HBX5.out.frozen 1
            clear hown5 hg5 HF HON
            refine hK.out _ _ trivial (fun hHeld => ?_)
            clear hK K
            (try simp only [Act.put, pt8])
            refine wpAnyH_take (i := 6) (v := ?_) rfl (by kernel_rfl) (by kernel_rfl) (by kernel_rfl) (fun _ _ _ h => h) (Or.inl ⟨by rfl, ?_⟩) (by assumption) ?_
            rotate_left
            · intro w hSw; (try dsimp only at hSw); go_simp; (try with_reducible rfl)
            (try simp only [Act.put, pt8])
            refine wpAnyH_ready (rs := [7]) (by kernel_rfl) (by simp) ?_
            refine AllReadyH.cons rfl (fun K hK => ?_) AllReadyH.nil
            go_simp
            refine hK.out _ _ trivial (fun hHeld => ?_)
            clear hK K
            (try simp only [Act.put, pt8])
            refine wpAnyH_done (by kernel_rfl) ?_ _
            clear hHeld
            go_wp2_with fail
            clear y5 f5
            go_roundw
            case rel => exact ⟨k + 1, _, _, by omega, by go_num, HBX5.out.set 1 _, by rw [List.replicate_succ']; exact HO5.out.box HBX5.out (by decide) (by decide) (by decide) 1 _, HB5.out.setCell (p := ⟨gs, 1, none⟩) hgs _⟩
            case measure => simp [intOf]; omega
          · -- 4 first
            go_simp
            refine hK.out _ _ trivial (fun hHeld => ?_)
            clear hK K
            (try simp only [Act.put, pt8])
            obtain ⟨gb, hgb⟩ : ∃ g, g = X0.heap.size := ⟨_, rfl⟩
            obtain ⟨X1, hX1⟩ : ∃ W, W = X0.alloc (.cells #[.int .i64 0, .slice (some ⟨gn, 0, none⟩) 4 4, .bool false, .slice none 0 0] 55) := ⟨_, rfl⟩
            have HLX1 := Lib.hid (show Below wr.heap.size wr X1 from by rw [hX1]; exact below_al HLX0.out _)
            have HF := Lib.hid (fun (j : Nat) (u : Value) (h : (thC ⟨begTh, .slice (some ⟨gn, 0, none⟩) 4 4, .slice none 0 0⟩)[j]? = some u) => (show X1.cell? ⟨gb, j, none⟩ = some u from by
              have e := World.news_of_block (heap_alloc_new X0 (.cells #[.int .i64 0, .slice (some ⟨gn, 0, none⟩) 4 4, .bool false, .slice none 0 0] 55)) j u h
              rw [Addr.add_lit, Nat.zero_add] at e
              rw [hX1, hgb]; exact e))
            replace HON := Lib.hid (own_below HON.out (show Below X0.heap.size X0 X1 from by rw [hX1]; exact below_al (Below.refl _ _) _))
            rw [← hX1]
            rw [← hgb]
            clear hX1 hgb
            refine wpAnyH_ready (rs := [1]) (by kernel_rfl) (by simp) ?_
            refine AllReadyH.cons rfl (fun K hK => ?_) AllReadyH.nil
            have y2 := kc HLX1.out y1
            go_simp
            refine hK.out _ _ trivial (fun hHeld => ?_)
            clear hK K
            (try simp only [Act.put, pt8])
            clear y2
            refine wpAnyH_ready (rs := [5]) (by kernel_rfl) (by simp) ?_
            refine AllReadyH.cons rfl (fun K hK => ?_) AllReadyH.nil
            refine step_append_src (by rfl) _ _ _ (by rfl) W2.heap.size 55 i1' (.agg #[.int .i64 0, .slice none 0 0, .bool false, .slice none 0 0]) 4 64 Try.underlying29 hi1' hy1 hy2 hy3 (by rfl) (by decide) _ k (ps.flatMap thC) (by rfl) (own_below HOT.out HLX1.out) (some ⟨gb, 0, none⟩) 1 1 (thC ⟨begTh, .slice (some ⟨gn, 0, none⟩) 4 4, .slice none 0 0⟩) (by rfl) (by rfl) (fun c => (by cases c)) (fun ad e j u h => by injection e with e; rw [← e, Addr.add_lit, Nat.zero_add]; exact HF.out j u h) (one_th _ rfl rfl) (by unfold maxLen; omega) (by omega) (Nat.le_trans HSZ.out HLX1.out.size) (fun v2 w5 hown5 hg5 => ?_)
            have HO5 := Lib.hid ((HOS.out.below HLX1.out).snoc ⟨begTh, .slice (some ⟨gn, 0, none⟩) 4 4, .slice none 0 0⟩ (own_base HON.out HSZ.out) (World.ownsRow_nil _ _ _ _) (HOS.out.new_r HON.out (Nat.le_refl _)).1 (HOS.out.new_r HON.out (Nat.le_refl _)).2 (by simpa using hown5) hg5)
            have HB5 := Lib.hid (below_append (HB.out.trans (HLX1.out.mono HB.out.size)) (own_below HOT.out HLX1.out) (Nat.le_refl _) (Nat.le_trans HB.out.size HLX1.out.size) hg5)
            have HBX5 := Lib.hid ((HBX.out.below HLX1.out HBX.out.lt).grown (by decide) (own_below HOT.out HLX1.out) hg5)
            have HBR5 := Lib.hid (HR.out.below HB5.out HR.out.lt)
            obtain ⟨A5, c5, rfl⟩ := own_slice hown5
            have y5 := HBX5.out.cell 1 _ rfl
            have f5 := HBX5.out.frozen 1
            clear hown5 hg5 HF HON
            refine hK.out _ _ trivial (fun hHeld => ?_)
            clear hK K
            (try simp only [Act.put, pt8])
            refine wpAnyH_take (i := 6) (v := ?_) rfl (by kernel_rfl) (by kernel_rfl) (by kernel_rfl) (fun _ _ _ h => h) (Or.inl ⟨by rfl, ?_⟩) (by assumption) ?_
            rotate_left
            · intro w hSw; (try dsimp only at hSw); go_simp; (try with_reducible rfl)
            (try simp only [Act.put, pt8])
            refine wpAnyH_ready (rs := [7]) (by kernel_rfl) (by simp) ?_
            refine AllReadyH.cons rfl (fun K hK => ?_) AllReadyH.nil
            go_simp
            refine hK.out _ _ trivial (fun hHeld => ?_)
            clear hK K
            (try simp only [Act.put, pt8])
            refine wpAnyH_done (by kernel_rfl) ?_ _
            clear hHeld
            go_wp2_with fail
            clear y5 f5
            go_roundw
            case rel => exact ⟨k + 1, _, _, by omega, by go_num, HBX5.out.set 1 _, by rw [List.replicate_succ']; exact HO5.out.box HBX5.out (by decide) (by decide) (by decide) 1 _, HB5.out.setCell (p := ⟨gs, 1, none⟩) hgs _⟩
            case measure => simp [intOf]; omega
      · obtain rfl : P.ths.length = k := by omega
        have y0 := HBX.out.cell 0 _ rfl
        have y1 := HBX.out.cell 1 _ rfl
        have HRR := Lib.hid (HR.out.below HB.out HR.out.lt)
        have r0 := HRR.out.cell 0 _ rfl
        have r1 := HRR.out.cell 1 _ rfl
        have f0 := HRR.out.frozen 0
        have f1 := HRR.out.frozen 1
        obtain ⟨W9, hW9⟩ : ∃ W, W = (wr.setCell ⟨gr, 0, none⟩ (.slice Am P.init.length cm)).setCell ⟨gr, 1, none⟩ (.slice Av P.ths.length cv) := ⟨_, rfl⟩
        have HR9 := Lib.hid (show BoxC W9 gr 31 #[.slice Am P.init.length cm, .slice Av P.ths.length cv] from by rw [hW9]; exact (HRR.out.set 0 _).set 1 _)
        have HO9 := Lib.hid (show OwnSt W2.heap.size W9 (.slice Am P.init.length cm) (.slice Av P.ths.length cv) (beg P) ps from by
          rw [hW9, show beg P = ⟨P.init, List.replicate P.ths.length begTh⟩ from by rw [← HTH.out]; rfl]
          exact (HOS.out.box HRR.out (by decide) (by decide) (by decide) 0 _).box (HRR.out.set 0 _) (by decide) (by decide) (by decide) 1 _)
        have HB9 := Lib.hid (show Below w.heap.size w W9 from by rw [hW9]; exact ((chain HB2.out HB.out).setCell (p := ⟨gr, 0, none⟩) HGR.out _).setCell (p := ⟨gr, 1, none⟩) HGR.out _)
        have HW9 := Lib.hid hW9
        clear hW9
        go_wp2_with fail
        rw [← HW9.out]
        clear y0 y1 r0 r1 f0 f1
        have r0 := HR9.out.cell 0 _ rfl
        have r1 := HR9.out.cell 1 _ rfl
        have hz := HCO.out
        refine bodyPost_ret (v := .agg #[.slice Am P.init.length cm, .slice Av P.ths.length cv]) (by simp [results, Try.results34, go_sem, r0, r1, hz]) rfl ⟨_, _, _, rfl, HO9.out.base HB2.out.size, HB9.out⟩
end Go.Proofs.Ytbgjamoflbdhoaa
namespace Go.Proofs.Ytbgjamoflbdhoaa
open Go.RowKit
set_option linter.unusedVariables false
set_option linter.unusedSimpArgs false
open CodM (St Pg rightP)
open BfM (Wr plc)
open ScM

set_option maxHeartbeats 8000000 in
set_option maxRecDepth 100000 in
theorem rstep13_any {B : Nat} {v u : Value} {P : Pg} {s : Sta} (t : Int) (d wk : Bool) (w : World) (hv : PgV B w v P) (hu : StaV B w u s) (hBB : B ≤ w.heap.size) (hp : rightP P = true) (ho : OkSt P s) (hw : WideS s) :
    Calls Try.prog 25 #[v, u, .agg #[.int .i64 t, .bool d], .bool wk] w (RsRet P s t d wk w) := by
  have HS := Lib.hid (fun W (hW : Below w.heap.size w W) => refstep_any t W ((hv.below (hW.mono hBB)).more (Nat.le_trans hBB hW.size)) ((hu.below (hW.mono hBB)).more (Nat.le_trans hBB hW.size)) (Nat.le_refl _) hp ho hw)
  have HT := Lib.hid (fun W (hW : Below w.heap.size w W) => rtstep_any t d W ((hv.below (hW.mono hBB)).more (Nat.le_trans hBB hW.size)) ((hu.below (hW.mono hBB)).more (Nat.le_trans hBB hW.size)) (Nat.le_refl _) hp ho hw)
  clear hp ho hw
  obtain ⟨pi, pt, rfl, hpm⟩ := hv
  obtain ⟨um, ut, rfl, hum⟩ := hu
  obtain ⟨⟨P0, d0, rfl, -⟩, ⟨P1, d1, rfl, -⟩⟩ := hpm
  obtain ⟨⟨A7, c7, rfl, -⟩, ⟨A1, c1, rfl, -⟩⟩ := hum
  obtain ⟨W2, hW2⟩ : ∃ W, W = ((((w.alloc (.cells #[.slice P0 P.init.length d0, .slice P1 P.ths.length d1] 25)).alloc (.cells #[.slice A7 s.mem.length c7, .slice A1 s.ths.length c1] 31)).alloc (.cells #[.int .i64 t, .bool d] 47)).alloc (.cells #[.slice none 0 0, .slice none 0 0] 31)) := ⟨_, rfl⟩
  obtain ⟨gp, hgp⟩ : ∃ g, g = w.heap.size := ⟨_, rfl⟩
  obtain ⟨gs, hgs⟩ : ∃ g, g = w.heap.size + 1 := ⟨_, rfl⟩
  obtain ⟨gk, hgk⟩ : ∃ g, g = w.heap.size + 1 + 1 := ⟨_, rfl⟩
  obtain ⟨gr, hgr⟩ : ∃ g, g = w.heap.size + 1 + 1 + 1 := ⟨_, rfl⟩
  have HX := Lib.hid (show BoxC W2 gp 25 #[.slice P0 P.init.length d0, .slice P1 P.ths.length d1] from by rw [hW2, hgp]; have := (BoxC.new w 25 #[.slice P0 P.init.length d0, .slice P1 P.ths.length d1]) |>.alloc (.cells #[.slice A7 s.mem.length c7, .slice A1 s.ths.length c1] 31) |>.alloc (.cells #[.int .i64 t, .bool d] 47) |>.alloc (.cells #[.slice none 0 0, .slice none 0 0] 31); (try rw [World.size_alloc] at this); (try rw [World.size_alloc] at this); (try rw [World.size_alloc] at this); exact this)
  have HY := Lib.hid (show BoxC W2 gs 31 #[.slice A7 s.mem.length c7, .slice A1 s.ths.length c1] from by rw [hW2, hgs]; have := (BoxC.new (w.alloc (.cells #[.slice P0 P.init.length d0, .slice P1 P.ths.length d1] 25)) 31 #[.slice A7 s.mem.length c7, .slice A1 s.ths.length c1]) |>.alloc (.cells #[.int .i64 t, .bool d] 47) |>.alloc (.cells #[.slice none 0 0, .slice none 0 0] 31); (try rw [World.size_alloc] at this); (try rw [World.size_alloc] at this); (try rw [World.size_alloc] at this); exact this)
  have HK := Lib.hid (show BoxC W2 gk 47 #[.int .i64 t, .bool d] from by rw [hW2, hgk]; have := (BoxC.new ((w.alloc (.cells #[.slice P0 P.init.length d0, .slice P1 P.ths.length d1] 25)).alloc (.cells #[.slice A7 s.mem.length c7, .slice A1 s.ths.length c1] 31)) 47 #[.int .i64 t, .bool d]) |>.alloc (.cells #[.slice none 0 0, .slice none 0 0] 31); (try rw [World.size_alloc] at this); (try rw [World.size_alloc] at this); (try rw [World.size_alloc] at this); exact this)
  have HR := Lib.hid (show BoxC W2 gr 31 #[.slice none 0 0, .slice none 0 0] from by rw [hW2, hgr]; have := (BoxC.new (((w.alloc (.cells #[.slice P0 P.init.length d0, .slice P1 P.ths.length d1] 25)).alloc (.cells #[.slice A7 s.mem.length c7, .slice A1 s.ths.length c1] 31)).alloc (.cells #[.int .i64 t, .bool d] 47)) 31 #[.slice none 0 0, .slice none 0 0]); (try rw [World.size_alloc] at this); (try rw [World.size_alloc] at this); (try rw [World.size_alloc] at this); exact this)
  have HG := Lib.hid (show w.heap.size ≤ gr from by omega)
  have HB2 := Lib.hid (show Below w.heap.size w W2 from by rw [hW2]; exact below_al (below_al (below_al (below_al (Below.refl _ _) _) _) _) _)
  go_enter Try.func25, Try.ntmps25
  go_upto_region 1 with fail
  rw [← hW2]
  (try rw [← hgr])
  (try rw [← hgk])
  (try rw [← hgs])
  (try rw [← hgp])
  clear hW2 hgr hgk hgs hgp
  have x0 := HX.out.cell 0 _ rfl
  have x1 := HX.out.cell 1 _ rfl
  have y0 := HY.out.cell 0 _ rfl
  have y1 := HY.out.cell 1 _ rfl
  have k0 := HK.out.cell 0 _ rfl
  have k1 := HK.out.cell 1 _ rfl
  cases wk
  · cases d
    · go_wp2_with fail
      refine (Calls.mono (HS.out _ HB2.out) (fun e w' h => rs_strict h)).mono ?_
      rintro e V1 ⟨A, n, c, Bq, m, k, rfl, hos, hb⟩
      obtain ⟨q, hq⟩ : ∃ q, q = (rst P s t false false).isSome := ⟨_, rfl⟩
      rw [← hq]
      have HQ := Lib.hid hq
      have HO := Lib.hid hos
      have HR1 := Lib.hid (HR.out.below hb HR.out.lt)
      have HB3 := Lib.hid (chain HB2.out hb)
      have HZ2 := Lib.hid HB2.out.size
      clear hq hos hb x0 x1 y0 y1 k0 k1
      go_upto_region 7 with fail
      obtain ⟨X1, hX1⟩ : ∃ W, W = V1.alloc (.cells #[.slice A n c, .slice Bq m k] 31) := ⟨_, rfl⟩
      obtain ⟨g7, hg7⟩ : ∃ g, g = V1.heap.size := ⟨_, rfl⟩
      have H7 := Lib.hid (show BoxC X1 g7 31 #[.slice A n c, .slice Bq m k] from by rw [hX1, hg7]; exact BoxC.new V1 _ _)
      have HX1 := Lib.hid (show Below V1.heap.size V1 X1 from by rw [hX1]; exact below_al (Below.refl _ _) _)
      have HN7 := Lib.hid (show gr ≠ g7 from by have := HR1.out.lt; omega)
      rw [← hX1]
      (try rw [← hg7])
      clear hX1 hg7
      replace HR1 := Lib.hid (HR1.out.below HX1.out HR1.out.lt)
      replace HB3 := Lib.hid (chain HB3.out HX1.out)
      have e0 := H7.out.cell 0 _ rfl
      have e1 := H7.out.cell 1 _ rfl
      have r0 := HR1.out.cell 0 _ rfl
      have r1 := HR1.out.cell 1 _ rfl
      have f0 := HR1.out.frozen 0
      have f1 := HR1.out.frozen 1
      obtain ⟨W9, hW9⟩ : ∃ W, W = (X1.setCell ⟨gr, 0, none⟩ (.slice A n c)).setCell ⟨gr, 1, none⟩ (.slice Bq m k) := ⟨_, rfl⟩
      have HR9 := Lib.hid (show BoxC W9 gr 31 #[(.slice A n c), (.slice Bq m k)] from by rw [hW9]; exact (HR1.out.set 0 _).set 1 _)
      have HO9 := Lib.hid (fun s' (h : rst P s t false false = some s') => show ∃ ps, OwnSt w.heap.size W9 (.slice A n c) (.slice Bq m k) s' ps from by
        obtain ⟨ps, ho⟩ := HO.out s' h
        rw [hW9]
        exact ⟨ps, (((ho.below HX1.out).base HZ2.out).box HR1.out (by decide) (by decide) (by decide) 0 _).box (HR1.out.set 0 _) (by decide) (by decide) (by decide) 1 _⟩)
      have HB9 := Lib.hid (show Below w.heap.size w W9 from by rw [hW9]; exact (HB3.out.setCell (p := ⟨gr, 0, none⟩) HG.out _).setCell (p := ⟨gr, 1, none⟩) HG.out _)
      have HW9 := Lib.hid hW9
      clear hW9
      go_wp2_with fail
      rw [← HW9.out]
      clear r0 r1 f0 f1
      have r0 := HR9.out.cell 0 _ rfl
      have r1 := HR9.out.cell 1 _ rfl
      have hz : Try.prog.cellsOf 31 = 2 := by kernel_rfl
      refine bodyPost_ret (v := .tuple #[.agg #[(.slice A n c), (.slice Bq m k)], .bool q]) (by simp [results, Try.results25, go_sem, r0, r1, hz]) rfl ?_
      exact ⟨_, _, _, _, _, _, by rw [← HQ.out], HO9.out, HB9.out⟩
    · have HN := Lib.hid (rst_drain P s t)
      have r0 := HR.out.cell 0 _ rfl
      have r1 := HR.out.cell 1 _ rfl
      have f0 := HR.out.frozen 0
      have f1 := HR.out.frozen 1
      obtain ⟨W9, hW9⟩ : ∃ W, W = (W2.setCell ⟨gr, 0, none⟩ (.slice A7 s.mem.length c7)).setCell ⟨gr, 1, none⟩ (.slice A1 s.ths.length c1) := ⟨_, rfl⟩
      have HR9 := Lib.hid (show BoxC W9 gr 31 #[(.slice A7 s.mem.length c7), (.slice A1 s.ths.length c1)] from by rw [hW9]; exact (HR.out.set 0 _).set 1 _)
      clear x0 x1 k0
      have HB9 := Lib.hid (show Below w.heap.size w W9 from by rw [hW9]; exact (HB2.out.setCell (p := ⟨gr, 0, none⟩) HG.out _).setCell (p := ⟨gr, 1, none⟩) HG.out _)
      have HW9 := Lib.hid hW9
      clear hW9
      go_wp2_with fail
      rw [← HW9.out]
      clear r0 r1 f0 f1
      have r0 := HR9.out.cell 0 _ rfl
      have r1 := HR9.out.cell 1 _ rfl
      have hz : Try.prog.cellsOf 31 = 2 := by kernel_rfl
      refine bodyPost_ret (v := .tuple #[.agg #[(.slice A7 s.mem.length c7), (.slice A1 s.ths.length c1)], .bool false]) (by simp [results, Try.results25, go_sem, r0, r1, hz]) rfl ?_
      exact ⟨_, _, _, _, _, _, by rw [HN.out]; rfl, fun s' (h : rst P s t true false = some s') => absurd (HN.out.symm.trans h) (by simp), HB9.out⟩
  · go_wp2_with fail
    refine (Calls.mono (HT.out _ HB2.out) (fun e w' h => rs_weak h)).mono ?_
    rintro e V1 ⟨A, n, c, Bq, m, k, rfl, hos, hb⟩
    obtain ⟨q, hq⟩ : ∃ q, q = (rst P s t d true).isSome := ⟨_, rfl⟩
    rw [← hq]
    have HQ := Lib.hid hq
    have HO := Lib.hid hos
    have HR1 := Lib.hid (HR.out.below hb HR.out.lt)
    have HB3 := Lib.hid (chain HB2.out hb)
    have HZ2 := Lib.hid HB2.out.size
    clear hq hos hb x0 x1 y0 y1 k0 k1
    go_upto_region 3 with fail
    obtain ⟨X1, hX1⟩ : ∃ W, W = V1.alloc (.cells #[.slice A n c, .slice Bq m k] 31) := ⟨_, rfl⟩
    obtain ⟨g7, hg7⟩ : ∃ g, g = V1.heap.size := ⟨_, rfl⟩
    have H7 := Lib.hid (show BoxC X1 g7 31 #[.slice A n c, .slice Bq m k] from by rw [hX1, hg7]; exact BoxC.new V1 _ _)
    have HX1 := Lib.hid (show Below V1.heap.size V1 X1 from by rw [hX1]; exact below_al (Below.refl _ _) _)
    have HN7 := Lib.hid (show gr ≠ g7 from by have := HR1.out.lt; omega)
    rw [← hX1]
    (try rw [← hg7])
    clear hX1 hg7
    replace HR1 := Lib.hid (HR1.out.below HX1.out HR1.out.lt)
    replace HB3 := Lib.hid (chain HB3.out HX1.out)
    have e0 := H7.out.cell 0 _ rfl
    have e1 := H7.out.cell 1 _ rfl
    have r0 := HR1.out.cell 0 _ rfl
    have r1 := HR1.out.cell 1 _ rfl
    have f0 := HR1.out.frozen 0
    have f1 := HR1.out.frozen 1
    obtain ⟨W9, hW9⟩ : ∃ W, W = (X1.setCell ⟨gr, 0, none⟩ (.slice A n c)).setCell ⟨gr, 1, none⟩ (.slice Bq m k) := ⟨_, rfl⟩
    have HR9 := Lib.hid (show BoxC W9 gr 31 #[(.slice A n c), (.slice Bq m k)] from by rw [hW9]; exact (HR1.out.set 0 _).set 1 _)
    have HO9 := Lib.hid (fun s' (h : rst P s t d true = some s') => show ∃ ps, OwnSt w.heap.size W9 (.slice A n c) (.slice Bq m k) s' ps from by
      obtain ⟨ps, ho⟩ := HO.out s' h
      rw [hW9]
      exact ⟨ps, (((ho.below HX1.out).base HZ2.out).box HR1.out (by decide) (by decide) (by decide) 0 _).box (HR1.out.set 0 _) (by decide) (by decide) (by decide) 1 _⟩)
    have HB9 := Lib.hid (show Below w.heap.size w W9 from by rw [hW9]; exact (HB3.out.setCell (p := ⟨gr, 0, none⟩) HG.out _).setCell (p := ⟨gr, 1, none⟩) HG.out _)
    have HW9 := Lib.hid hW9
    clear hW9
    go_wp2_with fail
    rw [← HW9.out]
    clear r0 r1 f0 f1
    have r0 := HR9.out.cell 0 _ rfl
    have r1 := HR9.out.cell 1 _ rfl
    have hz : Try.prog.cellsOf 31 = 2 := by kernel_rfl
    refine bodyPost_ret (v := .tuple #[.agg #[(.slice A n c), (.slice Bq m k)], .bool q]) (by simp [results, Try.results25, go_sem, r0, r1, hz]) rfl ?_
    exact ⟨_, _, _, _, _, _, by rw [← HQ.out], HO9.out, HB9.out⟩
end Go.Proofs.Ytbgjamoflbdhoaa
