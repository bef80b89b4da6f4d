/-
  THE DOCUMENT's Own of layer 10: a state, in rows of the call's own.
  THE DOCUMENT's Flush of layer 11.
  STATES OF THE CALL's OWN, 6: what lies in their cells.
-/
import Derived.Test.YtlpjgaeelnlipaaGreatScP
import Derived.Test.YtlpjgaeelnlipaaGreatScAt
import Derived.Deep.RegionHeld3
import Derived.Deep.DeepCutAuto
import Derived.Test.YtlpjgaeelnlipaaGreatK12
import Derived.Test.YtlpjgaeelnlipaaGreatK13
set_option linter.unusedVariables false
set_option linter.unusedSimpArgs false
namespace Go.Proofs.YtlpjgaeelnlipaaGreat
open Go.RowKit
open CodM (St Pg rightP)
open BfM (Wr plc)
open ScM

set_option maxHeartbeats 8000000 in
set_option maxRecDepth 100000 in
theorem rown_any {B : Nat} {v : Value} {s : Sta} (w : World) (hv : StaV B w v s) (hBB : B ≤ w.heap.size) (hw : WideS s) :
    Calls Tryz.prog 49 #[v] w (StRet s w) := by
  obtain ⟨vm, vt, rfl, hvm, hvt⟩ := hv
  have hml := hw.mem
  have htl := hw.ths
  have HWD := Lib.hid hw.regs
  clear hw
  obtain ⟨A7, c7, rfl, a1, a2, a0, a3⟩ := hvm
  obtain ⟨A1, c1, rfl, g1, g2, -, g3⟩ := hvt
  unfold maxLen at a2 g2
  obtain ⟨i0, hi0, hz0, hz1, hz2⟩ := info_parts info_nu
  obtain ⟨i1', hi1', hy1, hy2, hy3⟩ := info_parts info_th
  obtain ⟨i2', hi2', hw1, hw2, hw3⟩ := info_parts info_wr
  have HCO := Lib.hid (show Tryz.prog.cellsOf 39 = 2 from by kernel_rfl)
  obtain ⟨W2, hW2⟩ : ∃ W, W = (w.alloc (.cells #[.slice A7 s.mem.length c7, .slice A1 s.ths.length c1] 39)).alloc (.cells #[.slice none 0 0, .slice none 0 0] 39) := ⟨_, rfl⟩
  obtain ⟨gp, hgp⟩ : ∃ g, g = w.heap.size := ⟨_, rfl⟩
  obtain ⟨gr, hgr⟩ : ∃ g, g = w.heap.size + 1 := ⟨_, rfl⟩
  have HX := Lib.hid (show BoxC W2 gp 39 #[.slice A7 s.mem.length c7, .slice A1 s.ths.length c1] from by rw [hW2, hgp]; exact (BoxC.new w _ _).alloc _)
  have HR := Lib.hid (show BoxC W2 gr 39 #[.slice none 0 0, .slice none 0 0] from by rw [hW2, hgr]; have := BoxC.new (w.alloc (.cells #[.slice A7 s.mem.length c7, .slice A1 s.ths.length c1] 39)) 39 #[.slice none 0 0, .slice none 0 0]; rw [World.size_alloc] at this; exact this)
  have HB2 := Lib.hid (show Below w.heap.size w W2 from by rw [hW2]; exact below_al (below_al (Below.refl _ _) _) _)
  have HGR := Lib.hid (show w.heap.size ≤ gr from by omega)
  have HSRC := Lib.hid (fun W (hW : Below W2.heap.size W2 W) => src_rw (W := W) nuC_len a0 a3 ((chain HB2.out hW).mono hBB))
  have HG3 := Lib.hid (fun W (hW : Below W2.heap.size W2 W) (k : Nat) (hk : k < s.ths.length) => show ∃ b f, A1 = some ⟨b, f, none⟩ ∧ b < B ∧ TdAt B W b (f + k * 4) s.ths[k] from by
    obtain ⟨b, f, e, hb, hc⟩ := g3 (by omega)
    exact ⟨b, f, e, hb, (hc k hk).below ((chain HB2.out hW).mono hBB) hb⟩)
  have HBW := Lib.hid (Nat.le_trans hBB HB2.out.size)
  have HTK := Lib.hid (fun (k : Nat) (h : k < s.ths.length) => show s.ths.take (k + 1) = s.ths.take k ++ [s.ths[k]] from List.take_succ_eq_append_getElem h)
  have HTA := Lib.hid (show s.ths.take s.ths.length = s.ths from List.take_length)
  have x0 := HX.out.cell 0 _ rfl
  clear a3 g3
  go_enter Tryz.func49, Tryz.ntmps49
  go_upto_region 1 with fail
  rw [← hW2]
  (try rw [← hgr])
  (try rw [← hgp])
  clear hW2 hgr hgp
  go_cut [3] (fun s3 wx => ∃ (gs : Nat) (vm : Value), s3 = .pointer (some ⟨gs, 0, none⟩) ∧ BoxC wx gs 39 #[vm, .slice none 0 0] ∧ OwnI W2.heap.size wx vm s.mem ∧ Below W2.heap.size W2 wx ∧ W2.heap.size ≤ gs)
  case first =>
    have HE := Lib.hid (below_al (Below.refl W2.heap.size W2) (.cells #[] 3))
    have HO := Lib.hid (show (W2.alloc (.cells #[] 3)).ownsRow W2.heap.size 3 1 (.slice (some ⟨W2.heap.size, 0, none⟩) 0 0) 0 [] from World.ownsRow_lit (base := W2.heap.size) (e := 3) (size := 1) W2 #[] 0 (Nat.le_refl _) (by decide) rfl)
    have l0 := lt_of_cell x0
    have x0 := kc HE.out x0
    go_wp2_with (at_builtin; refine wpList_append_rw _ rfl _ _ 22 rfl W2.heap.size 3 i0 (.int .i64 0) 1 8 Tryz.underlying22 hi0 hz0 hz1 hz2 rfl (by decide) _ 0 [] rfl HO.out A7 s.mem.length c7 (s.mem.flatMap nuC) rfl (fl_len nuC_len s.mem) a0 (HSRC.out _ HE.out) (one_nu s.mem) (by unfold maxLen; omega) (by omega) (by simp) ?_; intro v1 wz hown1 hg1; rw [Nat.zero_add, List.nil_append] at hown1; obtain ⟨A8, c8, rfl⟩ := own_slice hown1)
    go_meet
    have hb1 := below_append HE.out HO.out (Nat.le_refl _) HE.out.size hg1
    have hb2 := below_al (Below.refl wz.heap.size wz) (.cells #[.slice A8 s.mem.length c8, .slice none 0 0] 39)
    exact ⟨wz.heap.size, _, rfl, BoxC.new wz _ _, own_below hown1 hb2, chain hb1 hb2, hb1.size⟩
  case rest =>
    obtain ⟨gs, vm, rfl, hbs, hom, hBc, hgs⟩ := hcut
    have HBS := Lib.hid hbs
    have HOM := Lib.hid hom
    have HBC := Lib.hid hBc
    obtain ⟨Am, cm, rfl⟩ := own_slice hom
    clear hbs hom hBc x0
    go_wp2
    go_loopw [4] (fun i wr => ∃ (k : Nat) (vt : Value) (ps : List TV), k ≤ s.ths.length ∧ i = .int .i64 k ∧ BoxC wr gs 39 #[.slice Am s.mem.length cm, vt] ∧ OwnSt W2.heap.size wr (.slice Am s.mem.length cm) vt ⟨s.mem, s.ths.take k⟩ ps ∧ Below W2.heap.size W2 wr) (fun i _ => s.ths.length - (intOf i).toNat)
    case atStart => exact ⟨0, _, [], Nat.zero_le _, rfl, HBS.out, OwnSt.nothing _ HOM.out, HBC.out⟩
    case round =>
      obtain ⟨k, vt, ps, hk, rfl, hbx, hos, hB⟩ := hrel
      have HBX := Lib.hid hbx
      have HOS := Lib.hid hos
      have HB := Lib.hid hB
      have HOT := Lib.hid (show wr.ownsRow W2.heap.size 44 4 vt k (ps.flatMap thC) from by have := hos.ths; rwa [show (⟨s.mem, s.ths.take k⟩ : Sta).ths.length = k from by show (s.ths.take k).length = k; rw [List.length_take]; omega] at this)
      obtain ⟨Av, cv, rfl⟩ := own_slice HOT.out
      have HSZ := Lib.hid (show W2.heap.size ≤ wr.heap.size from hB.size)
      have x1 := (HX.out.below hB HX.out.lt).cell 1 _ rfl
      clear hbx hos hB
      by_cases hlt : k < s.ths.length
      · obtain ⟨b1, f1, rfl, hb1, hTd⟩ := HG3.out wr HB.out k hlt
        have htk := HTK.out k hlt
        obtain ⟨hrl, hbl⟩ := HWD.out _ (List.getElem_mem hlt)
        obtain ⟨x, hx⟩ : ∃ x, x = s.ths[k] := ⟨_, rfl⟩
        rw [← hx] at hTd htk hrl hbl
        have HTKk := Lib.hid htk
        clear hx htk
        obtain ⟨vr, vb, z0, z1, z2, z3, hR, hW⟩ := hTd
        obtain ⟨A3, c3, rfl, r1, r2, r0, r3⟩ := hR
        obtain ⟨A4, c4, rfl, q1, q2, q0, q3⟩ := hW
        have HBr := Lib.hid (show B ≤ wr.heap.size from Nat.le_trans HBW.out HSZ.out)
        have HS3 := Lib.hid (fun W (hW : Below wr.heap.size wr W) => src_rw (W := W) nuC_len r0 r3 (hW.mono HBr.out))
        have HS4 := Lib.hid (fun W (hW : Below wr.heap.size wr W) => src_rw (W := W) wrC_len q0 q3 (hW.mono HBr.out))
        clear r3 q3
        unfold maxLen at r2 q2
        go_upto_region 6 with fail
        obtain ⟨X0, hX0⟩ : ∃ W, W = wr.alloc (.cells #[.int .i64 x.at', .slice A3 x.regs.length c3, .bool x.eq, .slice A4 x.buf.length c4] 44) := ⟨_, rfl⟩
        obtain ⟨gx, hgx⟩ : ∃ g, g = wr.heap.size := ⟨_, rfl⟩
        have HL0 := Lib.hid (show Below wr.heap.size wr X0 from by rw [hX0]; exact below_al (Below.refl _ _) _)
        have HQ0 := Lib.hid (show BoxC X0 gx 44 #[.int .i64 x.at', .slice A3 x.regs.length c3, .bool x.eq, .slice A4 x.buf.length c4] from by rw [hX0, hgx]; exact BoxC.new wr _ _)
        have HGX := Lib.hid (show wr.heap.size ≤ gx from by omega)
        rw [← hX0]
        (try rw [← hgx])
        clear hX0 hgx z0 z1 z2 z3 x1
        have HE0 := Lib.hid (below_al (Below.refl X0.heap.size X0) (.cells #[] 3))
        have HO0 := Lib.hid (show (X0.alloc (.cells #[] 3)).ownsRow X0.heap.size 3 1 (.slice (some ⟨X0.heap.size, 0, none⟩) 0 0) 0 [] from World.ownsRow_lit (base := X0.heap.size) (e := 3) (size := 1) X0 #[] 0 (Nat.le_refl _) (by decide) rfl)
        have y1 := kc HE0.out (HQ0.out.cell 1 _ rfl)
        go_upto_region 7 with (at_builtin; refine wpList_append_rw _ rfl _ _ 22 rfl X0.heap.size 3 i0 (.int .i64 0) 1 8 Tryz.underlying22 hi0 hz0 hz1 hz2 rfl (by decide) _ 0 [] rfl HO0.out A3 x.regs.length c3 (x.regs.flatMap nuC) rfl (fl_len nuC_len x.regs) r0 (HS3.out _ (chain HL0.out HE0.out)) (one_nu x.regs) (by unfold maxLen; omega) (by omega) (by simp) ?_; intro v1 wz hown1 hg1; rw [Nat.zero_add, List.nil_append] at hown1; obtain ⟨A8, c8, rfl⟩ := own_slice hown1; have HBz := Lib.hid (below_append HE0.out HO0.out (Nat.le_refl _) HE0.out.size hg1); have HQz := Lib.hid (HQ0.out.below HBz.out HQ0.out.lt); have yz := HQz.out.cell 1 _ rfl; have fz := HQz.out.frozen 1)
        obtain ⟨X1, hX1⟩ : ∃ W, W = wz.setCell ⟨gx, 1, none⟩ (.slice A8 x.regs.length c8) := ⟨_, rfl⟩
        have HQ1 := Lib.hid (show BoxC X1 gx 44 #[.int .i64 x.at', .slice A8 x.regs.length c8, .bool x.eq, .slice A4 x.buf.length c4] from by rw [hX1]; exact HQz.out.set 1 _)
        have HV1 := Lib.hid (show OwnI wr.heap.size X1 (.slice A8 x.regs.length c8) x.regs from by rw [hX1]; exact own_box (own_base hown1 HL0.out.size) HQz.out (by decide) 1 _)
        have HL1 := Lib.hid (show Below wr.heap.size wr X1 from by rw [hX1]; exact (chain HL0.out HBz.out).setCell (p := ⟨gx, 1, none⟩) HGX.out _)
        rw [← hX1]
        clear hX1 hown1 hg1 y1 yz fz
        have HE1 := Lib.hid (below_al (Below.refl X1.heap.size X1) (.cells #[] 94))
        have HO1 := Lib.hid (show (X1.alloc (.cells #[] 94)).ownsRow X1.heap.size 94 2 (.slice (some ⟨X1.heap.size, 0, none⟩) 0 0) 0 [] from World.ownsRow_lit (base := X1.heap.size) (e := 94) (size := 2) X1 #[] 0 (Nat.le_refl _) (by decide) rfl)
        have y3 := kc HE1.out (HQ1.out.cell 3 _ rfl)
        go_upto_region 8 with (at_builtin; refine wpList_append_rw _ rfl _ _ 42 rfl X1.heap.size 94 i2' (.agg #[.int .i64 0, .int .i64 0]) 2 16 Tryz.underlying42 hi2' hw1 hw2 hw3 rfl (by decide) _ 0 [] rfl HO1.out A4 x.buf.length c4 (x.buf.flatMap wrC) rfl (fl_len wrC_len x.buf) q0 (HS4.out _ (chain HL1.out HE1.out)) (one_w x.buf) (by unfold maxLen; omega) (by omega) (by simp) ?_; intro v2 wy hown2 hg2; rw [Nat.zero_add, List.nil_append] at hown2; obtain ⟨A9, c9, rfl⟩ := own_slice hown2; have HBy := Lib.hid (below_append HE1.out HO1.out (Nat.le_refl _) HE1.out.size hg2); have HQy := Lib.hid (HQ1.out.below HBy.out HQ1.out.lt); have yz := HQy.out.cell 3 _ rfl; have fz := HQy.out.frozen 3)
        obtain ⟨X2, hX2⟩ : ∃ W, W = wy.setCell ⟨gx, 3, none⟩ (.slice A9 x.buf.length c9) := ⟨_, rfl⟩
        have HQ2 := Lib.hid (show BoxC X2 gx 44 #[.int .i64 x.at', .slice A8 x.regs.length c8, .bool x.eq, .slice A9 x.buf.length c9] from by rw [hX2]; exact HQy.out.set 3 _)
        have HV2 := Lib.hid (show OwnW wr.heap.size X2 (.slice A9 x.buf.length c9) x.buf from by rw [hX2]; exact own_box (own_base hown2 HL1.out.size) HQy.out (by decide) 3 _)
        have HV1' := Lib.hid (show OwnI wr.heap.size X2 (.slice A8 x.regs.length c8) x.regs from by rw [hX2]; exact own_box (own_below HV1.out HBy.out) HQy.out (by decide) 3 _)
        have HL2 := Lib.hid (show Below wr.heap.size wr X2 from by rw [hX2]; exact (chain HL1.out HBy.out).setCell (p := ⟨gx, 3, none⟩) HGX.out _)
        rw [← hX2]
        clear hX2 hown2 hg2 y3 yz fz
        obtain ⟨q, hq⟩ : ∃ q : TV, q = ⟨x, .slice A8 x.regs.length c8, .slice A9 x.buf.length c9⟩ := ⟨_, rfl⟩
        have HEQ := Lib.hid (below_al (Below.refl X2.heap.size X2) (.cells #[.int .i64 x.at', .slice A8 x.regs.length c8, .bool x.eq, .slice A9 x.buf.length c9] 44))
        have HLE := Lib.hid (chain HL2.out HEQ.out)
        have HF := Lib.hid (World.news_of_block (heap_alloc_new X2 (.cells #[.int .i64 x.at', .slice A8 x.regs.length c8, .bool x.eq, .slice A9 x.buf.length c9] 44)))
        have e0 := HQ2.out.cell 0 _ rfl
        have e1 := HQ2.out.cell 1 _ rfl
        have e2 := HQ2.out.cell 2 _ rfl
        have e3 := HQ2.out.cell 3 _ rfl
        have y1 := (HBX.out.below HL2.out HBX.out.lt).cell 1 _ rfl
        go_wp2_with (at_builtin; refine wpList_append_rw _ rfl _ _ 37 rfl W2.heap.size 44 i1' (.agg #[.int .i64 0, .slice none 0 0, .bool false, .slice none 0 0]) 4 64 Tryz.underlying37 hi1' hy1 hy2 hy3 rfl (by decide) _ k (ps.flatMap thC) rfl (own_below HOT.out HLE.out) (some ⟨X2.heap.size, 0, none⟩) 1 1 (thC ⟨x, .slice A8 x.regs.length c8, .slice A9 x.buf.length c9⟩) rfl rfl (fun c => (by cases c)) (fun ad e j u h => by injection e with e; rw [← e]; exact HF.out j u h) (one_th _ rfl rfl) (by unfold maxLen; omega) (by omega) (Nat.le_trans HSZ.out HLE.out.size) ?_; intro v5 w5 hown5 hg5; obtain ⟨A5, c5, rfl⟩ := own_slice hown5; have HBX5 := Lib.hid ((HBX.out.below HLE.out HBX.out.lt).grown (by decide) (own_below HOT.out HLE.out) hg5); have y5 := HBX5.out.cell 1 _ rfl; have f5 := HBX5.out.frozen 1)
        have HLK := Lib.hid (show (⟨s.mem, s.ths.take k⟩ : Sta).ths.length = k from by show (s.ths.take k).length = k; rw [List.length_take]; omega)
        have HO5 := Lib.hid ((HOS.out.below HLE.out).snoc ⟨x, .slice A8 x.regs.length c8, .slice A9 x.buf.length c9⟩ (own_base (own_below HV1'.out HEQ.out) HSZ.out) (own_base (own_below HV2.out HEQ.out) HSZ.out) (HOS.out.new_r (own_below HV1'.out HEQ.out) (Nat.le_refl _)).1 (HOS.out.new_r (own_below HV1'.out HEQ.out) (Nat.le_refl _)).2 (by rw [HLK.out]; exact hown5) hg5)
        have HB5 := Lib.hid (below_append (HB.out.trans (HLE.out.mono HB.out.size)) (own_below HOT.out HLE.out) (Nat.le_refl _) (Nat.le_trans HB.out.size HLE.out.size) hg5)
        clear hown5 hg5 y1 y5 f5 e0 e1 e2 e3 hq
        go_roundw
        case rel => exact ⟨k + 1, _, _, by omega, by go_num, HBX5.out.set 1 _, by rw [HTKk.out]; exact HO5.out.box HBX5.out (by decide) (by decide) (by decide) 1 _, HB5.out.setCell (p := ⟨gs, 1, none⟩) hgs _⟩
        case measure => simp [intOf]; omega
      · obtain rfl : s.ths.length = k := by omega
        have y0 := HBX.out.cell 0 _ rfl
        have y1 := HBX.out.cell 1 _ rfl
        have HRR := Lib.hid (HR.out.below HB.out HR.out.lt)
        have r0 := HRR.out.cell 0 _ rfl
        have r1 := HRR.out.cell 1 _ rfl
        have f0 := HRR.out.frozen 0
        have f1 := HRR.out.frozen 1
        obtain ⟨W9, hW9⟩ : ∃ W, W = (wr.setCell ⟨gr, 0, none⟩ (.slice Am s.mem.length cm)).setCell ⟨gr, 1, none⟩ (.slice Av s.ths.length cv) := ⟨_, rfl⟩
        have HR9 := Lib.hid (show BoxC W9 gr 39 #[.slice Am s.mem.length cm, .slice Av s.ths.length cv] from by rw [hW9]; exact (HRR.out.set 0 _).set 1 _)
        have HO9 := Lib.hid (show OwnSt W2.heap.size W9 (.slice Am s.mem.length cm) (.slice Av s.ths.length cv) s ps from by
          have e := HOS.out
          rw [HTA.out] at e
          rw [hW9]
          exact (e.box HRR.out (by decide) (by decide) (by decide) 0 _).box (HRR.out.set 0 _) (by decide) (by decide) (by decide) 1 _)
        have HB9 := Lib.hid (show Below w.heap.size w W9 from by rw [hW9]; exact ((chain HB2.out HB.out).setCell (p := ⟨gr, 0, none⟩) HGR.out _).setCell (p := ⟨gr, 1, none⟩) HGR.out _)
        have HW9 := Lib.hid hW9
        clear hW9
        go_wp2_with fail
        rw [← HW9.out]
        clear y0 y1 r0 r1 f0 f1
        have r0 := HR9.out.cell 0 _ rfl
        have r1 := HR9.out.cell 1 _ rfl
        have hz := HCO.out
        refine bodyPost_ret (v := .agg #[.slice Am s.mem.length cm, .slice Av s.ths.length cv]) (by simp [results, Tryz.results49, go_sem, r0, r1, hz]) rfl ⟨_, _, _, rfl, HO9.out.base HB2.out.size, HB9.out⟩
end Go.Proofs.YtlpjgaeelnlipaaGreat
namespace Go.Proofs.YtlpjgaeelnlipaaGreat
open Go.RowKit
open CodM (St Pg rightP)
open BfM (Wr plc)
open ScM

theorem OwnSt.pk {base : Nat} {w : World} {vm vt : Value} {s : Sta} {ps : List TV} (h : OwnSt base w vm vt s ps) {k : Nat} (hk : k < s.ths.length) : ∃ vr vb, ps[k]? = some ⟨s.ths[k], vr, vb⟩ := by
  have hkp : k < ps.length := by rw [h.len]; exact hk
  exact ⟨ps[k].vr, ps[k].vb, by rw [List.getElem?_eq_getElem hkp, ← h.at hkp hk]⟩
end Go.Proofs.YtlpjgaeelnlipaaGreat
namespace Go.Proofs.YtlpjgaeelnlipaaGreat
open Go.RowKit
open CodM (St Pg rightP)
open BfM (Wr plc)
open ScM

end Go.Proofs.YtlpjgaeelnlipaaGreat
