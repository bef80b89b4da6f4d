/-
  THE DOCUMENT's Own of layer 10: a state, in rows of the call's own.
  THE DOCUMENT's Flush of layer 11.
  THE DOCUMENT's Step of layer 11: a drain.
-/
import Derived.Test.YtkbnppidkhbbeaaK04
import Derived.Test.YtkbnppidkhbbeaaScAt
import Derived.Deep.RegionHeld3
import Derived.Deep.DeepCutAuto
import Derived.Test.YtkbnppidkhbbeaaK06
import Derived.Test.YtkbnppidkhbbeaaK10
set_option linter.unusedVariables false
set_option linter.unusedSimpArgs false
namespace Go.Proofs.Ytkbnppidkhbbeaa
open Go.RowKit
set_option linter.unusedVariables false
set_option linter.unusedSimpArgs false
open CodM (St Pg rightP)
open BfM (Wr plc)
open ScM

theorem box_set {W : World} {g i : Nat} {T : TypeId} {cs cs' : Array Value} (h : BoxC W g T cs) (v : Value) (e : cs.setIfInBounds i v = cs') : BoxC (W.setCell ⟨g, i, none⟩ v) g T cs' := by rw [← e]; exact h.set i v
set_option maxHeartbeats 8000000 in
set_option maxRecDepth 100000 in
theorem rown_any {B : Nat} {v : Value} {s : Sta} (w : World) (hv : StaV B w v s) (hBB : B ≤ w.heap.size) (hw : WideS s) :
    Calls Try.prog 32 #[v] w (StRet s w) := by
  obtain ⟨vm, vt, rfl, hvm, hvt⟩ := hv
  have hml := hw.mem
  have htl := hw.ths
  have HWD := Lib.hid hw.regs
  clear hw
  obtain ⟨A7, c7, rfl, a1, a2, a0, a3⟩ := hvm
  obtain ⟨A1, c1, rfl, g1, g2, -, g3⟩ := hvt
  unfold maxLen at a2 g2
  obtain ⟨i0, hi0, hz0, hz1, hz2⟩ := info_parts info_nu
  obtain ⟨i1', hi1', hy1, hy2, hy3⟩ := info_parts info_th
  obtain ⟨i2', hi2', hw1, hw2, hw3⟩ := info_parts info_wr
  have HCO := Lib.hid (show Try.prog.cellsOf 28 = 2 from by kernel_rfl)
  obtain ⟨W2, hW2⟩ : ∃ W, W = (w.alloc (.cells #[.slice A7 s.mem.length c7, .slice A1 s.ths.length c1] 28)).alloc (.cells #[.slice none 0 0, .slice none 0 0] 28) := ⟨_, rfl⟩
  obtain ⟨gp, hgp⟩ : ∃ g, g = w.heap.size := ⟨_, rfl⟩
  obtain ⟨gr, hgr⟩ : ∃ g, g = w.heap.size + 1 := ⟨_, rfl⟩
  have HX := Lib.hid (show BoxC W2 gp 28 #[.slice A7 s.mem.length c7, .slice A1 s.ths.length c1] from by rw [hW2, hgp]; exact (BoxC.new w _ _).alloc _)
  have HR := Lib.hid (show BoxC W2 gr 28 #[.slice none 0 0, .slice none 0 0] from by rw [hW2, hgr]; have := BoxC.new (w.alloc (.cells #[.slice A7 s.mem.length c7, .slice A1 s.ths.length c1] 28)) 28 #[.slice none 0 0, .slice none 0 0]; rw [World.size_alloc] at this; exact this)
  have HB2 := Lib.hid (show Below w.heap.size w W2 from by rw [hW2]; exact below_al (below_al (Below.refl _ _) _) _)
  have HGR := Lib.hid (show w.heap.size ≤ gr from by omega)
  have HSRC := Lib.hid (fun W (hW : Below W2.heap.size W2 W) => src_rw (W := W) nuC_len a0 a3 ((chain HB2.out hW).mono hBB))
  have HG3 := Lib.hid (fun W (hW : Below W2.heap.size W2 W) (k : Nat) (hk : k < s.ths.length) => show ∃ b f, A1 = some ⟨b, f, none⟩ ∧ b < B ∧ TdAt B W b (f + k * 4) s.ths[k] from by
    obtain ⟨b, f, e, hb, hc⟩ := g3 (by omega)
    exact ⟨b, f, e, hb, (hc k hk).below ((chain HB2.out hW).mono hBB) hb⟩)
  have HBW := Lib.hid (Nat.le_trans hBB HB2.out.size)
  have HTK := Lib.hid (fun (k : Nat) (h : k < s.ths.length) => show s.ths.take (k + 1) = s.ths.take k ++ [s.ths[k]] from List.take_succ_eq_append_getElem h)
  have HTA := Lib.hid (show s.ths.take s.ths.length = s.ths from List.take_length)
  have x0 := HX.out.cell 0 _ rfl
  clear a3 g3
  go_enter Try.func32, Try.ntmps32
  go_upto_region 1 with fail
  rw [← hW2]
  (try rw [← hgr])
  (try rw [← hgp])
  clear hW2 hgr hgp
  go_cut [3] (fun s3 wx => ∃ (gs : Nat) (vm : Value), s3 = .pointer (some ⟨gs, 0, none⟩) ∧ BoxC wx gs 28 #[vm, .slice none 0 0] ∧ OwnI W2.heap.size wx vm s.mem ∧ Below W2.heap.size W2 wx ∧ W2.heap.size ≤ gs)
  case first =>
    have HE := Lib.hid (below_al (Below.refl W2.heap.size W2) (.cells #[] 3))
    have HO := Lib.hid (show (W2.alloc (.cells #[] 3)).ownsRow W2.heap.size 3 1 (.slice (some ⟨W2.heap.size, 0, none⟩) 0 0) 0 [] from World.ownsRow_lit (base := W2.heap.size) (e := 3) (size := 1) W2 #[] 0 (Nat.le_refl _) (by decide) rfl)
    have l0 := lt_of_cell x0
    have x0 := kc HE.out x0
    go_wp2_with (at_builtin; refine wpList_append_rw _ rfl _ _ 22 rfl W2.heap.size 3 i0 (.int .i64 0) 1 8 Try.underlying22 hi0 hz0 hz1 hz2 rfl (by decide) _ 0 [] rfl HO.out A7 s.mem.length c7 (s.mem.flatMap nuC) rfl (fl_len nuC_len s.mem) a0 (HSRC.out _ HE.out) (one_nu s.mem) (by unfold maxLen; omega) (by omega) (by simp) ?_; intro v1 wz hown1 hg1; rw [Nat.zero_add, List.nil_append] at hown1; obtain ⟨A8, c8, rfl⟩ := own_slice hown1)
    go_meet
    have hb1 := below_append HE.out HO.out (Nat.le_refl _) HE.out.size hg1
    have hb2 := below_al (Below.refl wz.heap.size wz) (.cells #[.slice A8 s.mem.length c8, .slice none 0 0] 28)
    exact ⟨wz.heap.size, _, rfl, BoxC.new wz _ _, own_below hown1 hb2, chain hb1 hb2, hb1.size⟩
  case rest =>
    obtain ⟨gs, vm, rfl, hbs, hom, hBc, hgs⟩ := hcut
    have HBS := Lib.hid hbs
    have HOM := Lib.hid hom
    have HBC := Lib.hid hBc
    obtain ⟨Am, cm, rfl⟩ := own_slice hom
    clear hbs hom hBc x0
    go_wp2
    go_loopw [4] (fun i wr => ∃ (k : Nat) (vt : Value) (ps : List TV), k ≤ s.ths.length ∧ i = .int .i64 k ∧ BoxC wr gs 28 #[.slice Am s.mem.length cm, vt] ∧ OwnSt W2.heap.size wr (.slice Am s.mem.length cm) vt ⟨s.mem, s.ths.take k⟩ ps ∧ Below W2.heap.size W2 wr) (fun i _ => s.ths.length - (intOf i).toNat)
    case atStart => exact ⟨0, _, [], Nat.zero_le _, rfl, HBS.out, OwnSt.nothing _ HOM.out, HBC.out⟩
    case round =>
      obtain ⟨k, vt, ps, hk, rfl, hbx, hos, hB⟩ := hrel
      have HBX := Lib.hid hbx
      have HOS := Lib.hid hos
      have HB := Lib.hid hB
      have HOT := Lib.hid (show wr.ownsRow W2.heap.size 43 4 vt k (ps.flatMap thC) from by have := hos.ths; rwa [show (⟨s.mem, s.ths.take k⟩ : Sta).ths.length = k from by show (s.ths.take k).length = k; rw [List.length_take]; omega] at this)
      obtain ⟨Av, cv, rfl⟩ := own_slice HOT.out
      have HSZ := Lib.hid (show W2.heap.size ≤ wr.heap.size from hB.size)
      have x1 := (HX.out.below hB HX.out.lt).cell 1 _ rfl
      clear hbx hos hB
      by_cases hlt : k < s.ths.length
      · obtain ⟨b1, f1, rfl, hb1, hTd⟩ := HG3.out wr HB.out k hlt
        have htk := HTK.out k hlt
        obtain ⟨hrl, hbl⟩ := HWD.out _ (List.getElem_mem hlt)
        obtain ⟨x, hx⟩ : ∃ x, x = s.ths[k] := ⟨_, rfl⟩
        rw [← hx] at hTd htk hrl hbl
        have HTKk := Lib.hid htk
        clear hx htk
        obtain ⟨vr, vb, z0, z1, z2, z3, hR, hW⟩ := hTd
        obtain ⟨A3, c3, rfl, r1, r2, r0, r3⟩ := hR
        obtain ⟨A4, c4, rfl, q1, q2, q0, q3⟩ := hW
        have HBr := Lib.hid (show B ≤ wr.heap.size from Nat.le_trans HBW.out HSZ.out)
        have HS3 := Lib.hid (fun W (hW : Below wr.heap.size wr W) => src_rw (W := W) nuC_len r0 r3 (hW.mono HBr.out))
        have HS4 := Lib.hid (fun W (hW : Below wr.heap.size wr W) => src_rw (W := W) wrC_len q0 q3 (hW.mono HBr.out))
        clear r3 q3
        unfold maxLen at r2 q2
        go_upto_region 6 with fail
        obtain ⟨X0, hX0⟩ : ∃ W, W = wr.alloc (.cells #[.int .i64 x.at', .slice A3 x.regs.length c3, .bool x.eq, .slice A4 x.buf.length c4] 43) := ⟨_, rfl⟩
        obtain ⟨gx, hgx⟩ : ∃ g, g = wr.heap.size := ⟨_, rfl⟩
        have HL0 := Lib.hid (show Below wr.heap.size wr X0 from by rw [hX0]; exact below_al (Below.refl _ _) _)
        have HQ0 := Lib.hid (show BoxC X0 gx 43 #[.int .i64 x.at', .slice A3 x.regs.length c3, .bool x.eq, .slice A4 x.buf.length c4] from by rw [hX0, hgx]; exact BoxC.new wr _ _)
        have HGX := Lib.hid (show wr.heap.size ≤ gx from by omega)
        rw [← hX0]
        (try rw [← hgx])
        clear hX0 hgx z0 z1 z2 z3 x1
        have HE0 := Lib.hid (below_al (Below.refl X0.heap.size X0) (.cells #[] 3))
        have HO0 := Lib.hid (show (X0.alloc (.cells #[] 3)).ownsRow X0.heap.size 3 1 (.slice (some ⟨X0.heap.size, 0, none⟩) 0 0) 0 [] from World.ownsRow_lit (base := X0.heap.size) (e := 3) (size := 1) X0 #[] 0 (Nat.le_refl _) (by decide) rfl)
        have y1 := kc HE0.out (HQ0.out.cell 1 _ rfl)
        go_upto_region 7 with (at_builtin; refine wpList_append_rw _ rfl _ _ 22 rfl X0.heap.size 3 i0 (.int .i64 0) 1 8 Try.underlying22 hi0 hz0 hz1 hz2 rfl (by decide) _ 0 [] rfl HO0.out A3 x.regs.length c3 (x.regs.flatMap nuC) rfl (fl_len nuC_len x.regs) r0 (HS3.out _ (chain HL0.out HE0.out)) (one_nu x.regs) (by unfold maxLen; omega) (by omega) (by simp) ?_; intro v1 wz hown1 hg1; rw [Nat.zero_add, List.nil_append] at hown1; obtain ⟨A8, c8, rfl⟩ := own_slice hown1; have HBz := Lib.hid (below_append HE0.out HO0.out (Nat.le_refl _) HE0.out.size hg1); have HQz := Lib.hid (HQ0.out.below HBz.out HQ0.out.lt); have yz := HQz.out.cell 1 _ rfl; have fz := HQz.out.frozen 1)
        obtain ⟨X1, hX1⟩ : ∃ W, W = wz.setCell ⟨gx, 1, none⟩ (.slice A8 x.regs.length c8) := ⟨_, rfl⟩
        have HQ1 := Lib.hid (show BoxC X1 gx 43 #[.int .i64 x.at', .slice A8 x.regs.length c8, .bool x.eq, .slice A4 x.buf.length c4] from by rw [hX1]; exact HQz.out.set 1 _)
        have HV1 := Lib.hid (show OwnI wr.heap.size X1 (.slice A8 x.regs.length c8) x.regs from by rw [hX1]; exact own_box (own_base hown1 HL0.out.size) HQz.out (by decide) 1 _)
        have HL1 := Lib.hid (show Below wr.heap.size wr X1 from by rw [hX1]; exact (chain HL0.out HBz.out).setCell (p := ⟨gx, 1, none⟩) HGX.out _)
        rw [← hX1]
        clear hX1 hown1 hg1 y1 yz fz
        have HE1 := Lib.hid (below_al (Below.refl X1.heap.size X1) (.cells #[] 54))
        have HO1 := Lib.hid (show (X1.alloc (.cells #[] 54)).ownsRow X1.heap.size 54 2 (.slice (some ⟨X1.heap.size, 0, none⟩) 0 0) 0 [] from World.ownsRow_lit (base := X1.heap.size) (e := 54) (size := 2) X1 #[] 0 (Nat.le_refl _) (by decide) rfl)
        have y3 := kc HE1.out (HQ1.out.cell 3 _ rfl)
        go_upto_region 8 with (at_builtin; refine wpList_append_rw _ rfl _ _ 41 rfl X1.heap.size 54 i2' (.agg #[.int .i64 0, .int .i64 0]) 2 16 Try.underlying41 hi2' hw1 hw2 hw3 rfl (by decide) _ 0 [] rfl HO1.out A4 x.buf.length c4 (x.buf.flatMap wrC) rfl (fl_len wrC_len x.buf) q0 (HS4.out _ (chain HL1.out HE1.out)) (one_w x.buf) (by unfold maxLen; omega) (by omega) (by simp) ?_; intro v2 wy hown2 hg2; rw [Nat.zero_add, List.nil_append] at hown2; obtain ⟨A9, c9, rfl⟩ := own_slice hown2; have HBy := Lib.hid (below_append HE1.out HO1.out (Nat.le_refl _) HE1.out.size hg2); have HQy := Lib.hid (HQ1.out.below HBy.out HQ1.out.lt); have yz := HQy.out.cell 3 _ rfl; have fz := HQy.out.frozen 3)
        obtain ⟨X2, hX2⟩ : ∃ W, W = wy.setCell ⟨gx, 3, none⟩ (.slice A9 x.buf.length c9) := ⟨_, rfl⟩
        have HQ2 := Lib.hid (show BoxC X2 gx 43 #[.int .i64 x.at', .slice A8 x.regs.length c8, .bool x.eq, .slice A9 x.buf.length c9] from by rw [hX2]; exact HQy.out.set 3 _)
        have HV2 := Lib.hid (show OwnW wr.heap.size X2 (.slice A9 x.buf.length c9) x.buf from by rw [hX2]; exact own_box (own_base hown2 HL1.out.size) HQy.out (by decide) 3 _)
        have HV1' := Lib.hid (show OwnI wr.heap.size X2 (.slice A8 x.regs.length c8) x.regs from by rw [hX2]; exact own_box (own_below HV1.out HBy.out) HQy.out (by decide) 3 _)
        have HL2 := Lib.hid (show Below wr.heap.size wr X2 from by rw [hX2]; exact (chain HL1.out HBy.out).setCell (p := ⟨gx, 3, none⟩) HGX.out _)
        rw [← hX2]
        clear hX2 hown2 hg2 y3 yz fz
        obtain ⟨q, hq⟩ : ∃ q : TV, q = ⟨x, .slice A8 x.regs.length c8, .slice A9 x.buf.length c9⟩ := ⟨_, rfl⟩
        have HEQ := Lib.hid (below_al (Below.refl X2.heap.size X2) (.cells #[.int .i64 x.at', .slice A8 x.regs.length c8, .bool x.eq, .slice A9 x.buf.length c9] 43))
        have HLE := Lib.hid (chain HL2.out HEQ.out)
        have HF := Lib.hid (World.news_of_block (heap_alloc_new X2 (.cells #[.int .i64 x.at', .slice A8 x.regs.length c8, .bool x.eq, .slice A9 x.buf.length c9] 43)))
        have e0 := HQ2.out.cell 0 _ rfl
        have e1 := HQ2.out.cell 1 _ rfl
        have e2 := HQ2.out.cell 2 _ rfl
        have e3 := HQ2.out.cell 3 _ rfl
        have y1 := (HBX.out.below HL2.out HBX.out.lt).cell 1 _ rfl
        go_wp2_with (at_builtin; refine wpList_append_rw _ rfl _ _ 26 rfl W2.heap.size 43 i1' (.agg #[.int .i64 0, .slice none 0 0, .bool false, .slice none 0 0]) 4 64 Try.underlying26 hi1' hy1 hy2 hy3 rfl (by decide) _ k (ps.flatMap thC) rfl (own_below HOT.out HLE.out) (some ⟨X2.heap.size, 0, none⟩) 1 1 (thC ⟨x, .slice A8 x.regs.length c8, .slice A9 x.buf.length c9⟩) rfl rfl (fun c => (by cases c)) (fun ad e j u h => by injection e with e; rw [← e]; exact HF.out j u h) (one_th _ rfl rfl) (by unfold maxLen; omega) (by omega) (Nat.le_trans HSZ.out HLE.out.size) ?_; intro v5 w5 hown5 hg5; obtain ⟨A5, c5, rfl⟩ := own_slice hown5; have HBX5 := Lib.hid ((HBX.out.below HLE.out HBX.out.lt).grown (by decide) (own_below HOT.out HLE.out) hg5); have y5 := HBX5.out.cell 1 _ rfl; have f5 := HBX5.out.frozen 1)
        have HLK := Lib.hid (show (⟨s.mem, s.ths.take k⟩ : Sta).ths.length = k from by show (s.ths.take k).length = k; rw [List.length_take]; omega)
        have HO5 := Lib.hid ((HOS.out.below HLE.out).snoc ⟨x, .slice A8 x.regs.length c8, .slice A9 x.buf.length c9⟩ (own_base (own_below HV1'.out HEQ.out) HSZ.out) (own_base (own_below HV2.out HEQ.out) HSZ.out) (HOS.out.new_r (own_below HV1'.out HEQ.out) (Nat.le_refl _)).1 (HOS.out.new_r (own_below HV1'.out HEQ.out) (Nat.le_refl _)).2 (by rw [HLK.out]; exact hown5) hg5)
        have HB5 := Lib.hid (below_append (HB.out.trans (HLE.out.mono HB.out.size)) (own_below HOT.out HLE.out) (Nat.le_refl _) (Nat.le_trans HB.out.size HLE.out.size) hg5)
        clear hown5 hg5 y1 y5 f5 e0 e1 e2 e3 hq
        go_roundw
        case rel => exact ⟨k + 1, _, _, by omega, by go_num, HBX5.out.set 1 _, by rw [HTKk.out]; exact HO5.out.box HBX5.out (by decide) (by decide) (by decide) 1 _, HB5.out.setCell (p := ⟨gs, 1, none⟩) hgs _⟩
        case measure => simp [intOf]; omega
      · obtain rfl : s.ths.length = k := by omega
        have y0 := HBX.out.cell 0 _ rfl
        have y1 := HBX.out.cell 1 _ rfl
        have HRR := Lib.hid (HR.out.below HB.out HR.out.lt)
        have r0 := HRR.out.cell 0 _ rfl
        have r1 := HRR.out.cell 1 _ rfl
        have f0 := HRR.out.frozen 0
        have f1 := HRR.out.frozen 1
        obtain ⟨W9, hW9⟩ : ∃ W, W = (wr.setCell ⟨gr, 0, none⟩ (.slice Am s.mem.length cm)).setCell ⟨gr, 1, none⟩ (.slice Av s.ths.length cv) := ⟨_, rfl⟩
        have HR9 := Lib.hid (show BoxC W9 gr 28 #[.slice Am s.mem.length cm, .slice Av s.ths.length cv] from by rw [hW9]; exact (HRR.out.set 0 _).set 1 _)
        have HO9 := Lib.hid (show OwnSt W2.heap.size W9 (.slice Am s.mem.length cm) (.slice Av s.ths.length cv) s ps from by
          have e := HOS.out
          rw [HTA.out] at e
          rw [hW9]
          exact (e.box HRR.out (by decide) (by decide) (by decide) 0 _).box (HRR.out.set 0 _) (by decide) (by decide) (by decide) 1 _)
        have HB9 := Lib.hid (show Below w.heap.size w W9 from by rw [hW9]; exact ((chain HB2.out HB.out).setCell (p := ⟨gr, 0, none⟩) HGR.out _).setCell (p := ⟨gr, 1, none⟩) HGR.out _)
        have HW9 := Lib.hid hW9
        clear hW9
        go_wp2_with fail
        rw [← HW9.out]
        clear y0 y1 r0 r1 f0 f1
        have r0 := HR9.out.cell 0 _ rfl
        have r1 := HR9.out.cell 1 _ rfl
        have hz := HCO.out
        refine bodyPost_ret (v := .agg #[.slice Am s.mem.length cm, .slice Av s.ths.length cv]) (by simp [results, Try.results32, go_sem, r0, r1, hz]) rfl ⟨_, _, _, rfl, HO9.out.base HB2.out.size, HB9.out⟩
end Go.Proofs.Ytkbnppidkhbbeaa
namespace Go.Proofs.Ytkbnppidkhbbeaa
open Go.RowKit
set_option linter.unusedVariables false
set_option linter.unusedSimpArgs false
open CodM (St Pg rightP)
open BfM (Wr plc)
open ScM

theorem OwnSt.pk {base : Nat} {w : World} {vm vt : Value} {s : Sta} {ps : List TV} (h : OwnSt base w vm vt s ps) {k : Nat} (hk : k < s.ths.length) : ∃ vr vb, ps[k]? = some ⟨s.ths[k], vr, vb⟩ := by
  have hkp : k < ps.length := by rw [h.len]; exact hk
  exact ⟨ps[k].vr, ps[k].vb, by rw [List.getElem?_eq_getElem hkp, ← h.at hkp hk]⟩
set_option maxHeartbeats 8000000 in
set_option maxRecDepth 100000 in
theorem rflush_any {B : Nat} {v u : Value} {P : Pg} {s : Sta} (t : Int) (w : World) (hv : PgV B w v P) (hu : StaV B w u s) (hBB : B ≤ w.heap.size) (hw : WideS s) :
    Calls Try.prog 18 #[v, u, .int .i64 t] w (StRet (flu s t) w) := by
  have HOWN := Lib.hid (fun W (hW : Below w.heap.size w W) => rown_any W ((hu.below (hW.mono hBB)).more (Nat.le_trans hBB hW.size)) (Nat.le_refl _) hw)
  obtain ⟨pi, pt, rfl, hpm⟩ := hv
  obtain ⟨um, ut, rfl, hum⟩ := hu
  have hwm := hw.mem
  have HWR := Lib.hid hw.regs
  obtain ⟨⟨P0, d0, rfl, -⟩, ⟨P1, d1, rfl, -⟩⟩ := hpm
  have HUM := Lib.hid hum.1
  obtain ⟨⟨A7, c7, rfl, -⟩, ⟨A1, c1, rfl, m1, m2, -, m3⟩⟩ := hum
  have HM3 := Lib.hid m3
  unfold maxLen at m2
  clear hw m3
  have HCO := Lib.hid (show Try.prog.cellsOf 28 = 2 from by kernel_rfl)
  obtain ⟨W3, hW3⟩ : ∃ W, W = ((w.alloc (.cells #[.slice P0 P.init.length d0, .slice P1 P.ths.length d1] 25)).alloc (.cells #[.slice A7 s.mem.length c7, .slice A1 s.ths.length c1] 28)).alloc (.cells #[.slice none 0 0, .slice none 0 0] 28) := ⟨_, rfl⟩
  obtain ⟨gp, hgp⟩ : ∃ g, g = w.heap.size := ⟨_, rfl⟩
  obtain ⟨gs, hgs⟩ : ∃ g, g = w.heap.size + 1 := ⟨_, rfl⟩
  obtain ⟨gr, hgr⟩ : ∃ g, g = w.heap.size + 1 + 1 := ⟨_, rfl⟩
  have HY := Lib.hid (show BoxC W3 gs 28 #[.slice A7 s.mem.length c7, .slice A1 s.ths.length c1] from by rw [hW3, hgs]; have := (BoxC.new (w.alloc (.cells #[.slice P0 P.init.length d0, .slice P1 P.ths.length d1] 25)) 28 #[.slice A7 s.mem.length c7, .slice A1 s.ths.length c1]).alloc (.cells #[.slice none 0 0, .slice none 0 0] 28); rw [World.size_alloc] at this; exact this)
  have HR := Lib.hid (show BoxC W3 gr 28 #[.slice none 0 0, .slice none 0 0] from by rw [hW3, hgr]; have := BoxC.new ((w.alloc (.cells #[.slice P0 P.init.length d0, .slice P1 P.ths.length d1] 25)).alloc (.cells #[.slice A7 s.mem.length c7, .slice A1 s.ths.length c1] 28)) 28 #[.slice none 0 0, .slice none 0 0]; rw [World.size_alloc, World.size_alloc] at this; exact this)
  have HB3 := Lib.hid (show Below w.heap.size w W3 from by rw [hW3]; exact below_al (below_al (below_al (Below.refl _ _) _) _) _)
  have HGR := Lib.hid (show w.heap.size ≤ gr from by omega)
  have y0 := HY.out.cell 0 _ rfl
  have y1 := HY.out.cell 1 _ rfl
  go_enter Try.func18, Try.ntmps18
  go_upto_region 1 with fail
  rw [← hW3]
  (try rw [← hgr])
  (try rw [← hgs])
  (try rw [← hgp])
  clear hW3 hgr hgs hgp
  go_wp2_with fail
  refine (HOWN.out _ HB3.out).mono ?_
  rintro e w1 ⟨vm, vt, ps, rfl, hos, hb1⟩
  have HOS := Lib.hid hos
  have HB1 := Lib.hid hb1
  obtain ⟨Am, cm, rfl⟩ := own_slice hos.mem
  obtain ⟨Av, cv, rfl⟩ := own_slice hos.ths
  clear hos hb1 HOWN y0 y1
  go_upto_region 2 with fail
  obtain ⟨X1, hX1⟩ : ∃ W, W = w1.alloc (.cells #[.slice Am s.mem.length cm, .slice Av s.ths.length cv] 28) := ⟨_, rfl⟩
  obtain ⟨go, hgo⟩ : ∃ g, g = w1.heap.size := ⟨_, rfl⟩
  have HQ1 := Lib.hid (show BoxC X1 go 28 #[.slice Am s.mem.length cm, .slice Av s.ths.length cv] from by rw [hX1, hgo]; exact BoxC.new w1 _ _)
  have HL1 := Lib.hid (show Below w1.heap.size w1 X1 from by rw [hX1]; exact below_al (Below.refl _ _) _)
  have HL3 := Lib.hid (chain HB1.out HL1.out)
  have HGO := Lib.hid (show gs < go from by rw [hgo]; exact Nat.lt_of_lt_of_le HY.out.lt HB1.out.size)
  have HGO3 := Lib.hid (show W3.heap.size ≤ go from by rw [hgo]; exact HB1.out.size)
  replace HOS := Lib.hid (HOS.out.below HL1.out)
  rw [← hX1]
  (try rw [← hgo])
  clear hX1 hgo HL1 HB1
  have HRR := Lib.hid (HR.out.below HL3.out HR.out.lt)
  have HBF := Lib.hid (chain HB3.out HL3.out)
  have y1 := (HY.out.below HL3.out HY.out.lt).cell 1 _ rfl
  by_cases hr : 0 ≤ t ∧ t < (s.ths.length : Int)
  case neg =>
    have HFE := Lib.hid (show flu s t = s from by unfold flu; rw [thO_none hr])
    by_cases h0 : t < 0
    · clear hr y1
      have y1 := (HY.out.below HL3.out HY.out.lt).cell 1 _ rfl
      go_upto_region 3 with fail
      clear y1
      have y0 := HQ1.out.cell 0 _ rfl
      have y1 := HQ1.out.cell 1 _ rfl
      have r0 := HRR.out.cell 0 _ rfl
      have r1 := HRR.out.cell 1 _ rfl
      have f0 := HRR.out.frozen 0
      have f1 := HRR.out.frozen 1
      obtain ⟨W9, hW9⟩ : ∃ W, W = (X1.setCell ⟨gr, 0, none⟩ (.slice Am s.mem.length cm)).setCell ⟨gr, 1, none⟩ (.slice Av s.ths.length cv) := ⟨_, rfl⟩
      have HR9 := Lib.hid (show BoxC W9 gr 28 #[(.slice Am s.mem.length cm), (.slice Av s.ths.length cv)] from by rw [hW9]; exact (HRR.out.set 0 _).set 1 _)
      have HO9 := Lib.hid (show OwnSt W3.heap.size W9 (.slice Am s.mem.length cm) (.slice Av s.ths.length cv) (flu s t) ps from by
        rw [hW9]
        exact ((HOS.out.cast HFE.out.symm).box HRR.out (by decide) (by decide) (by decide) 0 _).box (HRR.out.set 0 _) (by decide) (by decide) (by decide) 1 _)
      have HB9 := Lib.hid (show Below w.heap.size w W9 from by rw [hW9]; exact (HBF.out.setCell (p := ⟨gr, 0, none⟩) HGR.out _).setCell (p := ⟨gr, 1, none⟩) HGR.out _)
      have HW9 := Lib.hid hW9
      clear hW9
      go_wp2_with fail
      rw [← HW9.out]
      clear y0 y1 r0 r1 f0 f1
      have r0 := HR9.out.cell 0 _ rfl
      have r1 := HR9.out.cell 1 _ rfl
      have hz := HCO.out
      refine bodyPost_ret (v := .agg #[(.slice Am s.mem.length cm), (.slice Av s.ths.length cv)]) (by simp [results, Try.results18, go_sem, r0, r1, hz]) rfl ⟨_, _, _, rfl, HO9.out.base HB3.out.size, HB9.out⟩

    · have h1 : (s.ths.length : Int) ≤ t := by omega
      clear hr
      go_upto_region 3 with fail
      clear y1
      have y0 := HQ1.out.cell 0 _ rfl
      have y1 := HQ1.out.cell 1 _ rfl
      have r0 := HRR.out.cell 0 _ rfl
      have r1 := HRR.out.cell 1 _ rfl
      have f0 := HRR.out.frozen 0
      have f1 := HRR.out.frozen 1
      obtain ⟨W9, hW9⟩ : ∃ W, W = (X1.setCell ⟨gr, 0, none⟩ (.slice Am s.mem.length cm)).setCell ⟨gr, 1, none⟩ (.slice Av s.ths.length cv) := ⟨_, rfl⟩
      have HR9 := Lib.hid (show BoxC W9 gr 28 #[(.slice Am s.mem.length cm), (.slice Av s.ths.length cv)] from by rw [hW9]; exact (HRR.out.set 0 _).set 1 _)
      have HO9 := Lib.hid (show OwnSt W3.heap.size W9 (.slice Am s.mem.length cm) (.slice Av s.ths.length cv) (flu s t) ps from by
        rw [hW9]
        exact ((HOS.out.cast HFE.out.symm).box HRR.out (by decide) (by decide) (by decide) 0 _).box (HRR.out.set 0 _) (by decide) (by decide) (by decide) 1 _)
      have HB9 := Lib.hid (show Below w.heap.size w W9 from by rw [hW9]; exact (HBF.out.setCell (p := ⟨gr, 0, none⟩) HGR.out _).setCell (p := ⟨gr, 1, none⟩) HGR.out _)
      have HW9 := Lib.hid hW9
      clear hW9
      go_wp2_with fail
      rw [← HW9.out]
      clear y0 y1 r0 r1 f0 f1
      have r0 := HR9.out.cell 0 _ rfl
      have r1 := HR9.out.cell 1 _ rfl
      have hz := HCO.out
      refine bodyPost_ret (v := .agg #[(.slice Am s.mem.length cm), (.slice Av s.ths.length cv)]) (by simp [results, Try.results18, go_sem, r0, r1, hz]) rfl ⟨_, _, _, rfl, HO9.out.base HB3.out.size, HB9.out⟩

  obtain ⟨hr1, hr2⟩ := hr
  obtain ⟨k, rfl⟩ : ∃ k : Nat, t = k := ⟨t.toNat, by omega⟩
  have hks : k < s.ths.length := by omega
  obtain ⟨b1, f1, rfl, hb1, hc1⟩ := HM3.out (by omega)
  obtain ⟨vr, vb, -, -, -, b3, -, hW⟩ := hc1 k hks
  have HGO2 := Lib.hid (show b1 < go from Nat.lt_of_lt_of_le hb1 (Nat.le_trans hBB (Nat.le_trans HB3.out.size HGO3.out)))
  have HFE := Lib.hid (show flu s (k : Int) = ⟨BfM.all s.ths[k].buf s.mem, s.ths.set k ⟨s.ths[k].at', s.ths[k].regs, s.ths[k].eq, []⟩⟩ from by unfold flu; rw [thO_at hks]; rfl)
  have HPK := Lib.hid (HOS.out.pk hks)
  have HAL := Lib.hid (fun W (hW' : Below w.heap.size w W) => rall_any W ((hW.below (hW'.mono hBB)).more (Nat.le_trans hBB hW'.size)) ((HUM.out.below (hW'.mono hBB)).more (Nat.le_trans hBB hW'.size)) (Nat.le_refl _) (by have := (HWR.out _ (List.getElem_mem hks)).2; omega) (by omega))
  replace b3 := ((HBF.out.mono hBB).cell (p := ⟨b1, f1 + k * 4 + 3, none⟩) hb1).trans b3
  have HB12 := Lib.hid hb1
  generalize s.ths[k] = h at *
  obtain ⟨xa, xr, xe, xb⟩ := h
  dsimp only at *
  obtain ⟨Ab, cb, rfl, -⟩ := hW
  have HALL := HAL
  clear hc1 HAL hb1
  have y0 := (HY.out.below HL3.out HY.out.lt).cell 0 _ rfl
  go_upto_region 4 with fail
  refine wp_region_held_drew (S := (fun w' => w'.cell? ⟨gs, 0, none⟩ = some (.slice A7 s.mem.length c7) ∧ w'.cell? ⟨gs, 1, none⟩ = some (.slice (some ⟨b1, f1, none⟩) s.ths.length c1) ∧ w'.cell? ⟨b1, f1 + k * 4 + 3, none⟩ = some (.slice Ab xb.length cb) ∧ Below W3.heap.size W3 w' ∧ X1.heap.size ≤ w'.heap.size)) (by kernel_rfl) ⟨y0, y1, b3, below_drewN HL3.out 1, Nat.le_refl _⟩ (fun hHeld => ?_)
  obtain ⟨Xs, hXs⟩ : ∃ W, W = X1.drew := ⟨_, rfl⟩
  have HXs := Lib.hid (show Below X1.heap.size X1 Xs from by rw [hXs]; exact below_drewN (Below.refl _ _) 1)
  rw [← hXs] at hHeld ⊢
  clear hXs
  refine wpAnyH_take (i := 0) (v := ?_) rfl (by kernel_rfl) (by kernel_rfl) (by kernel_rfl) (fun _ _ _ h => h) (Or.inl ⟨by rfl, ?_⟩) (by assumption) ?_
  rotate_left
  · intro w hSw; (try dsimp only at hSw); go_simp; (try with_reducible rfl)
  (try simp only [Act.put, List.getElem_toArray, List.getElem_cons_zero, List.getElem_cons_succ, Array.getInternal_eq_getElem, List.setIfInBounds_toArray, List.set_cons_zero, List.set_cons_succ])
  refine wpAnyH_take (i := 1) (v := ?_) rfl (by kernel_rfl) (by kernel_rfl) (by kernel_rfl) (fun _ _ _ h => h) (Or.inl ⟨by rfl, ?_⟩) (by assumption) ?_
  rotate_left
  · intro w hSw; (try dsimp only at hSw); go_simp; (try with_reducible rfl)
  (try simp only [Act.put, List.getElem_toArray, List.getElem_cons_zero, List.getElem_cons_succ, Array.getInternal_eq_getElem, List.setIfInBounds_toArray, List.set_cons_zero, List.set_cons_succ])
  refine wpAnyH_take (i := 2) (v := ?_) rfl (by kernel_rfl) (by kernel_rfl) (by kernel_rfl) (fun _ _ _ h => h) (Or.inl ⟨by rfl, ?_⟩) (by assumption) ?_
  rotate_left
  · intro w hSw; (try dsimp only at hSw); go_simp; (try with_reducible rfl)
  (try simp only [Act.put, List.getElem_toArray, List.getElem_cons_zero, List.getElem_cons_succ, Array.getInternal_eq_getElem, List.setIfInBounds_toArray, List.set_cons_zero, List.set_cons_succ])
  refine wpAnyH_take (i := 3) (v := ?_) rfl (by kernel_rfl) (by kernel_rfl) (by kernel_rfl) (fun _ _ _ h => h) (Or.inl ⟨by rfl, ?_⟩) (by assumption) ?_
  rotate_left
  · intro w hSw; (try dsimp only at hSw); go_simp; (try with_reducible rfl)
  (try simp only [Act.put, List.getElem_toArray, List.getElem_cons_zero, List.getElem_cons_succ, Array.getInternal_eq_getElem, List.setIfInBounds_toArray, List.set_cons_zero, List.set_cons_succ])
  refine wpAnyH_take (i := 4) (v := ?_) rfl (by kernel_rfl) (by kernel_rfl) (by kernel_rfl) (fun _ _ _ h => h) (Or.inl ⟨by rfl, ?_⟩) (by assumption) ?_
  rotate_left
  · intro w hSw; (try dsimp only at hSw); go_simp; (try with_reducible rfl)
  (try simp only [Act.put, List.getElem_toArray, List.getElem_cons_zero, List.getElem_cons_succ, Array.getInternal_eq_getElem, List.setIfInBounds_toArray, List.set_cons_zero, List.set_cons_succ])
  refine wpAnyH_take (i := 5) (v := ?_) rfl (by kernel_rfl) (by kernel_rfl) (by kernel_rfl) (fun _ _ _ h => h) (Or.inl ⟨by rfl, ?_⟩) (by assumption) ?_
  rotate_left
  · intro w hSw; (try dsimp only at hSw); go_simp; (try with_reducible rfl)
  (try simp only [Act.put, List.getElem_toArray, List.getElem_cons_zero, List.getElem_cons_succ, Array.getInternal_eq_getElem, List.setIfInBounds_toArray, List.set_cons_zero, List.set_cons_succ])
  refine wpAnyH_take (i := 6) (v := ?_) rfl (by kernel_rfl) (by kernel_rfl) (by kernel_rfl) (fun _ _ _ h => h) (Or.inl ⟨by rfl, ?_⟩) (by assumption) ?_
  rotate_left
  · intro w hSw; (try dsimp only at hSw); go_simp; (try with_reducible rfl)
  (try simp only [Act.put, List.getElem_toArray, List.getElem_cons_zero, List.getElem_cons_succ, Array.getInternal_eq_getElem, List.setIfInBounds_toArray, List.set_cons_zero, List.set_cons_succ])
  refine wpAnyH_take (i := 7) (v := ?_) rfl (by kernel_rfl) (by kernel_rfl) (by kernel_rfl) (fun _ _ _ h => h) (Or.inl ⟨by rfl, ?_⟩) (by assumption) ?_
  rotate_left
  · intro w hSw; (try dsimp only at hSw); go_simp; (try with_reducible rfl)
  (try simp only [Act.put, List.getElem_toArray, List.getElem_cons_zero, List.getElem_cons_succ, Array.getInternal_eq_getElem, List.setIfInBounds_toArray, List.set_cons_zero, List.set_cons_succ])
  refine wpAnyH_ready (rs := [8]) (by kernel_rfl) (by simp) ?_
  refine AllReadyH.cons rfl (fun K hK => ?_) AllReadyH.nil
  obtain ⟨q0, q1, q2, q3, q4⟩ := hHeld
  go_simp
  refine (HALL.out _ (chain HB3.out q3)).mono ?_
  rintro e X2 ⟨vm2, rfl, hom, hb⟩
  obtain ⟨An, cn, rfl⟩ := own_slice (n := s.mem.length) (show X2.ownsRow _ _ 1 vm2 s.mem.length _ from by have e := hom; unfold OwnI at e; rwa [BfM.all_len] at e)
  have HOM := Lib.hid (show OwnI X1.heap.size X2 (.slice An s.mem.length cn) (BfM.all xb s.mem) from own_base hom q4)
  have HB2 := Lib.hid (show Below X1.heap.size X1 X2 from chain HXs.out hb)
  refine hK.out _ _ ⟨kc hb q0, kc hb q1, kc hb q2, chain q3 hb, Nat.le_trans q4 hb.size⟩ (fun hHeld => ?_)
  clear q0 q1 q2 q3 q4
  clear hK K
  (try simp only [Act.put, List.getElem_toArray, List.getElem_cons_zero, List.getElem_cons_succ, Array.getInternal_eq_getElem, List.setIfInBounds_toArray, List.set_cons_zero, List.set_cons_succ])
  clear hb hom
  have HQ2 := Lib.hid (HQ1.out.below HB2.out HQ1.out.lt)
  have o0 := HQ2.out.cell 0 _ rfl
  have g0 := HQ2.out.frozen 0
  have hgos : gs ≠ go := by have := HGO.out; omega
  have hb1o : b1 ≠ go := by have := HGO2.out; omega
  refine wpAnyH_take (i := 9) (v := ?_) rfl (by kernel_rfl) (by kernel_rfl) (by kernel_rfl) (fun _ _ _ h => h) (Or.inl ⟨by rfl, ?_⟩) (by assumption) ?_
  rotate_left
  · intro w hSw; (try dsimp only at hSw); go_simp; (try with_reducible rfl)
  (try simp only [Act.put, List.getElem_toArray, List.getElem_cons_zero, List.getElem_cons_succ, Array.getInternal_eq_getElem, List.setIfInBounds_toArray, List.set_cons_zero, List.set_cons_succ])
  refine wpAnyH_ready (rs := [10]) (by kernel_rfl) (by simp) ?_
  refine AllReadyH.cons rfl (fun K hK => ?_) AllReadyH.nil
  obtain ⟨q0, q1, q2, q3, q4⟩ := hHeld
  go_simp
  refine hK.out _ _ ⟨st_ne hgos q0, st_ne hgos q1, st_ne hb1o q2, q3.setCell (p := ⟨go, 0, none⟩) HGO3.out _, by simpa using q4⟩ (fun hHeld => ?_)
  clear q0 q1 q2 q3 q4
  clear hK K
  (try simp only [Act.put, List.getElem_toArray, List.getElem_cons_zero, List.getElem_cons_succ, Array.getInternal_eq_getElem, List.setIfInBounds_toArray, List.set_cons_zero, List.set_cons_succ])
  refine wpAnyH_done (by kernel_rfl) ?_ _
  clear hHeld o0 g0 y0 y1 b3
  obtain ⟨X5, hX5⟩ : ∃ W, W = X2.setCell ⟨go, 0, none⟩ (.slice An s.mem.length cn) := ⟨_, rfl⟩
  have hgrgo : gr ≠ go := by have := HR.out.lt; have := HGO3.out; omega
  have HQ5 := Lib.hid (show BoxC X5 go 28 #[.slice An s.mem.length cn, .slice Av s.ths.length cv] from by rw [hX5]; exact HQ2.out.set 0 _)
  have HRR5 := Lib.hid (show BoxC X5 gr 28 #[.slice none 0 0, .slice none 0 0] from by rw [hX5]; exact (HRR.out.below HB2.out HRR.out.lt).other hgrgo _ _)
  have HO5 := Lib.hid (show OwnSt W3.heap.size X5 (.slice An s.mem.length cn) (.slice Av s.ths.length cv) ⟨BfM.all xb s.mem, s.ths⟩ ps from by
    rw [hX5]
    exact ((HOS.out.below HB2.out).memRow (own_base HOM.out HL3.out.size) (fun p hp => ap_symm (ap_new (HOS.out.each p hp).1 HOM.out (Nat.le_refl _)))).box HQ2.out (by decide) (by decide) (by decide) 0 _)
  have HB5 := Lib.hid (show Below w.heap.size w X5 from by rw [hX5]; exact (chain HBF.out HB2.out).setCell (p := ⟨go, 0, none⟩) (Nat.le_trans HB3.out.size HGO3.out) _)
  rw [← hX5]
  clear hX5 hgos hb1o
  obtain ⟨vr, vb, hpk⟩ := HPK.out
  have HPK' := Lib.hid hpk
  obtain ⟨hkp, hpe⟩ := List.getElem?_eq_some_iff.1 hpk
  obtain ⟨gv, cv', cur, hev, hgv, hbv, t0, t1, t2, t3⟩ := HO5.out.row hkp
  injection hev with hev1 hev3 hev2
  clear hev3
  subst hev1 hev2
  rw [hpe] at t3
  have HBV := Lib.hid hbv
  have HGV := Lib.hid hgv
  clear t0 t1 t2 hpk hpe hbv hgv
  have a1 := HQ5.out.cell 1 _ rfl
  have g3 := HBV.out.frozen (k * 4 + 3)
  go_upto_region 6 with fail
  obtain ⟨X6, hX6⟩ : ∃ W, W = X5.setCell ⟨gv, k * 4 + 3, none⟩ (.slice none 0 0) := ⟨_, rfl⟩
  obtain ⟨ps6, ho6⟩ : ∃ ps6, OwnSt W3.heap.size X6 (.slice An s.mem.length cn) (.slice (some ⟨gv, 0, none⟩) s.ths.length cv) ⟨BfM.all xb s.mem, s.ths.set k ⟨xa, xr, xe, []⟩⟩ ps6 := ⟨_, by rw [hX6]; exact HO5.out.setVB' (b := []) HPK'.out (World.ownsRow_nil _ _ _ _)⟩
  have HO6 := Lib.hid ho6
  have HQ6 := Lib.hid (show BoxC X6 go 28 #[.slice An s.mem.length cn, .slice (some ⟨gv, 0, none⟩) s.ths.length cv] from by rw [hX6]; exact HQ5.out.other (HQ5.out.unlike HBV.out (by decide)) _ _)
  have HRR := Lib.hid (show BoxC X6 gr 28 #[.slice none 0 0, .slice none 0 0] from by rw [hX6]; exact HRR5.out.other (HRR5.out.unlike HBV.out (by decide)) _ _)
  have HB6 := Lib.hid (show Below w.heap.size w X6 from by rw [hX6]; exact HB5.out.setCell (p := ⟨gv, k * 4 + 3, none⟩) (Nat.le_trans HB3.out.size HGV.out) _)
  rw [← hX6]
  clear hX6 ho6 a1 g3 t3 hkp
  have y0 := HQ6.out.cell 0 _ rfl
  have y1 := HQ6.out.cell 1 _ rfl
  have r0 := HRR.out.cell 0 _ rfl
  have r1 := HRR.out.cell 1 _ rfl
  have f0 := HRR.out.frozen 0
  have f1 := HRR.out.frozen 1
  obtain ⟨W9, hW9⟩ : ∃ W, W = (X6.setCell ⟨gr, 0, none⟩ (.slice An s.mem.length cn)).setCell ⟨gr, 1, none⟩ (.slice (some ⟨gv, 0, none⟩) s.ths.length cv) := ⟨_, rfl⟩
  have HR9 := Lib.hid (show BoxC W9 gr 28 #[(.slice An s.mem.length cn), (.slice (some ⟨gv, 0, none⟩) s.ths.length cv)] from by rw [hW9]; exact (HRR.out.set 0 _).set 1 _)
  have HO9 := Lib.hid (show OwnSt W3.heap.size W9 (.slice An s.mem.length cn) (.slice (some ⟨gv, 0, none⟩) s.ths.length cv) (flu s (k : Int)) ps6 from by
    rw [hW9]
    exact ((HO6.out.cast HFE.out.symm).box HRR.out (by decide) (by decide) (by decide) 0 _).box (HRR.out.set 0 _) (by decide) (by decide) (by decide) 1 _)
  have HB9 := Lib.hid (show Below w.heap.size w W9 from by rw [hW9]; exact (HB6.out.setCell (p := ⟨gr, 0, none⟩) HGR.out _).setCell (p := ⟨gr, 1, none⟩) HGR.out _)
  have HW9 := Lib.hid hW9
  clear hW9
  go_wp2_with fail
  rw [← HW9.out]
  clear y0 y1 r0 r1 f0 f1
  have r0 := HR9.out.cell 0 _ rfl
  have r1 := HR9.out.cell 1 _ rfl
  have hz := HCO.out
  refine bodyPost_ret (v := .agg #[(.slice An s.mem.length cn), (.slice (some ⟨gv, 0, none⟩) s.ths.length cv)]) (by simp [results, Try.results18, go_sem, r0, r1, hz]) rfl ⟨_, _, _, rfl, HO9.out.base HB3.out.size, HB9.out⟩

end Go.Proofs.Ytkbnppidkhbbeaa
namespace Go.Proofs.Ytkbnppidkhbbeaa
open Go.RowKit
set_option linter.unusedVariables false
set_option linter.unusedSimpArgs false
open CodM (St Pg rightP)
open BfM (Wr plc)
open ScM

theorem drM_len (b : List Wr) (m : List Int) : (drM b m).length = m.length := by
  cases b with
  | nil => rfl
  | cons x r => unfold drM; simp only []; split <;> simp [BfM.arr_len]
set_option maxHeartbeats 8000000 in
set_option maxRecDepth 100000 in
theorem rtstepD_any {B : Nat} {v u : Value} {P : Pg} {s : Sta} (t : Int) (w : World) (hv : PgV B w v P) (hu : StaV B w u s) (hBB : B ≤ w.heap.size) (hw : WideS s) :
    Calls Try.prog 12 #[v, u, .agg #[.int .i64 t, .bool true]] w (TpRet P s t true w) := by
  have HOWN := Lib.hid (fun W (hW : Below w.heap.size w W) => rown_any W ((hu.below (hW.mono hBB)).more (Nat.le_trans hBB hW.size)) (Nat.le_refl _) hw)
  obtain ⟨pi, pt, rfl, hpm⟩ := hv
  obtain ⟨um, ut, rfl, hum⟩ := hu
  have hwm := hw.mem
  have HWR := Lib.hid hw.regs
  obtain ⟨⟨P0, d0, rfl, -⟩, ⟨P1, d1, rfl, -⟩⟩ := hpm
  have HUM := Lib.hid hum.1
  obtain ⟨⟨A7, c7, rfl, -⟩, ⟨A1, c1, rfl, m1, m2, -, m3⟩⟩ := hum
  have HM3 := Lib.hid m3
  unfold maxLen at m2
  clear hw m3
  have HCO := Lib.hid (show Try.prog.cellsOf 28 = 2 from by kernel_rfl)
  obtain ⟨W3, hW3⟩ : ∃ W, W = (((w.alloc (.cells #[.slice P0 P.init.length d0, .slice P1 P.ths.length d1] 25)).alloc (.cells #[.slice A7 s.mem.length c7, .slice A1 s.ths.length c1] 28)).alloc (.cells #[.int .i64 t, .bool true] 30)).alloc (.cells #[.slice none 0 0, .slice none 0 0] 28) := ⟨_, rfl⟩
  obtain ⟨gp, hgp⟩ : ∃ g, g = w.heap.size := ⟨_, rfl⟩
  obtain ⟨gs, hgs⟩ : ∃ g, g = w.heap.size + 1 := ⟨_, rfl⟩
  obtain ⟨gk, hgk⟩ : ∃ g, g = w.heap.size + 1 + 1 := ⟨_, rfl⟩
  obtain ⟨gr, hgr⟩ : ∃ g, g = w.heap.size + 1 + 1 + 1 := ⟨_, rfl⟩
  have HY := Lib.hid (show BoxC W3 gs 28 #[.slice A7 s.mem.length c7, .slice A1 s.ths.length c1] from by rw [hW3, hgs]; have := ((BoxC.new (w.alloc (.cells #[.slice P0 P.init.length d0, .slice P1 P.ths.length d1] 25)) 28 #[.slice A7 s.mem.length c7, .slice A1 s.ths.length c1]).alloc (.cells #[.int .i64 t, .bool true] 30)).alloc (.cells #[.slice none 0 0, .slice none 0 0] 28); rw [World.size_alloc] at this; exact this)
  have HK := Lib.hid (show BoxC W3 gk 30 #[.int .i64 t, .bool true] from by rw [hW3, hgk]; have := (BoxC.new ((w.alloc (.cells #[.slice P0 P.init.length d0, .slice P1 P.ths.length d1] 25)).alloc (.cells #[.slice A7 s.mem.length c7, .slice A1 s.ths.length c1] 28)) 30 #[.int .i64 t, .bool true]).alloc (.cells #[.slice none 0 0, .slice none 0 0] 28); rw [World.size_alloc, World.size_alloc] at this; exact this)
  have HR := Lib.hid (show BoxC W3 gr 28 #[.slice none 0 0, .slice none 0 0] from by rw [hW3, hgr]; have := BoxC.new (((w.alloc (.cells #[.slice P0 P.init.length d0, .slice P1 P.ths.length d1] 25)).alloc (.cells #[.slice A7 s.mem.length c7, .slice A1 s.ths.length c1] 28)).alloc (.cells #[.int .i64 t, .bool true] 30)) 28 #[.slice none 0 0, .slice none 0 0]; rw [World.size_alloc, World.size_alloc, World.size_alloc] at this; exact this)
  have HB3 := Lib.hid (show Below w.heap.size w W3 from by rw [hW3]; exact below_al (below_al (below_al (below_al (Below.refl _ _) _) _) _) _)
  have HGR := Lib.hid (show w.heap.size ≤ gr from by omega)
  have y0 := HY.out.cell 0 _ rfl
  have y1 := HY.out.cell 1 _ rfl
  go_enter Try.func12, Try.ntmps12
  go_upto_region 1 with fail
  rw [← hW3]
  (try rw [← hgr])
  (try rw [← hgk])
  (try rw [← hgs])
  (try rw [← hgp])
  clear hW3 hgr hgs hgp hgk
  go_wp2_with fail
  refine (HOWN.out _ HB3.out).mono ?_
  rintro e w1 ⟨vm, vt, ps, rfl, hos, hb1⟩
  have HOS := Lib.hid hos
  have HB1 := Lib.hid hb1
  obtain ⟨Am, cm, rfl⟩ := own_slice hos.mem
  obtain ⟨Av, cv, rfl⟩ := own_slice hos.ths
  clear hos hb1 HOWN y0 y1
  go_upto_region 2 with fail
  obtain ⟨X1, hX1⟩ : ∃ W, W = w1.alloc (.cells #[.slice Am s.mem.length cm, .slice Av s.ths.length cv] 28) := ⟨_, rfl⟩
  obtain ⟨go, hgo⟩ : ∃ g, g = w1.heap.size := ⟨_, rfl⟩
  have HQ1 := Lib.hid (show BoxC X1 go 28 #[.slice Am s.mem.length cm, .slice Av s.ths.length cv] from by rw [hX1, hgo]; exact BoxC.new w1 _ _)
  have HL1 := Lib.hid (show Below w1.heap.size w1 X1 from by rw [hX1]; exact below_al (Below.refl _ _) _)
  have HL3 := Lib.hid (chain HB1.out HL1.out)
  have HGO := Lib.hid (show gs < go from by rw [hgo]; exact Nat.lt_of_lt_of_le HY.out.lt HB1.out.size)
  have HGO3 := Lib.hid (show W3.heap.size ≤ go from by rw [hgo]; exact HB1.out.size)
  replace HOS := Lib.hid (HOS.out.below HL1.out)
  rw [← hX1]
  (try rw [← hgo])
  clear hX1 hgo HL1 HB1
  have HRR := Lib.hid (HR.out.below HL3.out HR.out.lt)
  have HBF := Lib.hid (chain HB3.out HL3.out)
  have y1 := (HY.out.below HL3.out HY.out.lt).cell 1 _ rfl
  have k0 := (HK.out.below HL3.out HK.out.lt).cell 0 _ rfl
  have k1 := (HK.out.below HL3.out HK.out.lt).cell 1 _ rfl
  by_cases hr : 0 ≤ t ∧ t < (s.ths.length : Int)
  case neg =>
    have HFE := Lib.hid (show tst P s t true = none from by unfold tst; rw [thO_none hr]; rfl)
    by_cases h0 : t < 0
    · clear hr
      go_upto_region 4 with fail
      clear y1 k0 k1
      have y0 := HQ1.out.cell 0 _ rfl
      have y1 := HQ1.out.cell 1 _ rfl
      have r0 := HRR.out.cell 0 _ rfl
      have r1 := HRR.out.cell 1 _ rfl
      have f0 := HRR.out.frozen 0
      have f1 := HRR.out.frozen 1
      obtain ⟨W9, hW9⟩ : ∃ W, W = (X1.setCell ⟨gr, 0, none⟩ (.slice Am s.mem.length cm)).setCell ⟨gr, 1, none⟩ (.slice Av s.ths.length cv) := ⟨_, rfl⟩
      have HR9 := Lib.hid (show BoxC W9 gr 28 #[(.slice Am s.mem.length cm), (.slice Av s.ths.length cv)] from by rw [hW9]; exact (HRR.out.set 0 _).set 1 _)
      have HO9 := Lib.hid (show OwnSt W3.heap.size W9 (.slice Am s.mem.length cm) (.slice Av s.ths.length cv) (s) ps from by
        rw [hW9]
        exact (HOS.out.box HRR.out (by decide) (by decide) (by decide) 0 _).box (HRR.out.set 0 _) (by decide) (by decide) (by decide) 1 _)
      have HB9 := Lib.hid (show Below w.heap.size w W9 from by rw [hW9]; exact (HBF.out.setCell (p := ⟨gr, 0, none⟩) HGR.out _).setCell (p := ⟨gr, 1, none⟩) HGR.out _)
      have HW9 := Lib.hid hW9
      clear hW9
      go_wp2_with fail
      rw [← HW9.out]
      clear r0 r1 f0 f1
      have r0 := HR9.out.cell 0 _ rfl
      have r1 := HR9.out.cell 1 _ rfl
      have hz := HCO.out
      refine bodyPost_ret (v := .tuple #[.agg #[(.slice Am s.mem.length cm), (.slice Av s.ths.length cv)], .bool false]) (by simp [results, Try.results12, go_sem, r0, r1, hz]) rfl ⟨_, _, _, by rw [HFE.out]; rfl, (by rw [HFE.out]; exact HO9.out.base HB3.out.size), HB9.out⟩

    · have h1 : (s.ths.length : Int) ≤ t := by omega
      clear hr
      go_upto_region 4 with fail
      clear y1 k0 k1
      have y0 := HQ1.out.cell 0 _ rfl
      have y1 := HQ1.out.cell 1 _ rfl
      have r0 := HRR.out.cell 0 _ rfl
      have r1 := HRR.out.cell 1 _ rfl
      have f0 := HRR.out.frozen 0
      have f1 := HRR.out.frozen 1
      obtain ⟨W9, hW9⟩ : ∃ W, W = (X1.setCell ⟨gr, 0, none⟩ (.slice Am s.mem.length cm)).setCell ⟨gr, 1, none⟩ (.slice Av s.ths.length cv) := ⟨_, rfl⟩
      have HR9 := Lib.hid (show BoxC W9 gr 28 #[(.slice Am s.mem.length cm), (.slice Av s.ths.length cv)] from by rw [hW9]; exact (HRR.out.set 0 _).set 1 _)
      have HO9 := Lib.hid (show OwnSt W3.heap.size W9 (.slice Am s.mem.length cm) (.slice Av s.ths.length cv) (s) ps from by
        rw [hW9]
        exact (HOS.out.box HRR.out (by decide) (by decide) (by decide) 0 _).box (HRR.out.set 0 _) (by decide) (by decide) (by decide) 1 _)
      have HB9 := Lib.hid (show Below w.heap.size w W9 from by rw [hW9]; exact (HBF.out.setCell (p := ⟨gr, 0, none⟩) HGR.out _).setCell (p := ⟨gr, 1, none⟩) HGR.out _)
      have HW9 := Lib.hid hW9
      clear hW9
      go_wp2_with fail
      rw [← HW9.out]
      clear r0 r1 f0 f1
      have r0 := HR9.out.cell 0 _ rfl
      have r1 := HR9.out.cell 1 _ rfl
      have hz := HCO.out
      refine bodyPost_ret (v := .tuple #[.agg #[(.slice Am s.mem.length cm), (.slice Av s.ths.length cv)], .bool false]) (by simp [results, Try.results12, go_sem, r0, r1, hz]) rfl ⟨_, _, _, by rw [HFE.out]; rfl, (by rw [HFE.out]; exact HO9.out.base HB3.out.size), HB9.out⟩

  obtain ⟨hr1, hr2⟩ := hr
  obtain ⟨k, rfl⟩ : ∃ k : Nat, t = k := ⟨t.toNat, by omega⟩
  have hks : k < s.ths.length := by omega
  obtain ⟨b1, f1, rfl, hb1, hc1⟩ := HM3.out (by omega)
  obtain ⟨vr, vb, -, -, -, b3, -, hW⟩ := hc1 k hks
  have HFE := Lib.hid (show tst P s (k : Int) true = if can s.ths[k].buf s.mem.length then some (⟨drM s.ths[k].buf s.mem, s.ths.set k ⟨s.ths[k].at', s.ths[k].regs, s.ths[k].eq, drB s.ths[k].buf s.mem⟩⟩ : Sta) else none from by unfold tst; rw [thO_at hks]; rfl)
  have HPK := Lib.hid (HOS.out.pk hks)
  have HAL := Lib.hid (fun W (hW' : Below w.heap.size w W) => rdrain_any W ((hW.below (hW'.mono hBB)).more (Nat.le_trans hBB hW'.size)) ((HUM.out.below (hW'.mono hBB)).more (Nat.le_trans hBB hW'.size)) (Nat.le_refl _) (by have := (HWR.out _ (List.getElem_mem hks)).2; omega) (by omega))
  replace b3 := ((HBF.out.mono hBB).cell (p := ⟨b1, f1 + k * 4 + 3, none⟩) hb1).trans b3
  have HB12 := Lib.hid hb1
  generalize s.ths[k] = h at *
  obtain ⟨xa, xr, xe, xb⟩ := h
  dsimp only at *
  obtain ⟨Ab, cb, rfl, -⟩ := hW
  clear hc1 hb1
  have y0 := (HY.out.below HL3.out HY.out.lt).cell 0 _ rfl
  unfold DrRet at HAL
  by_cases hcan : can xb s.mem.length = true
  case neg =>
    have hcf : can xb s.mem.length = false := by simpa using hcan
    rw [hcf, if_neg (by decide)] at HFE
    rw [hcf] at HAL
    have HALL := HAL
    clear HAL hcan hcf
    go_upto_region 6 with fail
    refine wp_region_held_drew (S := (fun w' => w'.cell? ⟨gs, 0, none⟩ = some (.slice A7 s.mem.length c7) ∧ w'.cell? ⟨gs, 1, none⟩ = some (.slice (some ⟨b1, f1, none⟩) s.ths.length c1) ∧ w'.cell? ⟨b1, f1 + k * 4 + 3, none⟩ = some (.slice Ab xb.length cb) ∧ Below W3.heap.size W3 w' ∧ X1.heap.size ≤ w'.heap.size)) (by kernel_rfl) ⟨y0, y1, b3, below_drewN HL3.out 1, Nat.le_refl _⟩ (fun hHeld => ?_)
    obtain ⟨Xs, hXs⟩ : ∃ W, W = X1.drew := ⟨_, rfl⟩
    have HXs := Lib.hid (show Below X1.heap.size X1 Xs from by rw [hXs]; exact below_drewN (Below.refl _ _) 1)
    rw [← hXs] at hHeld ⊢
    clear hXs
    refine wpAnyH_take (i := 0) (v := ?_) rfl (by kernel_rfl) (by kernel_rfl) (by kernel_rfl) (fun _ _ _ h => h) (Or.inl ⟨by rfl, ?_⟩) (by assumption) ?_
    rotate_left
    · intro w hSw; (try dsimp only at hSw); go_simp; (try with_reducible rfl)
    (try simp only [Act.put, List.getElem_toArray, List.getElem_cons_zero, List.getElem_cons_succ, Array.getInternal_eq_getElem, List.setIfInBounds_toArray, List.set_cons_zero, List.set_cons_succ])
    refine wpAnyH_take (i := 1) (v := ?_) rfl (by kernel_rfl) (by kernel_rfl) (by kernel_rfl) (fun _ _ _ h => h) (Or.inl ⟨by rfl, ?_⟩) (by assumption) ?_
    rotate_left
    · intro w hSw; (try dsimp only at hSw); go_simp; (try with_reducible rfl)
    (try simp only [Act.put, List.getElem_toArray, List.getElem_cons_zero, List.getElem_cons_succ, Array.getInternal_eq_getElem, List.setIfInBounds_toArray, List.set_cons_zero, List.set_cons_succ])
    refine wpAnyH_take (i := 2) (v := ?_) rfl (by kernel_rfl) (by kernel_rfl) (by kernel_rfl) (fun _ _ _ h => h) (Or.inl ⟨by rfl, ?_⟩) (by assumption) ?_
    rotate_left
    · intro w hSw; (try dsimp only at hSw); go_simp; (try with_reducible rfl)
    (try simp only [Act.put, List.getElem_toArray, List.getElem_cons_zero, List.getElem_cons_succ, Array.getInternal_eq_getElem, List.setIfInBounds_toArray, List.set_cons_zero, List.set_cons_succ])
    refine wpAnyH_take (i := 3) (v := ?_) rfl (by kernel_rfl) (by kernel_rfl) (by kernel_rfl) (fun _ _ _ h => h) (Or.inl ⟨by rfl, ?_⟩) (by assumption) ?_
    rotate_left
    · intro w hSw; (try dsimp only at hSw); go_simp; (try with_reducible rfl)
    (try simp only [Act.put, List.getElem_toArray, List.getElem_cons_zero, List.getElem_cons_succ, Array.getInternal_eq_getElem, List.setIfInBounds_toArray, List.set_cons_zero, List.set_cons_succ])
    refine wpAnyH_take (i := 4) (v := ?_) rfl (by kernel_rfl) (by kernel_rfl) (by kernel_rfl) (fun _ _ _ h => h) (Or.inl ⟨by rfl, ?_⟩) (by assumption) ?_
    rotate_left
    · intro w hSw; (try dsimp only at hSw); go_simp; (try with_reducible rfl)
    (try simp only [Act.put, List.getElem_toArray, List.getElem_cons_zero, List.getElem_cons_succ, Array.getInternal_eq_getElem, List.setIfInBounds_toArray, List.set_cons_zero, List.set_cons_succ])
    refine wpAnyH_take (i := 5) (v := ?_) rfl (by kernel_rfl) (by kernel_rfl) (by kernel_rfl) (fun _ _ _ h => h) (Or.inl ⟨by rfl, ?_⟩) (by assumption) ?_
    rotate_left
    · intro w hSw; (try dsimp only at hSw); go_simp; (try with_reducible rfl)
    (try simp only [Act.put, List.getElem_toArray, List.getElem_cons_zero, List.getElem_cons_succ, Array.getInternal_eq_getElem, List.setIfInBounds_toArray, List.set_cons_zero, List.set_cons_succ])
    refine wpAnyH_take (i := 6) (v := ?_) rfl (by kernel_rfl) (by kernel_rfl) (by kernel_rfl) (fun _ _ _ h => h) (Or.inl ⟨by rfl, ?_⟩) (by assumption) ?_
    rotate_left
    · intro w hSw; (try dsimp only at hSw); go_simp; (try with_reducible rfl)
    (try simp only [Act.put, List.getElem_toArray, List.getElem_cons_zero, List.getElem_cons_succ, Array.getInternal_eq_getElem, List.setIfInBounds_toArray, List.set_cons_zero, List.set_cons_succ])
    refine wpAnyH_take (i := 7) (v := ?_) rfl (by kernel_rfl) (by kernel_rfl) (by kernel_rfl) (fun _ _ _ h => h) (Or.inl ⟨by rfl, ?_⟩) (by assumption) ?_
    rotate_left
    · intro w hSw; (try dsimp only at hSw); go_simp; (try with_reducible rfl)
    (try simp only [Act.put, List.getElem_toArray, List.getElem_cons_zero, List.getElem_cons_succ, Array.getInternal_eq_getElem, List.setIfInBounds_toArray, List.set_cons_zero, List.set_cons_succ])
    refine wpAnyH_ready (rs := [8]) (by kernel_rfl) (by simp) ?_
    refine AllReadyH.cons rfl (fun K hK => ?_) AllReadyH.nil
    obtain ⟨q0, q1, q2, q3, q4⟩ := hHeld
    go_simp
    refine (HALL.out _ (chain HB3.out q3)).mono ?_
    rintro e X2 ⟨vb2, vm2, n1, rfl, hn1, hob, hom, hyb, hb⟩
    obtain ⟨An, cn, rfl⟩ := own_slice (n := s.mem.length) (show X2.ownsRow _ _ 1 vm2 s.mem.length _ from by have e := hom; unfold OwnI at e; rwa [drM_len] at e)
    have hob1 := hob
    unfold OwnW at hob1
    obtain ⟨Bn, bn, rfl⟩ := own_slice hob1
    clear hob1
    have HOM := Lib.hid (show OwnI X1.heap.size X2 (.slice An s.mem.length cn) (drM xb s.mem) from own_base hom q4)
    have HOB := Lib.hid (show OwnW X1.heap.size X2 (.slice Bn (drB xb s.mem).length bn) (drB xb s.mem) from own_base hob (Nat.le_trans q4 hn1))
    have HB2 := Lib.hid (show Below X1.heap.size X1 X2 from chain HXs.out hb)
    refine hK.out _ _ ⟨kc hb q0, kc hb q1, kc hb q2, chain q3 hb, Nat.le_trans q4 hb.size⟩ (fun hHeld => ?_)
    clear q0 q1 q2 q3 q4
    clear hK K
    (try simp only [Act.put, List.getElem_toArray, List.getElem_cons_zero, List.getElem_cons_succ, Array.getInternal_eq_getElem, List.setIfInBounds_toArray, List.set_cons_zero, List.set_cons_succ])
    clear hb hom hob hyb hn1
    refine wpAnyH_take (i := 9) (v := ?_) rfl (by kernel_rfl) (by kernel_rfl) (by kernel_rfl) (fun _ _ _ h => h) (Or.inl ⟨by rfl, ?_⟩) (by assumption) ?_
    rotate_left
    · intro w hSw; (try dsimp only at hSw); go_simp; (try with_reducible rfl)
    (try simp only [Act.put, List.getElem_toArray, List.getElem_cons_zero, List.getElem_cons_succ, Array.getInternal_eq_getElem, List.setIfInBounds_toArray, List.set_cons_zero, List.set_cons_succ])
    refine wpAnyH_take (i := 10) (v := ?_) rfl (by kernel_rfl) (by kernel_rfl) (by kernel_rfl) (fun _ _ _ h => h) (Or.inl ⟨by rfl, ?_⟩) (by assumption) ?_
    rotate_left
    · intro w hSw; (try dsimp only at hSw); go_simp; (try with_reducible rfl)
    (try simp only [Act.put, List.getElem_toArray, List.getElem_cons_zero, List.getElem_cons_succ, Array.getInternal_eq_getElem, List.setIfInBounds_toArray, List.set_cons_zero, List.set_cons_succ])
    refine wpAnyH_take (i := 11) (v := ?_) rfl (by kernel_rfl) (by kernel_rfl) (by kernel_rfl) (fun _ _ _ h => h) (Or.inl ⟨by rfl, ?_⟩) (by assumption) ?_
    rotate_left
    · intro w hSw; (try dsimp only at hSw); go_simp; (try with_reducible rfl)
    (try simp only [Act.put, List.getElem_toArray, List.getElem_cons_zero, List.getElem_cons_succ, Array.getInternal_eq_getElem, List.setIfInBounds_toArray, List.set_cons_zero, List.set_cons_succ])
    refine wpAnyH_take (i := 12) (v := ?_) rfl (by kernel_rfl) (by kernel_rfl) (by kernel_rfl) (fun _ _ _ h => h) (Or.inl ⟨by rfl, ?_⟩) (by assumption) ?_
    rotate_left
    · intro w hSw; (try dsimp only at hSw); go_simp; (try with_reducible rfl)
    (try simp only [Act.put, List.getElem_toArray, List.getElem_cons_zero, List.getElem_cons_succ, Array.getInternal_eq_getElem, List.setIfInBounds_toArray, List.set_cons_zero, List.set_cons_succ])
    refine wpAnyH_ready (rs := [13]) (by kernel_rfl) (by simp) ?_
    refine AllReadyH.cons rfl (fun K hK => ?_) AllReadyH.nil
    go_simp
    refine hK.out _ _ hHeld (fun hHeld => ?_)
    clear hK K
    (try simp only [Act.put, List.getElem_toArray, List.getElem_cons_zero, List.getElem_cons_succ, Array.getInternal_eq_getElem, List.setIfInBounds_toArray, List.set_cons_zero, List.set_cons_succ])
    refine wpAnyH_ready (rs := [14]) (by kernel_rfl) (by simp) ?_
    refine AllReadyH.cons rfl (fun K hK => ?_) AllReadyH.nil
    go_simp
    refine hK.out _ _ hHeld (fun hHeld => ?_)
    clear hK K
    (try simp only [Act.put, List.getElem_toArray, List.getElem_cons_zero, List.getElem_cons_succ, Array.getInternal_eq_getElem, List.setIfInBounds_toArray, List.set_cons_zero, List.set_cons_succ])
    refine wpAnyH_ready (rs := [15]) (by kernel_rfl) (by simp) ?_
    refine AllReadyH.cons rfl (fun K hK => ?_) AllReadyH.nil
    go_simp
    refine hK.out _ _ hHeld (fun hHeld => ?_)
    clear hK K
    (try simp only [Act.put, List.getElem_toArray, List.getElem_cons_zero, List.getElem_cons_succ, Array.getInternal_eq_getElem, List.setIfInBounds_toArray, List.set_cons_zero, List.set_cons_succ])
    refine wpAnyH_done (by kernel_rfl) ?_ _
    clear hHeld y0 y1 b3 k0 k1
    have HRR := Lib.hid (HRR.out.below HB2.out HRR.out.lt)
    have HQ2 := Lib.hid (HQ1.out.below HB2.out HQ1.out.lt)
    have y0 := HQ2.out.cell 0 _ rfl
    have y1 := HQ2.out.cell 1 _ rfl
    go_upto_region 8 with fail
    have r0 := HRR.out.cell 0 _ rfl
    have r1 := HRR.out.cell 1 _ rfl
    have f0 := HRR.out.frozen 0
    have f1 := HRR.out.frozen 1
    obtain ⟨W9, hW9⟩ : ∃ W, W = (X2.setCell ⟨gr, 0, none⟩ (.slice Am s.mem.length cm)).setCell ⟨gr, 1, none⟩ (.slice Av s.ths.length cv) := ⟨_, rfl⟩
    have HR9 := Lib.hid (show BoxC W9 gr 28 #[(.slice Am s.mem.length cm), (.slice Av s.ths.length cv)] from by rw [hW9]; exact (HRR.out.set 0 _).set 1 _)
    have HO9 := Lib.hid (show OwnSt W3.heap.size W9 (.slice Am s.mem.length cm) (.slice Av s.ths.length cv) (s) ps from by
      rw [hW9]
      exact ((HOS.out.below HB2.out).box HRR.out (by decide) (by decide) (by decide) 0 _).box (HRR.out.set 0 _) (by decide) (by decide) (by decide) 1 _)
    have HB9 := Lib.hid (show Below w.heap.size w W9 from by rw [hW9]; exact ((chain HBF.out HB2.out).setCell (p := ⟨gr, 0, none⟩) HGR.out _).setCell (p := ⟨gr, 1, none⟩) HGR.out _)
    have HW9 := Lib.hid hW9
    clear hW9
    go_wp2_with fail
    rw [← HW9.out]
    clear r0 r1 f0 f1
    have r0 := HR9.out.cell 0 _ rfl
    have r1 := HR9.out.cell 1 _ rfl
    have hz := HCO.out
    refine bodyPost_ret (v := .tuple #[.agg #[(.slice Am s.mem.length cm), (.slice Av s.ths.length cv)], .bool false]) (by simp [results, Try.results12, go_sem, r0, r1, hz]) rfl ⟨_, _, _, by rw [HFE.out]; rfl, (by rw [HFE.out]; exact HO9.out.base HB3.out.size), HB9.out⟩

  rw [hcan, if_pos rfl] at HFE
  rw [hcan] at HAL
  have HALL := HAL
  clear HAL hcan
  go_upto_region 6 with fail
  refine wp_region_held_drew (S := (fun w' => w'.cell? ⟨gs, 0, none⟩ = some (.slice A7 s.mem.length c7) ∧ w'.cell? ⟨gs, 1, none⟩ = some (.slice (some ⟨b1, f1, none⟩) s.ths.length c1) ∧ w'.cell? ⟨b1, f1 + k * 4 + 3, none⟩ = some (.slice Ab xb.length cb) ∧ Below W3.heap.size W3 w' ∧ X1.heap.size ≤ w'.heap.size)) (by kernel_rfl) ⟨y0, y1, b3, below_drewN HL3.out 1, Nat.le_refl _⟩ (fun hHeld => ?_)
  obtain ⟨Xs, hXs⟩ : ∃ W, W = X1.drew := ⟨_, rfl⟩
  have HXs := Lib.hid (show Below X1.heap.size X1 Xs from by rw [hXs]; exact below_drewN (Below.refl _ _) 1)
  rw [← hXs] at hHeld ⊢
  clear hXs
  refine wpAnyH_take (i := 0) (v := ?_) rfl (by kernel_rfl) (by kernel_rfl) (by kernel_rfl) (fun _ _ _ h => h) (Or.inl ⟨by rfl, ?_⟩) (by assumption) ?_
  rotate_left
  · intro w hSw; (try dsimp only at hSw); go_simp; (try with_reducible rfl)
  (try simp only [Act.put, List.getElem_toArray, List.getElem_cons_zero, List.getElem_cons_succ, Array.getInternal_eq_getElem, List.setIfInBounds_toArray, List.set_cons_zero, List.set_cons_succ])
  refine wpAnyH_take (i := 1) (v := ?_) rfl (by kernel_rfl) (by kernel_rfl) (by kernel_rfl) (fun _ _ _ h => h) (Or.inl ⟨by rfl, ?_⟩) (by assumption) ?_
  rotate_left
  · intro w hSw; (try dsimp only at hSw); go_simp; (try with_reducible rfl)
  (try simp only [Act.put, List.getElem_toArray, List.getElem_cons_zero, List.getElem_cons_succ, Array.getInternal_eq_getElem, List.setIfInBounds_toArray, List.set_cons_zero, List.set_cons_succ])
  refine wpAnyH_take (i := 2) (v := ?_) rfl (by kernel_rfl) (by kernel_rfl) (by kernel_rfl) (fun _ _ _ h => h) (Or.inl ⟨by rfl, ?_⟩) (by assumption) ?_
  rotate_left
  · intro w hSw; (try dsimp only at hSw); go_simp; (try with_reducible rfl)
  (try simp only [Act.put, List.getElem_toArray, List.getElem_cons_zero, List.getElem_cons_succ, Array.getInternal_eq_getElem, List.setIfInBounds_toArray, List.set_cons_zero, List.set_cons_succ])
  refine wpAnyH_take (i := 3) (v := ?_) rfl (by kernel_rfl) (by kernel_rfl) (by kernel_rfl) (fun _ _ _ h => h) (Or.inl ⟨by rfl, ?_⟩) (by assumption) ?_
  rotate_left
  · intro w hSw; (try dsimp only at hSw); go_simp; (try with_reducible rfl)
  (try simp only [Act.put, List.getElem_toArray, List.getElem_cons_zero, List.getElem_cons_succ, Array.getInternal_eq_getElem, List.setIfInBounds_toArray, List.set_cons_zero, List.set_cons_succ])
  refine wpAnyH_take (i := 4) (v := ?_) rfl (by kernel_rfl) (by kernel_rfl) (by kernel_rfl) (fun _ _ _ h => h) (Or.inl ⟨by rfl, ?_⟩) (by assumption) ?_
  rotate_left
  · intro w hSw; (try dsimp only at hSw); go_simp; (try with_reducible rfl)
  (try simp only [Act.put, List.getElem_toArray, List.getElem_cons_zero, List.getElem_cons_succ, Array.getInternal_eq_getElem, List.setIfInBounds_toArray, List.set_cons_zero, List.set_cons_succ])
  refine wpAnyH_take (i := 5) (v := ?_) rfl (by kernel_rfl) (by kernel_rfl) (by kernel_rfl) (fun _ _ _ h => h) (Or.inl ⟨by rfl, ?_⟩) (by assumption) ?_
  rotate_left
  · intro w hSw; (try dsimp only at hSw); go_simp; (try with_reducible rfl)
  (try simp only [Act.put, List.getElem_toArray, List.getElem_cons_zero, List.getElem_cons_succ, Array.getInternal_eq_getElem, List.setIfInBounds_toArray, List.set_cons_zero, List.set_cons_succ])
  refine wpAnyH_take (i := 6) (v := ?_) rfl (by kernel_rfl) (by kernel_rfl) (by kernel_rfl) (fun _ _ _ h => h) (Or.inl ⟨by rfl, ?_⟩) (by assumption) ?_
  rotate_left
  · intro w hSw; (try dsimp only at hSw); go_simp; (try with_reducible rfl)
  (try simp only [Act.put, List.getElem_toArray, List.getElem_cons_zero, List.getElem_cons_succ, Array.getInternal_eq_getElem, List.setIfInBounds_toArray, List.set_cons_zero, List.set_cons_succ])
  refine wpAnyH_take (i := 7) (v := ?_) rfl (by kernel_rfl) (by kernel_rfl) (by kernel_rfl) (fun _ _ _ h => h) (Or.inl ⟨by rfl, ?_⟩) (by assumption) ?_
  rotate_left
  · intro w hSw; (try dsimp only at hSw); go_simp; (try with_reducible rfl)
  (try simp only [Act.put, List.getElem_toArray, List.getElem_cons_zero, List.getElem_cons_succ, Array.getInternal_eq_getElem, List.setIfInBounds_toArray, List.set_cons_zero, List.set_cons_succ])
  refine wpAnyH_ready (rs := [8]) (by kernel_rfl) (by simp) ?_
  refine AllReadyH.cons rfl (fun K hK => ?_) AllReadyH.nil
  obtain ⟨q0, q1, q2, q3, q4⟩ := hHeld
  go_simp
  refine (HALL.out _ (chain HB3.out q3)).mono ?_
  rintro e X2 ⟨vb2, vm2, n1, rfl, hn1, hob, hom, hyb, hb⟩
  obtain ⟨An, cn, rfl⟩ := own_slice (n := s.mem.length) (show X2.ownsRow _ _ 1 vm2 s.mem.length _ from by have e := hom; unfold OwnI at e; rwa [drM_len] at e)
  have hob1 := hob
  unfold OwnW at hob1
  obtain ⟨Bn, bn, rfl⟩ := own_slice hob1
  clear hob1
  have HOM := Lib.hid (show OwnI X1.heap.size X2 (.slice An s.mem.length cn) (drM xb s.mem) from own_base hom q4)
  have HOB := Lib.hid (show OwnW X1.heap.size X2 (.slice Bn (drB xb s.mem).length bn) (drB xb s.mem) from own_base hob (Nat.le_trans q4 hn1))
  have HB2 := Lib.hid (show Below X1.heap.size X1 X2 from chain HXs.out hb)
  refine hK.out _ _ ⟨kc hb q0, kc hb q1, kc hb q2, chain q3 hb, Nat.le_trans q4 hb.size⟩ (fun hHeld => ?_)
  clear q0 q1 q2 q3 q4
  clear hK K
  (try simp only [Act.put, List.getElem_toArray, List.getElem_cons_zero, List.getElem_cons_succ, Array.getInternal_eq_getElem, List.setIfInBounds_toArray, List.set_cons_zero, List.set_cons_succ])
  clear hb hom hob hyb hn1
  refine wpAnyH_take (i := 9) (v := ?_) rfl (by kernel_rfl) (by kernel_rfl) (by kernel_rfl) (fun _ _ _ h => h) (Or.inl ⟨by rfl, ?_⟩) (by assumption) ?_
  rotate_left
  · intro w hSw; (try dsimp only at hSw); go_simp; (try with_reducible rfl)
  (try simp only [Act.put, List.getElem_toArray, List.getElem_cons_zero, List.getElem_cons_succ, Array.getInternal_eq_getElem, List.setIfInBounds_toArray, List.set_cons_zero, List.set_cons_succ])
  refine wpAnyH_take (i := 10) (v := ?_) rfl (by kernel_rfl) (by kernel_rfl) (by kernel_rfl) (fun _ _ _ h => h) (Or.inl ⟨by rfl, ?_⟩) (by assumption) ?_
  rotate_left
  · intro w hSw; (try dsimp only at hSw); go_simp; (try with_reducible rfl)
  (try simp only [Act.put, List.getElem_toArray, List.getElem_cons_zero, List.getElem_cons_succ, Array.getInternal_eq_getElem, List.setIfInBounds_toArray, List.set_cons_zero, List.set_cons_succ])
  refine wpAnyH_take (i := 11) (v := ?_) rfl (by kernel_rfl) (by kernel_rfl) (by kernel_rfl) (fun _ _ _ h => h) (Or.inl ⟨by rfl, ?_⟩) (by assumption) ?_
  rotate_left
  · intro w hSw; (try dsimp only at hSw); go_simp; (try with_reducible rfl)
  (try simp only [Act.put, List.getElem_toArray, List.getElem_cons_zero, List.getElem_cons_succ, Array.getInternal_eq_getElem, List.setIfInBounds_toArray, List.set_cons_zero, List.set_cons_succ])
  refine wpAnyH_take (i := 12) (v := ?_) rfl (by kernel_rfl) (by kernel_rfl) (by kernel_rfl) (fun _ _ _ h => h) (Or.inl ⟨by rfl, ?_⟩) (by assumption) ?_
  rotate_left
  · intro w hSw; (try dsimp only at hSw); go_simp; (try with_reducible rfl)
  (try simp only [Act.put, List.getElem_toArray, List.getElem_cons_zero, List.getElem_cons_succ, Array.getInternal_eq_getElem, List.setIfInBounds_toArray, List.set_cons_zero, List.set_cons_succ])
  refine wpAnyH_ready (rs := [13]) (by kernel_rfl) (by simp) ?_
  refine AllReadyH.cons rfl (fun K hK => ?_) AllReadyH.nil
  go_simp
  refine hK.out _ _ hHeld (fun hHeld => ?_)
  clear hK K
  (try simp only [Act.put, List.getElem_toArray, List.getElem_cons_zero, List.getElem_cons_succ, Array.getInternal_eq_getElem, List.setIfInBounds_toArray, List.set_cons_zero, List.set_cons_succ])
  refine wpAnyH_ready (rs := [14]) (by kernel_rfl) (by simp) ?_
  refine AllReadyH.cons rfl (fun K hK => ?_) AllReadyH.nil
  go_simp
  refine hK.out _ _ hHeld (fun hHeld => ?_)
  clear hK K
  (try simp only [Act.put, List.getElem_toArray, List.getElem_cons_zero, List.getElem_cons_succ, Array.getInternal_eq_getElem, List.setIfInBounds_toArray, List.set_cons_zero, List.set_cons_succ])
  refine wpAnyH_ready (rs := [15]) (by kernel_rfl) (by simp) ?_
  refine AllReadyH.cons rfl (fun K hK => ?_) AllReadyH.nil
  go_simp
  refine hK.out _ _ hHeld (fun hHeld => ?_)
  clear hK K
  (try simp only [Act.put, List.getElem_toArray, List.getElem_cons_zero, List.getElem_cons_succ, Array.getInternal_eq_getElem, List.setIfInBounds_toArray, List.set_cons_zero, List.set_cons_succ])
  refine wpAnyH_done (by kernel_rfl) ?_ _
  clear hHeld y0 y1 b3 k0 k1
  have HQ2 := Lib.hid (HQ1.out.below HB2.out HQ1.out.lt)
  have o0 := HQ2.out.cell 0 _ rfl
  have g0 := HQ2.out.frozen 0
  go_upto_region 10 with fail
  clear o0 g0
  obtain ⟨X5, hX5⟩ : ∃ W, W = X2.setCell ⟨go, 0, none⟩ (.slice An s.mem.length cn) := ⟨_, rfl⟩
  have hgrgo : gr ≠ go := by have := HR.out.lt; have := HGO3.out; omega
  have HQ5 := Lib.hid (show BoxC X5 go 28 #[.slice An s.mem.length cn, .slice Av s.ths.length cv] from by rw [hX5]; exact HQ2.out.set 0 _)
  have HRR5 := Lib.hid (show BoxC X5 gr 28 #[.slice none 0 0, .slice none 0 0] from by rw [hX5]; exact (HRR.out.below HB2.out HRR.out.lt).other hgrgo _ _)
  have HO5 := Lib.hid (show OwnSt W3.heap.size X5 (.slice An s.mem.length cn) (.slice Av s.ths.length cv) ⟨drM xb s.mem, s.ths⟩ ps from by
    rw [hX5]
    exact ((HOS.out.below HB2.out).memRow (own_base HOM.out HL3.out.size) (fun p hp => ap_symm (ap_new (HOS.out.each p hp).1 HOM.out (Nat.le_refl _)))).box HQ2.out (by decide) (by decide) (by decide) 0 _)
  have HOB5 := Lib.hid (show OwnW W3.heap.size X5 (.slice Bn (drB xb s.mem).length bn) (drB xb s.mem) from by
    rw [hX5]
    exact own_box (own_base HOB.out HL3.out.size) HQ2.out (by decide) 0 _)
  have HB5 := Lib.hid (show Below w.heap.size w X5 from by rw [hX5]; exact (chain HBF.out HB2.out).setCell (p := ⟨go, 0, none⟩) (Nat.le_trans HB3.out.size HGO3.out) _)
  rw [← hX5]
  clear hX5
  obtain ⟨vr, vb, hpk⟩ := HPK.out
  have HPK' := Lib.hid hpk
  obtain ⟨hkp, hpe⟩ := List.getElem?_eq_some_iff.1 hpk
  obtain ⟨gv, cv', cur, hev, hgv, hbv, t0, t1, t2, t3⟩ := HO5.out.row hkp
  injection hev with hev1 hev3 hev2
  clear hev3
  subst hev1 hev2
  rw [hpe] at t3
  have HBV := Lib.hid hbv
  have HGV := Lib.hid hgv
  clear t0 t1 t2 hpk hpe hbv hgv
  have a1 := HQ5.out.cell 1 _ rfl
  have g3 := HBV.out.frozen (k * 4 + 3)
  go_upto_region 11 with fail
  obtain ⟨X6, hX6⟩ : ∃ W, W = X5.setCell ⟨gv, k * 4 + 3, none⟩ (.slice Bn (drB xb s.mem).length bn) := ⟨_, rfl⟩
  obtain ⟨ps6, ho6⟩ : ∃ ps6, OwnSt W3.heap.size X6 (.slice An s.mem.length cn) (.slice (some ⟨gv, 0, none⟩) s.ths.length cv) ⟨drM xb s.mem, s.ths.set k ⟨xa, xr, xe, drB xb s.mem⟩⟩ ps6 := ⟨_, by rw [hX6]; exact HO5.out.setVB' HPK'.out HOB5.out⟩
  have HO6 := Lib.hid ho6
  have HQ6 := Lib.hid (show BoxC X6 go 28 #[.slice An s.mem.length cn, .slice (some ⟨gv, 0, none⟩) s.ths.length cv] from by rw [hX6]; exact HQ5.out.other (HQ5.out.unlike HBV.out (by decide)) _ _)
  have HRR := Lib.hid (show BoxC X6 gr 28 #[.slice none 0 0, .slice none 0 0] from by rw [hX6]; exact HRR5.out.other (HRR5.out.unlike HBV.out (by decide)) _ _)
  have HB6 := Lib.hid (show Below w.heap.size w X6 from by rw [hX6]; exact HB5.out.setCell (p := ⟨gv, k * 4 + 3, none⟩) (Nat.le_trans HB3.out.size HGV.out) _)
  rw [← hX6]
  clear hX6 ho6 a1 g3 t3 hkp
  have y0 := HQ6.out.cell 0 _ rfl
  have y1 := HQ6.out.cell 1 _ rfl
  have r0 := HRR.out.cell 0 _ rfl
  have r1 := HRR.out.cell 1 _ rfl
  have f0 := HRR.out.frozen 0
  have f1 := HRR.out.frozen 1
  obtain ⟨W9, hW9⟩ : ∃ W, W = (X6.setCell ⟨gr, 0, none⟩ (.slice An s.mem.length cn)).setCell ⟨gr, 1, none⟩ (.slice (some ⟨gv, 0, none⟩) s.ths.length cv) := ⟨_, rfl⟩
  have HR9 := Lib.hid (show BoxC W9 gr 28 #[(.slice An s.mem.length cn), (.slice (some ⟨gv, 0, none⟩) s.ths.length cv)] from by rw [hW9]; exact (HRR.out.set 0 _).set 1 _)
  have HO9 := Lib.hid (show OwnSt W3.heap.size W9 (.slice An s.mem.length cn) (.slice (some ⟨gv, 0, none⟩) s.ths.length cv) (⟨drM xb s.mem, s.ths.set k ⟨xa, xr, xe, drB xb s.mem⟩⟩) ps6 from by
    rw [hW9]
    exact (HO6.out.box HRR.out (by decide) (by decide) (by decide) 0 _).box (HRR.out.set 0 _) (by decide) (by decide) (by decide) 1 _)
  have HB9 := Lib.hid (show Below w.heap.size w W9 from by rw [hW9]; exact (HB6.out.setCell (p := ⟨gr, 0, none⟩) HGR.out _).setCell (p := ⟨gr, 1, none⟩) HGR.out _)
  have HW9 := Lib.hid hW9
  clear hW9
  go_wp2_with fail
  rw [← HW9.out]
  clear r0 r1 f0 f1
  have r0 := HR9.out.cell 0 _ rfl
  have r1 := HR9.out.cell 1 _ rfl
  have hz := HCO.out
  refine bodyPost_ret (v := .tuple #[.agg #[(.slice An s.mem.length cn), (.slice (some ⟨gv, 0, none⟩) s.ths.length cv)], .bool true]) (by simp [results, Try.results12, go_sem, r0, r1, hz]) rfl ⟨_, _, _, by rw [HFE.out]; rfl, (by rw [HFE.out]; exact HO9.out.base HB3.out.size), HB9.out⟩

end Go.Proofs.Ytkbnppidkhbbeaa
