/-
  LAYER 13: run.Run.
  LAYER 13: run.Over.
  LAYER 13: ends: what locations have, and all registers; run.End.
  LAYER 13: run.Ends.
-/
import Derived.Test.YtbgjamoflbdhoaaRuC
import Derived.Deep.RegionHeld3
import Derived.Deep.DeepCutAuto
import Derived.Test.YtbgjamoflbdhoaaK17
import Derived.Test.YtbgjamoflbdhoaaK04
set_option linter.unusedVariables false
set_option linter.unusedSimpArgs false
namespace Go.Proofs.Ytbgjamoflbdhoaa
open Go.RowKit
set_option linter.unusedVariables false
set_option linter.unusedSimpArgs false
open CodM (St Pg rightP)
open BfM (Wr plc)
open ScM

set_option maxHeartbeats 8000000 in
set_option maxRecDepth 100000 in
theorem run_any {B : Nat} {v vl : Value} {P : Pg} {l : List (Int × Bool)} (wk : Bool) (w : World) (hv : PgZ B w v P) (hl : KiR B w vl l) (hBB : B ≤ w.heap.size) (hp : rightP P = true) (hn : l.length ≤ 50000) :
    Calls Try.prog 11 #[v, vl, .bool wk] w (OwnRun P wk l w) := by
  have HP := Lib.hid (fun W (hW : Below w.heap.size w W) => (show PgZ W.heap.size W v P from (hv.below (hW.mono hBB)).more (Nat.le_trans hBB hW.size)))
  have HL := Lib.hid (fun W (hW : Below w.heap.size w W) => (show KiR W.heap.size W vl l from (hl.below (hW.mono hBB)).more (Nat.le_trans hBB hW.size)))
  have HSP := Lib.hid (fun k => show OkSt P (runS P wk (beg P) (l.take k)).1 ∧ WideS (runS P wk (beg P) (l.take k)).1 from ⟨runS_ok hp _ (beg_ok P), wide_run hp wk (l.take k) (by rw [List.length_take]; omega) (by decide)⟩)
  have HRP := Lib.hid hp
  clear hp hn
  obtain ⟨pi, pt, rfl, hpm, -⟩ := hv
  obtain ⟨⟨P0, d0, rfl, -⟩, ⟨P1, d1, rfl, -⟩⟩ := hpm
  obtain ⟨Al, cl, rfl, -⟩ := id hl
  have HL0 := Lib.hid (hl.more hBB)
  clear hl
  obtain ⟨W2, hW2⟩ : ∃ W, W = (w.alloc (.cells #[.slice P0 P.init.length d0, .slice P1 P.ths.length d1] 25)).alloc (.cells #[.slice none 0 0, .slice none 0 0] 31) := ⟨_, rfl⟩
  obtain ⟨gp, hgp⟩ : ∃ g, g = w.heap.size := ⟨_, rfl⟩
  obtain ⟨gr, hgr⟩ : ∃ g, g = w.heap.size + 1 := ⟨_, rfl⟩
  have HX := Lib.hid (show BoxC W2 gp 25 #[.slice P0 P.init.length d0, .slice P1 P.ths.length d1] from by rw [hW2, hgp]; exact (BoxC.new w _ _).alloc _)
  have HR := Lib.hid (show BoxC W2 gr 31 #[.slice none 0 0, .slice none 0 0] from by rw [hW2, hgr]; have := BoxC.new (w.alloc (.cells #[.slice P0 P.init.length d0, .slice P1 P.ths.length d1] 25)) 31 #[.slice none 0 0, .slice none 0 0]; rw [World.size_alloc] at this; exact this)
  have HB2 := Lib.hid (show Below w.heap.size w W2 from by rw [hW2]; exact below_al (below_al (Below.refl _ _) _) _)
  have HG := Lib.hid (show w.heap.size ≤ gr ∧ w.heap.size ≤ gp from by omega)
  go_enter Try.func11, Try.ntmps11
  go_upto_region 1 with fail
  rw [← hW2]
  (try rw [← hgr])
  (try rw [← hgp])
  clear hW2 hgr hgp
  have x0 := HX.out.cell 0 _ rfl
  have x1 := HX.out.cell 1 _ rfl
  go_upto_region 2 with fail
  obtain ⟨X2, hX2⟩ : ∃ W, W = W2.alloc (.cells #[.slice P0 P.init.length d0, .slice P1 P.ths.length d1] 62) := ⟨_, rfl⟩
  obtain ⟨gf, hgf⟩ : ∃ g, g = W2.heap.size := ⟨_, rfl⟩
  have HF := Lib.hid (show BoxC X2 gf 62 #[.slice P0 P.init.length d0, .slice P1 P.ths.length d1] from by rw [hX2, hgf]; exact BoxC.new W2 _ _)
  have HX2 := Lib.hid (show Below W2.heap.size W2 X2 from by rw [hX2]; exact below_al (Below.refl _ _) _)
  have HGF := Lib.hid (show W2.heap.size ≤ gf from by omega)
  have HBW := Lib.hid HB2.out.size
  rw [← hX2]
  (try rw [← hgf])
  clear hX2 hgf x0 x1
  have HB3 := Lib.hid (chain HB2.out HX2.out)
  have HP3 := Lib.hid (HP.out _ HB3.out)
  have HXA := Lib.hid (HX.out.below HX2.out HX.out.lt)
  have HRA := Lib.hid (HR.out.below HX2.out HR.out.lt)
  have x0 := HXA.out.cell 0 _ rfl
  have x1 := HXA.out.cell 1 _ rfl
  have z0 := HF.out.cell 0 _ rfl
  have z1 := HF.out.cell 1 _ rfl
  cases wk
  · go_wp2_with fail
    refine (begin_any _ HP3.out (Nat.le_refl _) HRP.out).mono ?_
    rintro e V1 ⟨gq, gs, va, vb, ps, rfl, hq, hs, ho, ⟨hg1, hg2, hg3⟩, hb⟩
    have HQ4 := Lib.hid hq
    have HS4 := Lib.hid hs
    have HO4 := Lib.hid ho
    have HG4 := Lib.hid (show X2.heap.size ≤ gq ∧ X2.heap.size ≤ gs ∧ gq ≠ gs from ⟨hg1, hg2, hg3⟩)
    have HB4 := Lib.hid hb
    have HF4 := Lib.hid (HF.out.below hb HF.out.lt)
    have HR4 := Lib.hid (HRA.out.below hb HRA.out.lt)
    have HFL := Lib.hid HF.out.lt
    have HXL := Lib.hid HRA.out.lt
    have HRL := Lib.hid HR.out.lt
    clear hq hs ho hg1 hg2 hg3 hb x0 x1 z0 z1
    go_wp2_with fail
    have HZ := Lib.hid (show X2.heap.size ≤ V1.heap.size from HB4.out.size)
    have HBV := Lib.hid (chain HB3.out HB4.out)
    have HZ2 := Lib.hid HB3.out.size
    have HJO : JOk (fun _ W => BoxC W gf 62 #[.slice P0 P.init.length d0, .slice P1 P.ths.length d1]) gf X2.heap.size 62 := ⟨fun _ W h => ⟨_, h⟩, fun _ W W' h hb => h.below hb h.lt, fun _ W g cs i v h hb => h.other (fun e => by (subst e; have := h.symm.trans hb; injection this with this; injection this with _ this; exact absurd this (by decide))) i v, by decide, by decide, by decide⟩
    have HBF := Lib.hid (show w.heap.size ≤ gf from by have h1 := HGF.out; have h2 := HBW.out; omega)
    have HBS := Lib.hid (show w.heap.size ≤ gs from by have h1 := HG4.out.2.1; have h2 := HZ2.out; omega)
    have HKL := Lib.hid (show KiR w.heap.size V1 (.slice Al l.length cl) l from HL0.out.below HBV.out)
    refine (begin1_any (B := w.heap.size) (base := X2.heap.size) (P := P) (l := l) (wk := false) (gf := gf) (TF := 62) (J := fun _ W => BoxC W gf 62 #[.slice P0 P.init.length d0, .slice P1 P.ths.length d1]) V1 HKL.out HBF.out HBS.out (Nat.le_trans HZ2.out HZ.out) HZ.out HQ4.out HS4.out HO4.out (fun args W => by rfl) HF4.out HJO (by have := HG4.out; have := HFL.out; omega) (by have := HG4.out; have := HFL.out; omega) HG4.out.2.2 (fun k hk s W vm vt ps hrun hj ho hb => ?_)).mono ?_
    · have hsp := HSP.out k
      rw [hrun] at hsp
      have hpw := HP.out W (HBV.out.trans hb)
      exact Calls.mono (strict_any l[k].1 l[k].2 W hpw.v ho.sv (Nat.le_refl _) HRP.out hsp.1 hsp.2) (fun e w' h => h.k hj (fun hb2 => hj.below hb2 hj.lt))
    · rintro e V2 ⟨A, n, c, Bq, m, q, ps2, rfl, hos, -, hkp⟩
      obtain ⟨cn, hcn⟩ : ∃ a, a = (runS P false (beg P) l).2.1 := ⟨_, rfl⟩
      obtain ⟨ca, hca⟩ : ∃ a, a = (runS P false (beg P) l).2.2 := ⟨_, rfl⟩
      rw [← hcn, ← hca]
      have HCN := Lib.hid hcn
      have HCA := Lib.hid hca
      have HO5 := Lib.hid hos
      have HR5 := Lib.hid (HR4.out.kp2 hkp (by have h1 := HXL.out; have h2 := HZ.out; omega) (by have h1 := HRL.out; have h2 := HGF.out; omega) (by have h1 := HXL.out; have h2 := HG4.out; omega) (by decide))
      have HB5 := Lib.hid (HBV.out.trans (hkp.below HBF.out HBS.out (Nat.le_trans HZ2.out HZ.out) (Nat.le_refl _)))
      clear hcn hca hos hkp
      have r0 := HR5.out.cell 0 _ rfl
      have r1 := HR5.out.cell 1 _ rfl
      have f0 := HR5.out.frozen 0
      have f1 := HR5.out.frozen 1
      obtain ⟨W9, hW9⟩ : ∃ W, W = (V2.setCell ⟨gr, 0, none⟩ (.slice A n c)).setCell ⟨gr, 1, none⟩ (.slice Bq m q) := ⟨_, rfl⟩
      have HR9 := Lib.hid (show BoxC W9 gr 31 #[(.slice A n c), (.slice Bq m q)] from by rw [hW9]; exact (HR5.out.set 0 _).set 1 _)
      have HO9 := Lib.hid (show OwnSt X2.heap.size W9 (.slice A n c) (.slice Bq m q) (runS P false (beg P) l).1 ps2 from by rw [hW9]; exact (HO5.out.box HR5.out (by decide) (by decide) (by decide) 0 _).box (HR5.out.set 0 _) (by decide) (by decide) (by decide) 1 _)
      have HB9 := Lib.hid (show Below w.heap.size w W9 from by rw [hW9]; exact (HB5.out.setCell (p := ⟨gr, 0, none⟩) HG.out.1 _).setCell (p := ⟨gr, 1, none⟩) HG.out.1 _)
      have HW9 := Lib.hid hW9
      clear hW9
      go_wp2_with fail
      rw [← HW9.out]
      clear r0 r1 f0 f1
      have r0 := HR9.out.cell 0 _ rfl
      have r1 := HR9.out.cell 1 _ rfl
      have hz : Try.prog.cellsOf 31 = 2 := by kernel_rfl
      refine bodyPost_ret (v := .tuple #[.agg #[(.slice A n c), (.slice Bq m q)], .int .i64 (cn : Int), .bool ca]) (by simp [results, Try.results11, go_sem, r0, r1, hz]) rfl ?_
      exact ⟨_, _, ps2, by rw [← HCN.out, ← HCA.out], HO9.out.base HZ2.out, HB9.out⟩
  · go_wp2_with fail
    refine (begin_any _ HP3.out (Nat.le_refl _) HRP.out).mono ?_
    rintro e V1 ⟨gq, gs, va, vb, ps, rfl, hq, hs, ho, ⟨hg1, hg2, hg3⟩, hb⟩
    have HQ4 := Lib.hid hq
    have HS4 := Lib.hid hs
    have HO4 := Lib.hid ho
    have HG4 := Lib.hid (show X2.heap.size ≤ gq ∧ X2.heap.size ≤ gs ∧ gq ≠ gs from ⟨hg1, hg2, hg3⟩)
    have HB4 := Lib.hid hb
    have HF4 := Lib.hid (HF.out.below hb HF.out.lt)
    have HR4 := Lib.hid (HRA.out.below hb HRA.out.lt)
    have HFL := Lib.hid HF.out.lt
    have HXL := Lib.hid HRA.out.lt
    have HRL := Lib.hid HR.out.lt
    clear hq hs ho hg1 hg2 hg3 hb x0 x1 z0 z1
    go_wp2_with fail
    have HZ := Lib.hid (show X2.heap.size ≤ V1.heap.size from HB4.out.size)
    have HBV := Lib.hid (chain HB3.out HB4.out)
    have HZ2 := Lib.hid HB3.out.size
    have HJO : JOk (fun _ W => BoxC W gf 62 #[.slice P0 P.init.length d0, .slice P1 P.ths.length d1]) gf X2.heap.size 62 := ⟨fun _ W h => ⟨_, h⟩, fun _ W W' h hb => h.below hb h.lt, fun _ W g cs i v h hb => h.other (fun e => by (subst e; have := h.symm.trans hb; injection this with this; injection this with _ this; exact absurd this (by decide))) i v, by decide, by decide, by decide⟩
    have HBF := Lib.hid (show w.heap.size ≤ gf from by have h1 := HGF.out; have h2 := HBW.out; omega)
    have HBS := Lib.hid (show w.heap.size ≤ gs from by have h1 := HG4.out.2.1; have h2 := HZ2.out; omega)
    have HKL := Lib.hid (show KiR w.heap.size V1 (.slice Al l.length cl) l from HL0.out.below HBV.out)
    refine (begin1_any (B := w.heap.size) (base := X2.heap.size) (P := P) (l := l) (wk := true) (gf := gf) (TF := 62) (J := fun _ W => BoxC W gf 62 #[.slice P0 P.init.length d0, .slice P1 P.ths.length d1]) V1 HKL.out HBF.out HBS.out (Nat.le_trans HZ2.out HZ.out) HZ.out HQ4.out HS4.out HO4.out (fun args W => by rfl) HF4.out HJO (by have := HG4.out; have := HFL.out; omega) (by have := HG4.out; have := HFL.out; omega) HG4.out.2.2 (fun k hk s W vm vt ps hrun hj ho hb => ?_)).mono ?_
    · have hsp := HSP.out k
      rw [hrun] at hsp
      have hpw := HP.out W (HBV.out.trans hb)
      exact Calls.mono (weak_any l[k].1 l[k].2 W hpw.v ho.sv (Nat.le_refl _) HRP.out hsp.1 hsp.2) (fun e w' h => h.k hj (fun hb2 => hj.below hb2 hj.lt))
    · rintro e V2 ⟨A, n, c, Bq, m, q, ps2, rfl, hos, -, hkp⟩
      obtain ⟨cn, hcn⟩ : ∃ a, a = (runS P true (beg P) l).2.1 := ⟨_, rfl⟩
      obtain ⟨ca, hca⟩ : ∃ a, a = (runS P true (beg P) l).2.2 := ⟨_, rfl⟩
      rw [← hcn, ← hca]
      have HCN := Lib.hid hcn
      have HCA := Lib.hid hca
      have HO5 := Lib.hid hos
      have HR5 := Lib.hid (HR4.out.kp2 hkp (by have h1 := HXL.out; have h2 := HZ.out; omega) (by have h1 := HRL.out; have h2 := HGF.out; omega) (by have h1 := HXL.out; have h2 := HG4.out; omega) (by decide))
      have HB5 := Lib.hid (HBV.out.trans (hkp.below HBF.out HBS.out (Nat.le_trans HZ2.out HZ.out) (Nat.le_refl _)))
      clear hcn hca hos hkp
      have r0 := HR5.out.cell 0 _ rfl
      have r1 := HR5.out.cell 1 _ rfl
      have f0 := HR5.out.frozen 0
      have f1 := HR5.out.frozen 1
      obtain ⟨W9, hW9⟩ : ∃ W, W = (V2.setCell ⟨gr, 0, none⟩ (.slice A n c)).setCell ⟨gr, 1, none⟩ (.slice Bq m q) := ⟨_, rfl⟩
      have HR9 := Lib.hid (show BoxC W9 gr 31 #[(.slice A n c), (.slice Bq m q)] from by rw [hW9]; exact (HR5.out.set 0 _).set 1 _)
      have HO9 := Lib.hid (show OwnSt X2.heap.size W9 (.slice A n c) (.slice Bq m q) (runS P true (beg P) l).1 ps2 from by rw [hW9]; exact (HO5.out.box HR5.out (by decide) (by decide) (by decide) 0 _).box (HR5.out.set 0 _) (by decide) (by decide) (by decide) 1 _)
      have HB9 := Lib.hid (show Below w.heap.size w W9 from by rw [hW9]; exact (HB5.out.setCell (p := ⟨gr, 0, none⟩) HG.out.1 _).setCell (p := ⟨gr, 1, none⟩) HG.out.1 _)
      have HW9 := Lib.hid hW9
      clear hW9
      go_wp2_with fail
      rw [← HW9.out]
      clear r0 r1 f0 f1
      have r0 := HR9.out.cell 0 _ rfl
      have r1 := HR9.out.cell 1 _ rfl
      have hz : Try.prog.cellsOf 31 = 2 := by kernel_rfl
      refine bodyPost_ret (v := .tuple #[.agg #[(.slice A n c), (.slice Bq m q)], .int .i64 (cn : Int), .bool ca]) (by simp [results, Try.results11, go_sem, r0, r1, hz]) rfl ?_
      exact ⟨_, _, ps2, by rw [← HCN.out, ← HCA.out], HO9.out.base HZ2.out, HB9.out⟩
end Go.Proofs.Ytbgjamoflbdhoaa
namespace Go.Proofs.Ytbgjamoflbdhoaa
open Go.RowKit
set_option linter.unusedVariables false
set_option linter.unusedSimpArgs false
open CodM (St Pg rightP)
open BfM (Wr plc)
open ScM

set_option maxHeartbeats 4000000 in
set_option maxRecDepth 100000 in
theorem over1_any {B len c : Nat} {A : Option Addr} {vr vb : Value} (t : Th) (w : World) (hr : IntR B w vr t.regs) (hb : WrR B w vb t.buf) (hBB : B ≤ w.heap.size) (hl : len ≤ 1000000) :
    Calls Try.prog 39 #[.slice A len c, thV t vr vb] w fun e w' => e = .returned (.bool (decide (t.at' = (len : Int)) && t.buf.isEmpty)) ∧ Below w.heap.size w w' := by
  obtain ⟨xa, xr, xe, xb⟩ := t
  dsimp only at hr hb ⊢
  obtain ⟨Ar, cr, rfl, -⟩ := hr
  obtain ⟨Ab, cb, rfl, -, hmx, -⟩ := hb
  unfold thV
  dsimp only
  have hB := below_al (Below.refl w.heap.size w) (.cells #[.int .i64 xa, .slice Ar xr.length cr, .bool xe, .slice Ab xb.length cb] 55)
  have HQ := Lib.hid (BoxC.new w 55 #[.int .i64 xa, .slice Ar xr.length cr, .bool xe, .slice Ab xb.length cb])
  have x0 := HQ.out.cell 0 _ rfl
  have x3 := HQ.out.cell 3 _ rfl
  obtain ⟨m, hm⟩ : ∃ m, m = xb.length := ⟨_, rfl⟩
  have HE := Lib.hid (show xb.isEmpty = decide (m = 0) from by rw [hm]; cases xb <;> simp)
  rw [HE.out]
  rw [← hm] at x3 hB ⊢
  clear hm HQ HE
  by_cases h0 : xa = (len : Int)
  case neg =>
    have hd : decide (xa = (len : Int)) = false := decide_eq_false h0
    have hq : (xa == (len : Int)) = false := by rw [beq_eq_false_iff_ne]; exact h0
    rw [hd]
    go_enter Try.func39, Try.ntmps39
    go_wp2
    go_ret
    exact ⟨rfl, hB⟩
  have hd : decide (xa = (len : Int)) = true := decide_eq_true h0
  have hq : (xa == (len : Int)) = true := by rw [beq_iff_eq]; exact h0
  rw [hd]
  have HH := Lib.hid h0
  clear h0
  by_cases h1 : m = 0
  · have hz : decide (m = 0) = true := decide_eq_true h1
    have hz2 : ((m : Int) == 0) = true := by rw [beq_iff_eq]; omega
    rw [hz]
    clear h1
    go_enter Try.func39, Try.ntmps39
    go_wp2
    go_ret
    exact ⟨rfl, hB⟩
  · have hz : decide (m = 0) = false := decide_eq_false h1
    have hz2 : ((m : Int) == 0) = false := by rw [beq_eq_false_iff_ne]; omega
    rw [hz]
    clear h1
    go_enter Try.func39, Try.ntmps39
    go_wp2
    go_ret
    exact ⟨rfl, hB⟩
/-- What EqualFunc asks of the threads. -/
def AllOv (tss : List (List St)) (ts : List Th) : Prop := tss.length = ts.length ∧ ∀ j (h1 : j < tss.length) (h2 : j < ts.length), (decide (ts[j].at' = (tss[j].length : Int)) && ts[j].buf.isEmpty) = true
def OvRel (tss : List (List St)) (ts : List Th) (w : World) (i : Value) (wr : World) : Prop := ∃ k : Nat, k ≤ tss.length ∧ i = .int .i64 k ∧ (∀ j (h1 : j < tss.length) (h2 : j < ts.length), j < k → (decide (ts[j].at' = (tss[j].length : Int)) && ts[j].buf.isEmpty) = true) ∧ Below w.heap.size w wr
set_option maxHeartbeats 4000000 in
set_option maxRecDepth 100000 in
theorem eqo_any {B : Nat} {v u : Value} {tss : List (List St)} {ts : List Th} (w : World) (hv : Sss B w v tss) (hu : ThR B w u ts) (hBB : B ≤ w.heap.size) (hl : tss.length ≤ 1000000) (hsl : ∀ ss ∈ tss, ss.length ≤ 1000000) :
    Calls Try.prog 38 #[v, u, .func (.func 39) #[] #[]] w (Tells (AllOv tss ts) w) := by
  obtain ⟨A1, c1, rfl, h1, h2, h3⟩ := hv
  obtain ⟨A2, c2, rfl, k1, k2, -, k3⟩ := hu
  unfold maxLen at h2 k2
  by_cases hlen : tss.length = ts.length
  case neg =>
    have HN := Lib.hid (show ¬ AllOv tss ts from fun h => hlen h.1)
    have hq : ((tss.length : Int) != (ts.length : Int)) = true := by rw [bne_iff_ne]; omega
    clear hlen h3 k3
    go_enter Try.func38, Try.ntmps38
    go_wp2
    go_ret
    exact tells_no HN.out (Below.refl _ _)
  have hq : ((tss.length : Int) != (ts.length : Int)) = false := by rw [bne_eq_false_iff_eq]; omega
  have HLEN := Lib.hid hlen
  clear hlen
  go_enter Try.func38, Try.ntmps38
  go_wp2
  clear hq
  go_loopw [17] (fun i wr => OvRel tss ts w i wr) (fun i _ => tss.length - (intOf i).toNat)
  case atStart => exact ⟨0, Nat.zero_le _, rfl, fun j _ _ h => absurd h (Nat.not_lt_zero j), Below.refl _ _⟩
  case round =>
    obtain ⟨k, hk, rfl, hall, hB⟩ := hrel
    have HA := Lib.hid hall
    clear hall
    by_cases hlt : k < tss.length
    · have hlt2 : k < ts.length := by rw [← HLEN.out]; exact hlt
      obtain ⟨b1, f1, rfl, hb1, hcl⟩ := h3 (by omega)
      obtain ⟨b2, f2, rfl, hb2, hcm⟩ := k3 (by omega)
      obtain ⟨uu, z0, hS⟩ := (hcl k hlt).below (hB.mono hBB) hb1
      obtain ⟨vr, vb, y0, y1, y2, y3, hR, hW⟩ := (hcm k hlt2).below (hB.mono hBB) hb2
      have hs3 := hsl _ (List.getElem_mem hlt)
      have HNO := Lib.hid (fun (h : ¬ (decide (ts[k].at' = (tss[k].length : Int)) && ts[k].buf.isEmpty) = true) => show ¬ AllOv tss ts from fun h' => h (h'.2 k hlt hlt2))
      have HY := Lib.hid (fun (h : (decide (ts[k].at' = (tss[k].length : Int)) && ts[k].buf.isEmpty) = true) (j : Nat) (h1 : j < tss.length) (h2 : j < ts.length) (hjk : j < k + 1) => show (decide (ts[j].at' = (tss[j].length : Int)) && ts[j].buf.isEmpty) = true by
        by_cases e : j = k
        · subst e; exact h
        · exact HA.out j h1 h2 (by omega))
      obtain ⟨A3, c3, rfl, -⟩ := hS
      have HC := Lib.hid (fun W (hW0 : Below wr.heap.size wr W) => over1_any (len := tss[k].length) (A := A3) (c := c3) ts[k] W (hR.below (hW0.mono (Nat.le_trans hBB hB.size))) (hW.below (hW0.mono (Nat.le_trans hBB hB.size))) (Nat.le_trans hBB (chain hB hW0).size) hs3)
      unfold thV at HC
      obtain ⟨A4, c4, rfl, -⟩ := hR
      obtain ⟨A5, c5, rfl, -⟩ := hW
      generalize (decide (ts[k].at' = (tss[k].length : Int)) && ts[k].buf.isEmpty) = q at *
      generalize tss[k] = ss at *
      generalize ts[k] = x at *
      clear hcl hcm h3 k3 HA hs3
      go_wp2_with fail
      have hB3 := below_al (Below.refl wr.heap.size wr) (.cells #[.int .i64 x.at', .slice A4 x.regs.length c4, .bool x.eq, .slice A5 x.buf.length c5] 55)
      refine (HC.out _ hB3).mono ?_
      rintro e w1 ⟨rfl, hb⟩
      have hB1 := chain (chain hB hB3) hb
      clear hB hb z0 y0 y1 y2 y3 HC hB3
      cases q
      · go_wp2
        go_ret
        exact tells_no (HNO.out (by decide)) hB1
      · go_wp2
        go_roundw
        case rel => exact ⟨k + 1, by omega, by go_num, HY.out (by first | rfl | trivial), hB1⟩
        case measure => simp [intOf]; omega
    · obtain rfl : tss.length = k := by omega
      have HE := Lib.hid (show AllOv tss ts from ⟨HLEN.out, fun j h1 h2 => HA.out j h1 h2 h1⟩)
      clear h3 k3
      go_wp2
      go_ret
      exact tells_yes HE.out hB
theorem allOv_iff {P : Pg} {s : Sta} (ho : OkSt P s) : AllOv P.ths s.ths ↔ overB P s = true := by
  rw [over_iff ho]
  constructor
  · intro h k h1 h2
    have := h.2 k h2 h1
    simp only [Bool.and_eq_true, decide_eq_true_eq, List.isEmpty_iff] at this
    exact this
  · intro h
    refine ⟨ho.ths.symm, fun j h1 h2 => ?_⟩
    have := h j h2 h1
    simp only [Bool.and_eq_true, decide_eq_true_eq, List.isEmpty_iff]
    exact this
set_option maxHeartbeats 4000000 in
set_option maxRecDepth 100000 in
theorem over_any {B : Nat} {v u : Value} {P : Pg} {s : Sta} (w : World) (hv : PgV B w v P) (hu : StaV B w u s) (hBB : B ≤ w.heap.size) (hp : rightP P = true) (ho : OkSt P s) :
    Calls Try.prog 20 #[v, u] w fun e w' => e = .returned (.bool (overB P s)) ∧ Below w.heap.size w w' := by
  have HAL := Lib.hid (allOv_iff ho)
  obtain ⟨-, -, r3, r4⟩ := right_ths hp
  obtain ⟨pi, pt, rfl, hpm⟩ := hv
  obtain ⟨um, ut, rfl, hum⟩ := hu
  have HE := Lib.hid (fun W (hW : Below w.heap.size w W) => eqo_any (tss := P.ths) (ts := s.ths) W (hpm.2.below (hW.mono hBB)) (hum.2.below (hW.mono hBB)) (Nat.le_trans hBB hW.size) (by omega) (fun ss hs => by
    obtain ⟨k, hk, rfl⟩ := List.mem_iff_getElem.1 hs
    have := r4 k hk
    omega))
  clear r3 r4 hp ho
  obtain ⟨⟨P0, d0, rfl, -⟩, ⟨P1, d1, rfl, -⟩⟩ := hpm
  obtain ⟨⟨A7, c7, rfl, -⟩, ⟨A1, c1, rfl, -⟩⟩ := hum
  obtain ⟨W2, hW2⟩ : ∃ W, W = (w.alloc (.cells #[.slice P0 P.init.length d0, .slice P1 P.ths.length d1] 25)).alloc (.cells #[.slice A7 s.mem.length c7, .slice A1 s.ths.length c1] 31) := ⟨_, rfl⟩
  obtain ⟨gp, hgp⟩ : ∃ g, g = w.heap.size := ⟨_, rfl⟩
  obtain ⟨gs, hgs⟩ : ∃ g, g = w.heap.size + 1 := ⟨_, rfl⟩
  have HX := Lib.hid (show BoxC W2 gp 25 #[.slice P0 P.init.length d0, .slice P1 P.ths.length d1] from by rw [hW2, hgp]; exact (BoxC.new w _ _).alloc _)
  have HY := Lib.hid (show BoxC W2 gs 31 #[.slice A7 s.mem.length c7, .slice A1 s.ths.length c1] from by rw [hW2, hgs]; have := BoxC.new (w.alloc (.cells #[.slice P0 P.init.length d0, .slice P1 P.ths.length d1] 25)) 31 #[.slice A7 s.mem.length c7, .slice A1 s.ths.length c1]; rw [World.size_alloc] at this; exact this)
  have HB2 := Lib.hid (show Below w.heap.size w W2 from by rw [hW2]; exact below_al (below_al (Below.refl _ _) _) _)
  go_enter Try.func20, Try.ntmps20
  go_upto_region 1 with fail
  rw [← hW2]
  (try rw [← hgs])
  (try rw [← hgp])
  clear hW2 hgs hgp
  have x1 := HX.out.cell 1 _ rfl
  have y1 := HY.out.cell 1 _ rfl
  go_wp2_with fail
  refine (HE.out _ HB2.out).mono ?_
  rintro e V1 ⟨d, rfl, hd, hb⟩
  have HD := Lib.hid (hd.trans HAL.out)
  clear hd x1 y1
  go_wp2
  go_ret
  refine ⟨?_, chain HB2.out hb⟩
  congr 2
  have := HD.out
  cases d <;> cases h : overB P s <;> simp_all
end Go.Proofs.Ytbgjamoflbdhoaa
namespace Go.Proofs.Ytbgjamoflbdhoaa
open Go.RowKit
set_option linter.unusedVariables false
set_option linter.unusedSimpArgs false
open CodM (St Pg rightP)
open BfM (Wr plc)
open ScM

def endK (s : Sta) (k : Nat) : List Int := (s.ths.take k).flatMap fun t => t.regs
theorem endK_next {s : Sta} {k : Nat} (hk : k < s.ths.length) : endK s (k + 1) = endK s k ++ s.ths[k].regs := by
  unfold endK
  rw [List.take_succ_eq_append_getElem hk, List.flatMap_append]
  simp
theorem endK_all (s : Sta) : endK s s.ths.length = endR s := by unfold endK endR; rw [List.take_length]
theorem endK_len {s : Sta} (hw : ∀ t ∈ s.ths, t.regs.length ≤ 300) : ∀ k, k ≤ s.ths.length → (endK s k).length ≤ k * 300
  | 0, _ => by simp [endK]
  | k + 1, h => by
    have := endK_len hw k (by omega)
    have h2 := hw _ (List.getElem_mem (show k < s.ths.length by omega))
    rw [endK_next (by omega), List.length_append]
    omega
/-- What hands back an end, of the call's own. -/
def EnRet (s : Sta) (w : World) (e : Ending) (w' : World) : Prop := ∃ A m c B n d, e = .returned (.agg #[.slice A m c, .slice B n d]) ∧ m = s.mem.length ∧ n = (endR s).length ∧ OwnI w.heap.size w' (.slice A m c) s.mem ∧ OwnI w.heap.size w' (.slice B n d) (endR s) ∧ Below w.heap.size w w'
set_option maxHeartbeats 8000000 in
set_option maxRecDepth 100000 in
theorem end_any {B : Nat} {u : Value} {s : Sta} (w : World) (hu : StaV B w u s) (hBB : B ≤ w.heap.size) (hw : WideS s) :
    Calls Try.prog 22 #[u] w (EnRet s w) := by
  have HKL := Lib.hid (endK_len (s := s) (fun t ht => (hw.regs t ht).1))
  have HRG := Lib.hid (fun t ht => (hw.regs t ht).1)
  have hts := hw.ths
  have HSM := Lib.hid hw.mem
  clear hw
  obtain ⟨um, ut, rfl, hum⟩ := hu
  have HCL := Lib.hid (fun W (hW : Below w.heap.size w W) => clonei_any W ((hum.1.below (hW.mono hBB)).more (Nat.le_trans hBB hW.size)) (Nat.le_refl _) (by have := HSM.out; omega))
  obtain ⟨⟨A7, c7, rfl, -⟩, ⟨A1, c1, rfl, k1, k2, -, k3⟩⟩ := hum
  unfold maxLen at k2
  have HK3 := Lib.hid k3
  clear k3
  obtain ⟨i0, hi, hz0, hz1, hz2⟩ := info_parts info_nu
  obtain ⟨W2, hW2⟩ : ∃ W, W = (w.alloc (.cells #[.slice A7 s.mem.length c7, .slice A1 s.ths.length c1] 31)).alloc (.cells #[.slice none 0 0, .slice none 0 0] 35) := ⟨_, rfl⟩
  obtain ⟨gs, hgs⟩ : ∃ g, g = w.heap.size := ⟨_, rfl⟩
  obtain ⟨gr, hgr⟩ : ∃ g, g = w.heap.size + 1 := ⟨_, rfl⟩
  have HY := Lib.hid (show BoxC W2 gs 31 #[.slice A7 s.mem.length c7, .slice A1 s.ths.length c1] from by rw [hW2, hgs]; exact (BoxC.new w _ _).alloc _)
  have HR := Lib.hid (show BoxC W2 gr 35 #[.slice none 0 0, .slice none 0 0] from by rw [hW2, hgr]; have := BoxC.new (w.alloc (.cells #[.slice A7 s.mem.length c7, .slice A1 s.ths.length c1] 31)) 35 #[.slice none 0 0, .slice none 0 0]; rw [World.size_alloc] at this; exact this)
  have HB2 := Lib.hid (show Below w.heap.size w W2 from by rw [hW2]; exact below_al (below_al (Below.refl _ _) _) _)
  have HG := Lib.hid (show w.heap.size ≤ gr from by omega)
  go_enter Try.func22, Try.ntmps22
  go_upto_region 1 with fail
  rw [← hW2]
  (try rw [← hgr])
  (try rw [← hgs])
  clear hW2 hgr hgs
  have y0 := HY.out.cell 0 _ rfl
  have y1 := HY.out.cell 1 _ rfl
  go_wp2_with fail
  refine (HCL.out _ HB2.out).mono ?_
  rintro e V1 ⟨vm, rfl, hom, hb⟩
  obtain ⟨Am, cm, rfl⟩ := own_slice hom
  obtain ⟨m, hm⟩ : ∃ m, m = s.mem.length := ⟨_, rfl⟩
  have HM := Lib.hid hm
  have HOM := Lib.hid (show OwnI W2.heap.size V1 (.slice Am m cm) s.mem from by rw [hm]; exact hom)
  rw [← hm]
  have HB3 := Lib.hid (chain HB2.out hb)
  have HY3 := Lib.hid (HY.out.below hb HY.out.lt)
  have HR3 := Lib.hid (HR.out.below hb HR.out.lt)
  clear hom hb hm y0 y1 HCL
  go_upto_region 2 with fail
  obtain ⟨X2, hX2⟩ : ∃ W, W = V1.alloc (.cells #[.slice Am m cm, .slice none 0 0] 35) := ⟨_, rfl⟩
  obtain ⟨g3, hg3⟩ : ∃ g, g = V1.heap.size := ⟨_, rfl⟩
  have H3 := Lib.hid (show BoxC X2 g3 35 #[.slice Am m cm, .slice none 0 0] from by rw [hX2, hg3]; exact BoxC.new V1 _ _)
  have HX2 := Lib.hid (show Below V1.heap.size V1 X2 from by rw [hX2]; exact below_al (Below.refl _ _) _)
  have HG3 := Lib.hid (show V1.heap.size ≤ g3 ∧ gr ≠ g3 from by have := HR3.out.lt; omega)
  rw [← hX2]
  (try rw [← hg3])
  clear hX2 hg3
  have y0 := (HY3.out.below HX2.out HY3.out.lt).cell 0 _ rfl
  have y1 := (HY3.out.below HX2.out HY3.out.lt).cell 1 _ rfl
  go_wp2
  go_loopw [13] (fun i wr => ∃ (k : Nat) (Ak : Option Addr) (n d : Nat), k ≤ s.ths.length ∧ i = .int .i64 k ∧ n = (endK s k).length ∧ BoxC wr g3 35 #[.slice Am m cm, .slice Ak n d] ∧ wr.ownsRow V1.heap.size 3 1 (.slice Ak n d) n ((endK s k).flatMap nuC) ∧ Below V1.heap.size V1 wr) (fun i _ => s.ths.length - (intOf i).toNat)
  case atStart => exact ⟨0, none, 0, 0, Nat.zero_le _, rfl, rfl, H3.out, World.ownsRow_nil _ _ _ _, HX2.out⟩
  case round =>
    clear H3 HX2 y0 y1
    obtain ⟨k, Ak, n, d, hk, rfl, hn, hbx, hown, hB⟩ := hrel
    have HN := Lib.hid hn
    have H3 := Lib.hid hbx
    have HO := Lib.hid hown
    have HV := Lib.hid hB
    clear hn hbx hown hB
    by_cases hlt : k < s.ths.length
    · obtain ⟨b2, f2, rfl, hb2, hcm⟩ := HK3.out (by omega)
      have HBW := Lib.hid (chain HB3.out HV.out)
      obtain ⟨vr, vb, y0, y1, y2, y3, hR, hW⟩ := (hcm k hlt).below (HBW.out.mono hBB) hb2
      obtain ⟨A4, c4, rfl, q1, q2, q0, q3⟩ := hR
      obtain ⟨A5, c5, rfl, -⟩ := hW
      have hrl := HRG.out _ (List.getElem_mem hlt)
      have hkl := HKL.out k hk
      have HNX := Lib.hid (endK_next hlt)
      generalize s.ths[k] = x at *
      obtain ⟨xa, xr, xe, xb⟩ := x
      dsimp only at y0 y1 y2 y3 q1 q2 q0 q3 hrl HNX
      have HSRC := Lib.hid (fun W (hW : Below wr.heap.size wr W) => src_rw (W := W) nuC_len q0 q3 (hW.mono (Nat.le_trans hBB HBW.out.size)))
      have HQ0 := Lib.hid q0
      obtain ⟨rn, hrn⟩ : ∃ r, r = xr.length := ⟨_, rfl⟩
      have HRN := Lib.hid hrn
      obtain ⟨bn, hbn⟩ : ∃ r, r = xb.length := ⟨_, rfl⟩
      rw [← hrn] at y1 q1 hrl
      rw [← hbn] at y3
      have hn36 : n ≤ 2700 := by rw [HN.out]; have : k * 300 ≤ 9 * 300 := Nat.mul_le_mul_right _ (by omega); omega
      unfold maxLen at q2
      clear hcm q0 q3 hrn hbn hkl
      go_upto_region 5 with fail
      obtain ⟨X1, hX1⟩ : ∃ W, W = wr.alloc (.cells #[.int .i64 xa, .slice A4 rn c4, .bool xe, .slice A5 bn c5] 55) := ⟨_, rfl⟩
      obtain ⟨g5, hg5⟩ : ∃ g, g = wr.heap.size := ⟨_, rfl⟩
      have H5 := Lib.hid (show BoxC X1 g5 55 #[.int .i64 xa, .slice A4 rn c4, .bool xe, .slice A5 bn c5] from by rw [hX1, hg5]; exact BoxC.new wr _ _)
      have HX1 := Lib.hid (show Below wr.heap.size wr X1 from by rw [hX1]; exact below_al (Below.refl _ _) _)
      rw [← hX1]
      (try rw [← hg5])
      clear hX1 hg5 y0 y1 y2 y3
      have H3X := Lib.hid (H3.out.below HX1.out H3.out.lt)
      have HOX := Lib.hid (own_below HO.out HX1.out)
      have HVX := Lib.hid (chain HV.out HX1.out)
      have e0 := H3X.out.cell 0 _ rfl
      have e1 := H3X.out.cell 1 _ rfl
      have r1 := H5.out.cell 1 _ rfl
      go_wp2_with (at_builtin; refine wpList_append_rw _ rfl _ _ 22 rfl V1.heap.size 3 i0 (.int .i64 0) 1 8 Try.underlying22 hi hz0 hz1 hz2 rfl (by decide) _ n _ rfl HOX.out A4 rn c4 (xr.flatMap nuC) rfl (by rw [HRN.out]; exact fl_len nuC_len xr) (fun h => by rw [HRN.out]; exact HQ0.out h) (HSRC.out _ HX1.out) (one_nu xr) (by unfold maxLen; omega) (by omega) HVX.out.size ?_; intro v1 wz hown1 hg1; obtain ⟨Az, cz, rfl⟩ := own_slice hown1; have H3Z := Lib.hid (H3X.out.grown (by decide) HOX.out hg1); have HOZ := Lib.hid hown1; have HBZ := Lib.hid (below_append HVX.out HOX.out (Nat.le_refl _) HVX.out.size hg1); clear hown1 hg1 e0 e1 r1; have e1 := H3Z.out.cell 1 _ rfl; have f1 := H3Z.out.frozen 1)
      clear e1 f1
      go_roundw
      case rel => exact ⟨k + 1, Az, n + rn, cz, by omega, by go_num, by rw [HNX.out, List.length_append, HN.out, HRN.out], H3Z.out.set 1 _, by rw [HNX.out, List.flatMap_append]; exact own_box HOZ.out H3Z.out (by decide) 1 _, HBZ.out.setCell (p := ⟨g3, 1, none⟩) HG3.out.1 _⟩
      case measure => simp [intOf]; omega
    · obtain rfl : s.ths.length = k := by omega
      have HOE := Lib.hid (show OwnI V1.heap.size wr (.slice Ak n d) (endR s) from by have := HO.out; rw [endK_all] at this; have h2 := HN.out; rw [endK_all] at h2; unfold OwnI; rw [← h2]; exact this)
      have HNE := Lib.hid (HN.out.trans (by rw [endK_all]))
      have HOM2 := Lib.hid (own_below HOM.out HV.out)
      have HRZ := Lib.hid (HR3.out.below HV.out HR3.out.lt)
      have HBE := Lib.hid (chain HB3.out HV.out)
      have HS1 := Lib.hid HB2.out.size
      have HS2 := Lib.hid HB3.out.size
      have e0 := H3.out.cell 0 _ rfl
      have e1 := H3.out.cell 1 _ rfl
      have r0 := HRZ.out.cell 0 _ rfl
      have r1 := HRZ.out.cell 1 _ rfl
      have f0 := HRZ.out.frozen 0
      have f1 := HRZ.out.frozen 1
      obtain ⟨W9, hW9⟩ : ∃ W, W = (wr.setCell ⟨gr, 0, none⟩ (.slice Am m cm)).setCell ⟨gr, 1, none⟩ (.slice Ak n d) := ⟨_, rfl⟩
      have HR9 := Lib.hid (show BoxC W9 gr 35 #[(.slice Am m cm), (.slice Ak n d)] from by rw [hW9]; exact (HRZ.out.set 0 _).set 1 _)
      have HO8 := Lib.hid (show OwnI W2.heap.size W9 (.slice Am m cm) s.mem from by rw [hW9]; exact own_box (own_box HOM2.out HRZ.out (by decide) 0 _) (HRZ.out.set 0 _) (by decide) 1 _)
      have HO9 := Lib.hid (show OwnI V1.heap.size W9 (.slice Ak n d) (endR s) from by rw [hW9]; exact own_box (own_box HOE.out HRZ.out (by decide) 0 _) (HRZ.out.set 0 _) (by decide) 1 _)
      have HB9 := Lib.hid (show Below w.heap.size w W9 from by rw [hW9]; exact (HBE.out.setCell (p := ⟨gr, 0, none⟩) HG.out _).setCell (p := ⟨gr, 1, none⟩) HG.out _)
      have HW9 := Lib.hid hW9
      clear hW9
      go_wp2_with fail
      rw [← HW9.out]
      clear r0 r1 f0 f1
      have r0 := HR9.out.cell 0 _ rfl
      have r1 := HR9.out.cell 1 _ rfl
      have hz : Try.prog.cellsOf 35 = 2 := by kernel_rfl
      refine bodyPost_ret (v := .agg #[(.slice Am m cm), (.slice Ak n d)]) (by simp [results, Try.results22, go_sem, r0, r1, hz]) rfl ?_
      exact ⟨_, _, _, _, _, _, rfl, HM.out, HNE.out, own_base HO8.out HS1.out, own_base HO9.out HS2.out, HB9.out⟩
end Go.Proofs.Ytbgjamoflbdhoaa
namespace Go.Proofs.Ytbgjamoflbdhoaa
open Go.RowKit
set_option linter.unusedVariables false
set_option linter.unusedSimpArgs false
open CodM (St Pg rightP)
open BfM (Wr plc)
open ScM

/-- Do picks end? With what? -/
def endB (P : Pg) (wk : Bool) (l : List (Int × Bool)) : Bool := (runS P wk (beg P) l).2.2 && overB P (runS P wk (beg P) l).1
def endO (P : Pg) (wk : Bool) (l : List (Int × Bool)) : List Int × List Int := if endB P wk l then ((runS P wk (beg P) l).1.mem, endR (runS P wk (beg P) l).1) else ([], [])
def EsRet (P : Pg) (wk : Bool) (l : List (Int × Bool)) (w : World) (e : Ending) (w' : World) : Prop := ∃ A m c B n d, e = .returned (.tuple #[.agg #[.slice A m c, .slice B n d], .bool (endB P wk l)]) ∧ m = (endO P wk l).1.length ∧ n = (endO P wk l).2.length ∧ OwnI w.heap.size w' (.slice A m c) (endO P wk l).1 ∧ OwnI w.heap.size w' (.slice B n d) (endO P wk l).2 ∧ Below w.heap.size w w'
theorem own_none_i (base : Nat) (w : World) : OwnI base w (.slice none 0 0) [] := World.ownsRow_nil _ _ _ _
set_option maxHeartbeats 8000000 in
set_option maxRecDepth 100000 in
theorem ends_any {B : Nat} {v vl : Value} {P : Pg} {l : List (Int × Bool)} (wk : Bool) (w : World) (hv : PgZ B w v P) (hl : KiR B w vl l) (hBB : B ≤ w.heap.size) (hp : rightP P = true) (hn : l.length ≤ 50000) :
    Calls Try.prog 13 #[v, vl, .bool wk] w (EsRet P wk l w) := by
  have HP := Lib.hid (fun W (hW : Below w.heap.size w W) => (show PgZ W.heap.size W v P from (hv.below (hW.mono hBB)).more (Nat.le_trans hBB hW.size)))
  have HL := Lib.hid (fun W (hW : Below w.heap.size w W) => (show KiR W.heap.size W vl l from (hl.below (hW.mono hBB)).more (Nat.le_trans hBB hW.size)))
  have HOK := Lib.hid (show OkSt P (runS P wk (beg P) l).1 ∧ WideS (runS P wk (beg P) l).1 from ⟨runS_ok hp _ (beg_ok P), wide_run hp wk l hn (by decide)⟩)
  have HEB := Lib.hid (show endB P wk l = ((runS P wk (beg P) l).2.2 && overB P (runS P wk (beg P) l).1) from rfl)
  have HEO := Lib.hid (show endO P wk l = if endB P wk l then ((runS P wk (beg P) l).1.mem, endR (runS P wk (beg P) l).1) else ([], []) from rfl)
  have HRP := Lib.hid hp
  have HNN := Lib.hid hn
  clear hp hn
  obtain ⟨pi, pt, rfl, hpm, -⟩ := hv
  obtain ⟨⟨P0, d0, rfl, -⟩, ⟨P1, d1, rfl, -⟩⟩ := hpm
  obtain ⟨Al, cl, rfl, -⟩ := hl
  obtain ⟨W2, hW2⟩ : ∃ W, W = (w.alloc (.cells #[.slice P0 P.init.length d0, .slice P1 P.ths.length d1] 25)).alloc (.cells #[.slice none 0 0, .slice none 0 0] 35) := ⟨_, rfl⟩
  obtain ⟨gp, hgp⟩ : ∃ g, g = w.heap.size := ⟨_, rfl⟩
  obtain ⟨gr, hgr⟩ : ∃ g, g = w.heap.size + 1 := ⟨_, rfl⟩
  have HX := Lib.hid (show BoxC W2 gp 25 #[.slice P0 P.init.length d0, .slice P1 P.ths.length d1] from by rw [hW2, hgp]; exact (BoxC.new w _ _).alloc _)
  have HR := Lib.hid (show BoxC W2 gr 35 #[.slice none 0 0, .slice none 0 0] from by rw [hW2, hgr]; have := BoxC.new (w.alloc (.cells #[.slice P0 P.init.length d0, .slice P1 P.ths.length d1] 25)) 35 #[.slice none 0 0, .slice none 0 0]; rw [World.size_alloc] at this; exact this)
  have HB2 := Lib.hid (show Below w.heap.size w W2 from by rw [hW2]; exact below_al (below_al (Below.refl _ _) _) _)
  have HG := Lib.hid (show w.heap.size ≤ gr from by omega)
  go_enter Try.func13, Try.ntmps13
  go_upto_region 1 with fail
  rw [← hW2]
  (try rw [← hgr])
  (try rw [← hgp])
  clear hW2 hgr hgp
  have x0 := HX.out.cell 0 _ rfl
  have x1 := HX.out.cell 1 _ rfl
  go_wp2_with fail
  refine (run_any wk _ (HP.out _ HB2.out) (HL.out _ HB2.out) (Nat.le_refl _) HRP.out HNN.out).mono ?_
  rintro e V1 ⟨vm, vt, ps, rfl, hos, hb⟩
  generalize runS P wk (beg P) l = r at *
  obtain ⟨s, n, all⟩ := r
  dsimp only at hos HOK HEB HEO ⊢
  obtain ⟨Am, cm, rfl⟩ := own_slice hos.mem
  obtain ⟨Av, cv, rfl⟩ := own_slice hos.ths
  have HB3 := Lib.hid (chain HB2.out hb)
  have HX3 := Lib.hid (HX.out.below hb HX.out.lt)
  have HR3 := Lib.hid (HR.out.below hb HR.out.lt)
  have HO := Lib.hid hos
  clear hb hos x0 x1
  obtain ⟨sm, hsm⟩ : ∃ n, n = s.mem.length := ⟨_, rfl⟩
  obtain ⟨st, hst⟩ : ∃ n, n = s.ths.length := ⟨_, rfl⟩
  rw [← hsm, ← hst] at HO ⊢
  clear hsm hst
  go_upto_region 2 with fail
  obtain ⟨X2, hX2⟩ : ∃ W, W = V1.alloc (.cells #[.slice Am sm cm, .slice Av st cv] 31) := ⟨_, rfl⟩
  obtain ⟨g8, hg8⟩ : ∃ g, g = V1.heap.size := ⟨_, rfl⟩
  have H8 := Lib.hid (show BoxC X2 g8 31 #[.slice Am sm cm, .slice Av st cv] from by rw [hX2, hg8]; exact BoxC.new V1 _ _)
  have HX2 := Lib.hid (show Below V1.heap.size V1 X2 from by rw [hX2]; exact below_al (Below.refl _ _) _)
  rw [← hX2]
  (try rw [← hg8])
  clear hX2 hg8
  replace HB3 := Lib.hid (chain HB3.out HX2.out)
  replace HX3 := Lib.hid (HX3.out.below HX2.out HX3.out.lt)
  replace HR3 := Lib.hid (HR3.out.below HX2.out HR3.out.lt)
  replace HO := Lib.hid (HO.out.below HX2.out)
  have x0 := HX3.out.cell 0 _ rfl
  have x1 := HX3.out.cell 1 _ rfl
  have s0 := H8.out.cell 0 _ rfl
  have s1 := H8.out.cell 1 _ rfl
  cases all
  · have HOV := Lib.hid True.intro
    have HE1 := Lib.hid (show endB P wk l = false from by rw [HEB.out]; rfl)
    have HE2 := Lib.hid (show endO P wk l = ([], []) from by rw [HEO.out, HE1.out]; rfl)
    have r0 := HR3.out.cell 0 _ rfl
    have r1 := HR3.out.cell 1 _ rfl
    have f0 := HR3.out.frozen 0
    have f1 := HR3.out.frozen 1
    obtain ⟨W9, hW9⟩ : ∃ W, W = (X2.setCell ⟨gr, 0, none⟩ (.slice none 0 0)).setCell ⟨gr, 1, none⟩ (.slice none 0 0) := ⟨_, rfl⟩
    have HR9 := Lib.hid (show BoxC W9 gr 35 #[(.slice none 0 0), (.slice none 0 0)] from by rw [hW9]; exact (HR3.out.set 0 _).set 1 _)
    clear x0 x1 s0 s1
    have HB9 := Lib.hid (show Below w.heap.size w W9 from by rw [hW9]; exact (HB3.out.setCell (p := ⟨gr, 0, none⟩) HG.out _).setCell (p := ⟨gr, 1, none⟩) HG.out _)
    have HW9 := Lib.hid hW9
    clear hW9
    go_wp2_with fail
    rw [← HW9.out]
    clear r0 r1 f0 f1
    have r0 := HR9.out.cell 0 _ rfl
    have r1 := HR9.out.cell 1 _ rfl
    have hz : Try.prog.cellsOf 35 = 2 := by kernel_rfl
    refine bodyPost_ret (v := .tuple #[.agg #[(.slice none 0 0), (.slice none 0 0)], .bool false]) (by simp [results, Try.results13, go_sem, r0, r1, hz]) rfl ?_
    exact ⟨none, 0, 0, none, 0, 0, by rw [HE1.out], by rw [HE2.out]; rfl, by rw [HE2.out]; rfl, by rw [HE2.out]; exact own_none_i _ _, by rw [HE2.out]; exact own_none_i _ _, HB9.out⟩
  · go_wp2_with fail
    refine (over_any _ (HP.out _ HB3.out).v HO.out.sv (Nat.le_refl _) HRP.out HOK.out.1).mono ?_
    rintro e V3 ⟨rfl, hb⟩
    obtain ⟨q, hq⟩ : ∃ q, q = overB P s := ⟨_, rfl⟩
    rw [← hq]
    have HOV := Lib.hid hq.symm
    replace HB3 := Lib.hid (chain HB3.out hb)
    replace HX3 := Lib.hid (HX3.out.below hb HX3.out.lt)
    replace HR3 := Lib.hid (HR3.out.below hb HR3.out.lt)
    replace H8 := Lib.hid (H8.out.below hb H8.out.lt)
    replace HO := Lib.hid (HO.out.below hb)
    clear hq hb x0 x1 s0 s1
    have x0 := HX3.out.cell 0 _ rfl
    have x1 := HX3.out.cell 1 _ rfl
    have s0 := H8.out.cell 0 _ rfl
    have s1 := H8.out.cell 1 _ rfl
    cases q
    · have HE1 := Lib.hid (show endB P wk l = false from by rw [HEB.out]; (try rw [HOV.out]); rfl)
      have HE2 := Lib.hid (show endO P wk l = ([], []) from by rw [HEO.out, HE1.out]; rfl)
      have r0 := HR3.out.cell 0 _ rfl
      have r1 := HR3.out.cell 1 _ rfl
      have f0 := HR3.out.frozen 0
      have f1 := HR3.out.frozen 1
      obtain ⟨W9, hW9⟩ : ∃ W, W = (V3.setCell ⟨gr, 0, none⟩ (.slice none 0 0)).setCell ⟨gr, 1, none⟩ (.slice none 0 0) := ⟨_, rfl⟩
      have HR9 := Lib.hid (show BoxC W9 gr 35 #[(.slice none 0 0), (.slice none 0 0)] from by rw [hW9]; exact (HR3.out.set 0 _).set 1 _)
      clear x0 x1 s0 s1
      have HB9 := Lib.hid (show Below w.heap.size w W9 from by rw [hW9]; exact (HB3.out.setCell (p := ⟨gr, 0, none⟩) HG.out _).setCell (p := ⟨gr, 1, none⟩) HG.out _)
      have HW9 := Lib.hid hW9
      clear hW9
      go_wp2_with fail
      rw [← HW9.out]
      clear r0 r1 f0 f1
      have r0 := HR9.out.cell 0 _ rfl
      have r1 := HR9.out.cell 1 _ rfl
      have hz : Try.prog.cellsOf 35 = 2 := by kernel_rfl
      refine bodyPost_ret (v := .tuple #[.agg #[(.slice none 0 0), (.slice none 0 0)], .bool false]) (by simp [results, Try.results13, go_sem, r0, r1, hz]) rfl ?_
      exact ⟨none, 0, 0, none, 0, 0, by rw [HE1.out], by rw [HE2.out]; rfl, by rw [HE2.out]; rfl, by rw [HE2.out]; exact own_none_i _ _, by rw [HE2.out]; exact own_none_i _ _, HB9.out⟩
    · have HE1 := Lib.hid (show endB P wk l = true from by rw [HEB.out, HOV.out]; rfl)
      have HE2 := Lib.hid (show endO P wk l = (s.mem, endR s) from by rw [HEO.out, HE1.out]; rfl)
      go_wp2_with fail
      refine (end_any _ HO.out.sv (Nat.le_refl _) HOK.out.2).mono ?_
      rintro e V4 ⟨Ae, m, c, Be, n, d, rfl, hm, hn, ho1, ho2, hb⟩
      have HM := Lib.hid hm
      have HN := Lib.hid hn
      have HO1 := Lib.hid ho1
      have HO2 := Lib.hid ho2
      have HS3 := Lib.hid HB3.out.size
      replace HB3 := Lib.hid (chain HB3.out hb)
      replace HR3 := Lib.hid (HR3.out.below hb HR3.out.lt)
      clear hm hn ho1 ho2 hb x0 x1 s0 s1
      have r0 := HR3.out.cell 0 _ rfl
      have r1 := HR3.out.cell 1 _ rfl
      have f0 := HR3.out.frozen 0
      have f1 := HR3.out.frozen 1
      obtain ⟨W9, hW9⟩ : ∃ W, W = (V4.setCell ⟨gr, 0, none⟩ (.slice Ae m c)).setCell ⟨gr, 1, none⟩ (.slice Be n d) := ⟨_, rfl⟩
      have HR9 := Lib.hid (show BoxC W9 gr 35 #[(.slice Ae m c), (.slice Be n d)] from by rw [hW9]; exact (HR3.out.set 0 _).set 1 _)
      have HO8 := Lib.hid (show OwnI V3.heap.size W9 (.slice Ae m c) s.mem from by rw [hW9]; exact own_box (own_box HO1.out HR3.out (by decide) 0 _) (HR3.out.set 0 _) (by decide) 1 _)
      have HO9 := Lib.hid (show OwnI V3.heap.size W9 (.slice Be n d) (endR s) from by rw [hW9]; exact own_box (own_box HO2.out HR3.out (by decide) 0 _) (HR3.out.set 0 _) (by decide) 1 _)
      have HB9 := Lib.hid (show Below w.heap.size w W9 from by rw [hW9]; exact (HB3.out.setCell (p := ⟨gr, 0, none⟩) HG.out _).setCell (p := ⟨gr, 1, none⟩) HG.out _)
      have HW9 := Lib.hid hW9
      clear hW9
      go_wp2_with fail
      rw [← HW9.out]
      clear r0 r1 f0 f1
      have r0 := HR9.out.cell 0 _ rfl
      have r1 := HR9.out.cell 1 _ rfl
      have hz : Try.prog.cellsOf 35 = 2 := by kernel_rfl
      refine bodyPost_ret (v := .tuple #[.agg #[(.slice Ae m c), (.slice Be n d)], .bool true]) (by simp [results, Try.results13, go_sem, r0, r1, hz]) rfl ?_
      exact ⟨_, _, _, _, _, _, by rw [HE1.out], by rw [HE2.out]; exact HM.out, by rw [HE2.out]; exact HN.out, by rw [HE2.out]; exact own_base HO8.out HS3.out, by rw [HE2.out]; exact own_base HO9.out HS3.out, HB9.out⟩
end Go.Proofs.Ytbgjamoflbdhoaa
