/-
  LAYER 10: head, a live question whose answer is fixed.
-/
import Derived.Test.YtoeginglmgjojaaScPs
import Derived.Test.YtoeginglmgjojaaScPb
import Derived.Test.YtoeginglmgjojaaScPr
import Derived.Deep.RegionHeld3
import Derived.Deep.DeepCutAuto
namespace Go.Proofs.Ytoeginglmgjojaa
open Go.RowKit
set_option linter.unusedVariables false
set_option linter.unusedSimpArgs false
open CodM (St Pg rightP)
open BfM (Wr plc)
open ScM

/-- A step keeps a state as wide as it is. -/
theorem stp_wide {P : Pg} {s : Sta} (t : Int) (h : WideS s) : WideS (stp P s t) := by
  obtain ⟨h1, h2⟩ := stp_len P s t
  refine ⟨by rw [h1]; exact h.mem, by rw [h2]; exact h.ths, fun x hx => ?_⟩
  unfold stp at hx
  split at hx
  · rename_i y hh e1 e2
    obtain ⟨hk, e⟩ := List.getElem?_eq_some_iff.1 e2
    rcases List.mem_or_eq_of_mem_set hx with hx | rfl
    · exact h.regs x hx
    · have := h.regs hh (by rw [← e]; exact List.getElem_mem hk)
      exact ⟨by show (stR y s.mem hh.regs).length ≤ 300; rw [stR_len]; exact this.1, this.2⟩
  · exact h.regs x hx
theorem beg_wide {P : Pg} (h : rightP P = true) : WideS (beg P) := by
  obtain ⟨h1, h2, h3, -⟩ := right_ths h
  refine ⟨by show P.init.length ≤ 300; omega, by show (P.ths.map _).length ≤ 9; rw [List.length_map]; omega, fun x hx => ?_⟩
  have hx : x ∈ P.ths.map fun _ => begTh := hx
  obtain ⟨_, _, rfl⟩ := List.mem_map.1 hx
  exact ⟨by decide, by decide⟩
/-- The code that is asked of. -/
def hP : Pg := ⟨[5], [[⟨1, 2, 0, 7, 0⟩, ⟨5, 2, 0, 0, 0⟩, ⟨7, 2, 0, 5, 0⟩, ⟨9, 0, 0, 0, 5⟩, ⟨4, 0, 0, 9, 0⟩]]⟩
def hS : Nat → Sta
  | 0 => beg hP
  | k + 1 => stp hP (hS k) 0
theorem hP_right : rightP hP = true := by decide
theorem hS_ok : ∀ k, OkSt hP (hS k)
  | 0 => beg_ok hP
  | k + 1 => stp_ok hP_right (hS_ok k) 0
theorem hS_wide : ∀ k, WideS (hS k)
  | 0 => beg_wide hP_right
  | k + 1 => stp_wide 0 (hS_wide k)
theorem hS_at : ∀ k, k < 4 → (atS hP (hS k) 0).isSome = true
  | 0, _ => by decide
  | 1, _ => by decide
  | 2, _ => by decide
  | 3, _ => by decide
theorem hS_4 : hS 4 = ⟨[7], [⟨5, [0, 0, 5, 0], true, []⟩]⟩ := by rfl
theorem hS_n0 : (atS hP (hS 4) 0).isSome = false := by decide
theorem hS_n1 : (atS hP (hS 4) 1).isSome = false := by decide
/-- The literal code in memory. -/
theorem hP_mem (w : World) : PgZ ((((w.alloc (.cells #[.int .i64 5] 3)).alloc (.cells #[.int .i64 1, .int .i64 2, .int .i64 0, .int .i64 7, .int .i64 0, .int .i64 5, .int .i64 2, .int .i64 0, .int .i64 0, .int .i64 0, .int .i64 7, .int .i64 2, .int .i64 0, .int .i64 5, .int .i64 0, .int .i64 9, .int .i64 0, .int .i64 0, .int .i64 0, .int .i64 5, .int .i64 4, .int .i64 0, .int .i64 0, .int .i64 9, .int .i64 0] 39)).alloc (.cells #[.slice (some ⟨w.heap.size + 1, 0, none⟩) 5 5] 46)).alloc (.cells #[.slice (some ⟨w.heap.size, 0, none⟩) 1 1, .slice (some ⟨w.heap.size + 1 + 1, 0, none⟩) 1 1] 25)).heap.size ((((w.alloc (.cells #[.int .i64 5] 3)).alloc (.cells #[.int .i64 1, .int .i64 2, .int .i64 0, .int .i64 7, .int .i64 0, .int .i64 5, .int .i64 2, .int .i64 0, .int .i64 0, .int .i64 0, .int .i64 7, .int .i64 2, .int .i64 0, .int .i64 5, .int .i64 0, .int .i64 9, .int .i64 0, .int .i64 0, .int .i64 0, .int .i64 5, .int .i64 4, .int .i64 0, .int .i64 0, .int .i64 9, .int .i64 0] 39)).alloc (.cells #[.slice (some ⟨w.heap.size + 1, 0, none⟩) 5 5] 46)).alloc (.cells #[.slice (some ⟨w.heap.size, 0, none⟩) 1 1, .slice (some ⟨w.heap.size + 1 + 1, 0, none⟩) 1 1] 25)) (.agg #[.slice (some ⟨w.heap.size, 0, none⟩) 1 1, .slice (some ⟨w.heap.size + 1 + 1, 0, none⟩) 1 1]) hP := by
  have o1 := World.ownsRow_lit (base := w.heap.size) (e := 3) (size := 1) w #[.int .i64 5] 1 (Nat.le_refl _) (by decide) rfl
  have o2 := World.ownsRow_lit (base := w.heap.size) (e := 39) (size := 5) (w.alloc (.cells #[.int .i64 5] 3)) #[.int .i64 1, .int .i64 2, .int .i64 0, .int .i64 7, .int .i64 0, .int .i64 5, .int .i64 2, .int .i64 0, .int .i64 0, .int .i64 0, .int .i64 7, .int .i64 2, .int .i64 0, .int .i64 5, .int .i64 0, .int .i64 9, .int .i64 0, .int .i64 0, .int .i64 0, .int .i64 5, .int .i64 4, .int .i64 0, .int .i64 0, .int .i64 9, .int .i64 0] 5 (by simp) (by decide) rfl
  have o3 := World.ownsRow_lit (base := w.heap.size) (e := 46) (size := 1) ((w.alloc (.cells #[.int .i64 5] 3)).alloc (.cells #[.int .i64 1, .int .i64 2, .int .i64 0, .int .i64 7, .int .i64 0, .int .i64 5, .int .i64 2, .int .i64 0, .int .i64 0, .int .i64 0, .int .i64 7, .int .i64 2, .int .i64 0, .int .i64 5, .int .i64 0, .int .i64 9, .int .i64 0, .int .i64 0, .int .i64 0, .int .i64 5, .int .i64 4, .int .i64 0, .int .i64 0, .int .i64 9, .int .i64 0] 39)) #[.slice (some ⟨w.heap.size + 1, 0, none⟩) 5 5] 1 (by simp; omega) (by decide) rfl
  rw [World.size_alloc] at o2
  rw [World.size_alloc, World.size_alloc] at o3
  have o1 := own_below (own_below (own_below o1 (below_al (Below.refl _ _) (.cells #[.int .i64 1, .int .i64 2, .int .i64 0, .int .i64 7, .int .i64 0, .int .i64 5, .int .i64 2, .int .i64 0, .int .i64 0, .int .i64 0, .int .i64 7, .int .i64 2, .int .i64 0, .int .i64 5, .int .i64 0, .int .i64 9, .int .i64 0, .int .i64 0, .int .i64 0, .int .i64 5, .int .i64 4, .int .i64 0, .int .i64 0, .int .i64 9, .int .i64 0] 39))) (below_al (Below.refl _ _) (.cells #[.slice (some ⟨w.heap.size + 1, 0, none⟩) 5 5] 46))) (below_al (Below.refl _ _) (.cells #[.slice (some ⟨w.heap.size, 0, none⟩) 1 1, .slice (some ⟨w.heap.size + 1 + 1, 0, none⟩) 1 1] 25))
  have o2 := own_below (own_below o2 (below_al (Below.refl _ _) (.cells #[.slice (some ⟨w.heap.size + 1, 0, none⟩) 5 5] 46))) (below_al (Below.refl _ _) (.cells #[.slice (some ⟨w.heap.size, 0, none⟩) 1 1, .slice (some ⟨w.heap.size + 1 + 1, 0, none⟩) 1 1] 25))
  have o3 := own_below o3 (below_al (Below.refl _ _) (.cells #[.slice (some ⟨w.heap.size, 0, none⟩) 1 1, .slice (some ⟨w.heap.size + 1 + 1, 0, none⟩) 1 1] 25))
  generalize ((((w.alloc (.cells #[.int .i64 5] 3)).alloc (.cells #[.int .i64 1, .int .i64 2, .int .i64 0, .int .i64 7, .int .i64 0, .int .i64 5, .int .i64 2, .int .i64 0, .int .i64 0, .int .i64 0, .int .i64 7, .int .i64 2, .int .i64 0, .int .i64 5, .int .i64 0, .int .i64 9, .int .i64 0, .int .i64 0, .int .i64 0, .int .i64 5, .int .i64 4, .int .i64 0, .int .i64 0, .int .i64 9, .int .i64 0] 39)).alloc (.cells #[.slice (some ⟨w.heap.size + 1, 0, none⟩) 5 5] 46)).alloc (.cells #[.slice (some ⟨w.heap.size, 0, none⟩) 1 1, .slice (some ⟨w.heap.size + 1 + 1, 0, none⟩) 1 1] 25)) = W at *
  have h1 : Ints W.heap.size W (.slice (some ⟨w.heap.size, 0, none⟩) 1 1) [5] := ints_of_own (ns := [5]) o1 (Nat.le_refl _)
  refine ⟨_, _, rfl, ⟨h1, sss_of_own (ts := hP.ths) o3 (Nat.le_refl _) (fun j hj => ?_)⟩, intR_of h1 (fun n c e => by cases e)⟩
  have hj1 : j < 1 := hj
  obtain rfl : j = 0 := by omega
  exact ⟨_, rfl, sts_of_own (ss := hP.ths[0]) o2 (Nat.le_refl _)⟩
theorem hS_len1 (k : Nat) : (hS k).mem.length = 1 := (hS_ok k).mem
theorem hS_len2 (k : Nat) : (hS k).ths.length = 1 := (hS_ok k).ths
theorem OwnSt.sv {base : Nat} {w : World} {vm vt : Value} {s : Sta} {ps : List TV} (h : OwnSt base w vm vt s ps) : StaV w.heap.size w (.agg #[vm, vt]) s := ⟨_, _, rfl, h.read (Nat.le_refl _)⟩
set_option maxHeartbeats 8000000 in
set_option maxRecDepth 100000 in
theorem head_any (w : World) : Calls Try.prog 9 #[] w fun e w' => e = .returned (.bool true) ∧ Below w.heap.size w w' := by
  have HPZ := Lib.hid (hP_mem w)
  obtain ⟨W4, hW4⟩ : ∃ W, W = ((((w.alloc (.cells #[.int .i64 5] 3)).alloc (.cells #[.int .i64 1, .int .i64 2, .int .i64 0, .int .i64 7, .int .i64 0, .int .i64 5, .int .i64 2, .int .i64 0, .int .i64 0, .int .i64 0, .int .i64 7, .int .i64 2, .int .i64 0, .int .i64 5, .int .i64 0, .int .i64 9, .int .i64 0, .int .i64 0, .int .i64 0, .int .i64 5, .int .i64 4, .int .i64 0, .int .i64 0, .int .i64 9, .int .i64 0] 39)).alloc (.cells #[.slice (some ⟨w.heap.size + 1, 0, none⟩) 5 5] 46)).alloc (.cells #[.slice (some ⟨w.heap.size, 0, none⟩) 1 1, .slice (some ⟨w.heap.size + 1 + 1, 0, none⟩) 1 1] 25)) := ⟨_, rfl⟩
  have HB4 := Lib.hid (show Below w.heap.size w W4 from by rw [hW4]; exact below_al (below_al (below_al (below_al (Below.refl _ _) _) _) _) _)
  obtain ⟨g1, hg1⟩ : ∃ g, g = w.heap.size + 1 + 1 + 1 := ⟨_, rfl⟩
  have HX := Lib.hid (show BoxC W4 g1 25 #[.slice (some ⟨w.heap.size, 0, none⟩) 1 1, .slice (some ⟨w.heap.size + 1 + 1, 0, none⟩) 1 1] from by rw [hW4, hg1]; have := BoxC.new (((w.alloc (.cells #[.int .i64 5] 3)).alloc (.cells #[.int .i64 1, .int .i64 2, .int .i64 0, .int .i64 7, .int .i64 0, .int .i64 5, .int .i64 2, .int .i64 0, .int .i64 0, .int .i64 0, .int .i64 7, .int .i64 2, .int .i64 0, .int .i64 5, .int .i64 0, .int .i64 9, .int .i64 0, .int .i64 0, .int .i64 0, .int .i64 5, .int .i64 4, .int .i64 0, .int .i64 0, .int .i64 9, .int .i64 0] 39)).alloc (.cells #[.slice (some ⟨w.heap.size + 1, 0, none⟩) 5 5] 46)) 25 #[.slice (some ⟨w.heap.size, 0, none⟩) 1 1, .slice (some ⟨w.heap.size + 1 + 1, 0, none⟩) 1 1]; rw [World.size_alloc, World.size_alloc, World.size_alloc] at this; exact this)
  rw [← hW4] at HPZ
  have HP := Lib.hid (fun W (hW : Below W4.heap.size W4 W) => (HPZ.out.below hW).more hW.size)
  have HBG := Lib.hid (fun W (hW : Below W4.heap.size W4 W) => sbegin_any W (HP.out W hW) (Nat.le_refl _) hP_right)
  have HRT := Lib.hid (fun W (hW : Below W4.heap.size W4 W) (u : Value) (s : Sta) (hu : StaV W.heap.size W u s) (hw : WideS s) => sright_any W (HP.out W hW).v hu (Nat.le_refl _) hP_right hw)
  have HSTP := Lib.hid (fun W (hW : Below W4.heap.size W4 W) (u : Value) (s : Sta) (t : Int) (hu : StaV W.heap.size W u s) (hw : WideS s) (ho : OkSt hP s) => sstep_any t W (HP.out W hW).v hu (Nat.le_refl _) hP_right ho hw)
  have HM := Lib.hid (fun (W : World) (u v : Value) (ns : List Int) (h1 : IntR W.heap.size W u ns) (h2 : IntR W.heap.size W v ns) => nsame_any W h1 h2 (Nat.le_refl _))
  clear HPZ
  have x0 := HX.out.cell 0 _ rfl
  have x1 := HX.out.cell 1 _ rfl
  go_enter Try.func9, Try.ntmps9
  go_upto_region 2 with fail
  rw [← hW4]
  (try rw [← hg1])
  clear hW4 hg1
  go_wp2_with fail
  refine (HBG.out _ (Below.refl _ _)).mono ?_
  rintro e W5 ⟨vm, vt, ps, rfl, hos, hb5⟩
  have HOS := Lib.hid (show OwnSt W4.heap.size W5 vm vt (hS 0) ps from hos)
  have HB5 := Lib.hid hb5
  obtain ⟨Am, cm, rfl⟩ := own_slice (n := 1) hos.mem
  obtain ⟨Av, cv, rfl⟩ := own_slice (n := 1) hos.ths
  clear hos hb5 x0 x1 HBG
  go_upto_region 3 with fail
  obtain ⟨X0, hX0⟩ : ∃ W, W = W5.alloc (.cells #[.slice Am 1 cm, .slice Av 1 cv] 28) := ⟨_, rfl⟩
  obtain ⟨g2, hg2⟩ : ∃ g, g = W5.heap.size := ⟨_, rfl⟩
  have HL0 := Lib.hid (show Below W5.heap.size W5 X0 from by rw [hX0]; exact below_al (Below.refl _ _) _)
  have HQ0 := Lib.hid (show BoxC X0 g2 28 #[.slice Am 1 cm, .slice Av 1 cv] from by rw [hX0, hg2]; exact BoxC.new W5 _ _)
  have HG2 := Lib.hid (show W5.heap.size ≤ g2 from by omega)
  rw [← hX0]
  (try rw [← hg2])
  clear hX0 hg2
  replace HOS := Lib.hid (HOS.out.below HL0.out)
  have HB0 := Lib.hid (chain HB5.out HL0.out)
  obtain ⟨gv, cv', cur, hev, hgv, hbv, z0, z1, z2, z3⟩ := HOS.out.row (k := 0) (by rw [HOS.out.len]; decide)
  injection hev with hev1 hev3 hev2
  clear hev3
  subst hev1 hev2
  have HE0 := Lib.hid (HOS.out.each _ (List.getElem_mem (show 0 < ps.length by rw [HOS.out.len]; decide)))
  have HPT := Lib.hid (HOS.out.at (k := 0) (by rw [HOS.out.len]; decide) (by decide))
  obtain ⟨vr, hvr⟩ : ∃ v, v = (ps[0]'(by rw [HOS.out.len]; decide)).vr := ⟨_, rfl⟩
  rw [← hvr] at z1 HE0
  have hvr4 : ∃ A c, vr = .slice A 4 c := by
    have e := HE0.out.1
    rw [HPT.out] at e
    exact own_slice (n := 4) e
  obtain ⟨Ar, cr, rfl⟩ := hvr4
  have HZ1 := Lib.hid z1
  clear hvr HPT HE0 z0 z1 z2 z3 hbv hgv
  have x0 := (HX.out.below HB0.out HX.out.lt).cell 0 _ rfl
  have x1 := (HX.out.below HB0.out HX.out.lt).cell 1 _ rfl
  have y0 := HQ0.out.cell 0 _ rfl
  have y1 := HQ0.out.cell 1 _ rfl
  have z1 := HZ1.out
  go_wp2_with fail
  refine (HRT.out _ HB0.out _ _ HOS.out.sv (hS_wide 0)).mono ?_
  rintro e X1 ⟨d, rfl, hd, hb⟩
  obtain rfl : d = true := hd.2 (hS_ok 0)
  have HB1 := Lib.hid (chain HB0.out hb)
  have HL1 := Lib.hid hb
  clear hd hb x0 x1 y0 y1 z1
  have x0 := (HX.out.below HB1.out HX.out.lt).cell 0 _ rfl
  have x1 := (HX.out.below HB1.out HX.out.lt).cell 1 _ rfl
  go_wp2_with fail
  refine (HRT.out _ HB1.out _ ⟨[], []⟩ ⟨_, _, rfl, Rw.nil _ _, none, 0, rfl, Nat.le_refl _, by decide, fun _ => ⟨rfl, rfl⟩, fun k => absurd k (by simp)⟩ ⟨by decide, by decide, fun x hx => by cases hx⟩).mono ?_
  rintro e X2 ⟨d, rfl, hd, hb⟩
  obtain rfl : d = false := by
    cases d
    · rfl
    · exact absurd (hd.1 rfl).mem (by decide)
  have HB2 := Lib.hid (chain HB1.out hb)
  have HL2 := Lib.hid (chain HL1.out hb)
  clear hd hb x0 x1 HL1 HB1
  replace HOS := Lib.hid (HOS.out.below HL2.out)
  replace HQ0 := Lib.hid (HQ0.out.below HL2.out HQ0.out.lt)
  have HBW := Lib.hid (chain HL0.out HL2.out)
  clear HL0 HL2 HB2 HB0 HZ1
  go_wp2
  go_loopw [3] (fun i wr => ∃ (k : Nat) (Am : Option Addr) (cm : Nat) (Av : Option Addr) (cv : Nat) (ps : List TV), k ≤ 4 ∧ i = .int .i64 k ∧ BoxC wr g2 28 #[.slice Am 1 cm, .slice Av 1 cv] ∧ OwnSt W4.heap.size wr (.slice Am 1 cm) (.slice Av 1 cv) (hS k) ps ∧ Below W5.heap.size W5 wr) (fun i _ => 4 - (intOf i).toNat)
  case atStart => exact ⟨0, _, _, _, _, ps, Nat.zero_le _, rfl, HQ0.out, HOS.out, HBW.out⟩
  case round =>
    clear HQ0 HOS HBW
    obtain ⟨k, Am, cm, Av, cv, ps, hk, rfl, hq, hos, hB⟩ := hrel
    have HQ := Lib.hid hq
    have HOS := Lib.hid hos
    have HB := Lib.hid hB
    have HBF := Lib.hid (chain HB5.out hB)
    clear hq hos hB
    have x0 := (HX.out.below HBF.out HX.out.lt).cell 0 _ rfl
    have x1 := (HX.out.below HBF.out HX.out.lt).cell 1 _ rfl
    have y0 := HQ.out.cell 0 _ rfl
    have y1 := HQ.out.cell 1 _ rfl
    by_cases hlt : k < 4
    · have HAT := Lib.hid (hS_at k hlt)
      go_wp2_with fail
      refine (HSTP.out _ HBF.out _ _ 0 HOS.out.sv (hS_wide k) (hS_ok k)).mono ?_
      rintro e X1 ⟨vm, vt, ps', rfl, hos, hb⟩
      rw [HAT.out]
      have HO1 := Lib.hid (show OwnSt wr.heap.size X1 vm vt (hS (k + 1)) ps' from hos)
      have hmt : (∃ A c, vm = .slice A 1 c) ∧ (∃ A c, vt = .slice A 1 c) := by
        have e1 := HO1.out.mem
        have e2 := HO1.out.ths
        unfold OwnI at e1
        rw [hS_len1] at e1
        rw [hS_len2] at e2
        exact ⟨own_slice e1, own_slice e2⟩
      obtain ⟨⟨Am', cm', rfl⟩, ⟨Av', cv', rfl⟩⟩ := hmt
      have HB1 := Lib.hid hb
      clear hos hb x0 x1 y0 y1
      go_upto_region 9 with fail
      obtain ⟨X2, hX2⟩ : ∃ W, W = X1.alloc (.cells #[.slice Am' 1 cm', .slice Av' 1 cv'] 28) := ⟨_, rfl⟩
      obtain ⟨g4, hg4⟩ : ∃ g, g = X1.heap.size := ⟨_, rfl⟩
      have HL2 := Lib.hid (show Below X1.heap.size X1 X2 from by rw [hX2]; exact below_al (Below.refl _ _) _)
      have HQ4 := Lib.hid (show BoxC X2 g4 28 #[.slice Am' 1 cm', .slice Av' 1 cv'] from by rw [hX2, hg4]; exact BoxC.new X1 _ _)
      rw [← hX2]
      (try rw [← hg4])
      clear hX2 hg4
      have HLL := Lib.hid (chain HB1.out HL2.out)
      have HQ2 := Lib.hid (HQ.out.below HLL.out HQ.out.lt)
      have HO2 := Lib.hid (HO1.out.below HL2.out)
      have y0 := HQ4.out.cell 0 _ rfl
      have y1 := HQ4.out.cell 1 _ rfl
      have q0 := HQ2.out.cell 0 _ rfl
      have q1 := HQ2.out.cell 1 _ rfl
      have f0 := HQ2.out.frozen 0
      have f1 := HQ2.out.frozen 1
      have HSZ := Lib.hid (show W4.heap.size ≤ wr.heap.size from HBF.out.size)
      go_wp2_with fail
      clear y0 y1 q0 q1 f0 f1
      go_roundw
      case rel => exact ⟨k + 1, _, _, _, _, _, by omega, by go_num, (HQ2.out.set 0 _).set 1 _, ((HO2.out.base HSZ.out).box HQ2.out (by decide) (by decide) (by decide) 0 _).box (HQ2.out.set 0 _) (by decide) (by decide) (by decide) 1 _, ((chain HB.out HLL.out).setCell (p := ⟨g2, 0, none⟩) HG2.out _).setCell (p := ⟨g2, 1, none⟩) HG2.out _⟩
      case measure => simp [intOf]; omega
    · obtain rfl : k = 4 := by omega
      have HN0 := Lib.hid hS_n0
      have HN1 := Lib.hid hS_n1
      go_wp2_with fail
      refine (HSTP.out _ HBF.out _ _ 0 HOS.out.sv (hS_wide 4) (hS_ok 4)).mono ?_
      rintro e X1 ⟨vm, vt, ps', rfl, hos, hb⟩
      rw [HN0.out]
      obtain ⟨A6, c6, rfl⟩ := own_slice hos.mem
      obtain ⟨A7, c7, rfl⟩ := own_slice hos.ths
      have HB1 := Lib.hid hb
      clear hos hb x0 x1 y0 y1
      go_upto_region 13 with fail
      have HL2 := Lib.hid (below_al HB1.out (.cells #[.slice A6 (stp hP (hS 4) 0).mem.length c6, .slice A7 (stp hP (hS 4) 0).ths.length c7] 28))
      obtain ⟨X2, hX2⟩ : ∃ W, W = X1.alloc (.cells #[.slice A6 (stp hP (hS 4) 0).mem.length c6, .slice A7 (stp hP (hS 4) 0).ths.length c7] 28) := ⟨_, rfl⟩
      rw [← hX2] at HL2 ⊢
      clear hX2 HB1
      have HF2 := Lib.hid (chain HBF.out HL2.out)
      have x0 := (HX.out.below HF2.out HX.out.lt).cell 0 _ rfl
      have x1 := (HX.out.below HF2.out HX.out.lt).cell 1 _ rfl
      have y0 := (HQ.out.below HL2.out HQ.out.lt).cell 0 _ rfl
      have y1 := (HQ.out.below HL2.out HQ.out.lt).cell 1 _ rfl
      go_wp2_with fail
      refine (HSTP.out _ HF2.out _ _ 1 (HOS.out.below HL2.out).sv (hS_wide 4) (hS_ok 4)).mono ?_
      rintro e X3 ⟨vm, vt, ps'', rfl, hos, hb⟩
      rw [HN1.out]
      obtain ⟨A8, c8, rfl⟩ := own_slice hos.mem
      obtain ⟨A9, c9, rfl⟩ := own_slice hos.ths
      have HB3 := Lib.hid hb
      clear hos hb x0 x1 y0 y1
      go_upto_region 14 with fail
      have HL4 := Lib.hid (chain HL2.out (below_al HB3.out (.cells #[.slice A8 (stp hP (hS 4) 1).mem.length c8, .slice A9 (stp hP (hS 4) 1).ths.length c9] 28)))
      obtain ⟨X4, hX4⟩ : ∃ W, W = X3.alloc (.cells #[.slice A8 (stp hP (hS 4) 1).mem.length c8, .slice A9 (stp hP (hS 4) 1).ths.length c9] 28) := ⟨_, rfl⟩
      rw [← hX4] at HL4 ⊢
      clear hX4 HB3
      replace HOS := Lib.hid (HOS.out.below HL4.out)
      replace HQ := Lib.hid (HQ.out.below HL4.out HQ.out.lt)
      have HF4 := Lib.hid (chain HBF.out HL4.out)
      have HPL := Lib.hid (show 0 < ps.length by rw [HOS.out.len, hS_len2]; decide)
      obtain ⟨gv, cv', cur, hev, hgv, hbv, z0, z1, z2, z3⟩ := HOS.out.row HPL.out
      rw [hS_len2] at hev
      injection hev with hev1 hev3 hev2
      clear hev3
      subst hev1 hev2
      have HPT := Lib.hid (HOS.out.at HPL.out (by rw [hS_len2]; decide))
      have hth : (ps[0]'HPL.out).t = ⟨5, [0, 0, 5, 0], true, []⟩ := by rw [HPT.out]; simp [hS_4]
      have HE0 := Lib.hid (HOS.out.each _ (List.getElem_mem HPL.out)).1
      obtain ⟨vr, hvr⟩ : ∃ v, v = (ps[0]'HPL.out).vr := ⟨_, rfl⟩
      rw [← hvr, hth] at HE0
      rw [← hvr] at z1
      rw [hth] at z0 z2
      dsimp only at z0 z2 HE0
      obtain ⟨Ar, cr, rfl⟩ := own_slice (n := 4) HE0.out
      have HMM := Lib.hid (show IntR X4.heap.size X4 (.slice Am 1 cm) [7] from by
        have e := (HOS.out.read (Nat.le_refl _)).1
        rwa [hS_4] at e)
      have HRR := Lib.hid (show IntR X4.heap.size X4 (.slice Ar 4 cr) [0, 0, 5, 0] from Rw.own HE0.out (Nat.le_refl _))
      have HZ0 := Lib.hid z0
      have HZ1 := Lib.hid z1
      have HZ2 := Lib.hid z2
      clear hvr hth HPT HE0 z0 z1 z2 z3 hgv hbv
      have y0 := HQ.out.cell 0 _ rfl
      have HA1 := Lib.hid (below_al (Below.refl X4.heap.size X4) (.cells #[.int .i64 7] 3))
      have HI1 := Lib.hid (show IntR (X4.alloc (.cells #[.int .i64 7] 3)).heap.size (X4.alloc (.cells #[.int .i64 7] 3)) (.slice (some ⟨X4.heap.size, 0, none⟩) 1 1) [7] from Rw.own (World.ownsRow_lit (base := 0) (e := 3) (size := 1) X4 #[.int .i64 7] 1 (Nat.zero_le _) (by decide) rfl) (Nat.le_refl _))
      go_wp2_with fail
      refine (HM.out _ _ _ [7] ((HMM.out.below HA1.out).more HA1.out.size) HI1.out).mono ?_
      rintro e X5 ⟨rfl, hb⟩
      have HL5 := Lib.hid (chain HA1.out hb)
      clear hb y0 HA1 HI1
      have y1 := (HQ.out.below HL5.out HQ.out.lt).cell 1 _ rfl
      have z0 := kc HL5.out HZ0.out
      have z1 := kc HL5.out HZ1.out
      have z2 := kc HL5.out HZ2.out
      have l1 := lt_of_cell z1
      have HA2 := Lib.hid (below_al (Below.refl X5.heap.size X5) (.cells #[.int .i64 0, .int .i64 0, .int .i64 5, .int .i64 0] 3))
      have HI2 := Lib.hid (show IntR (X5.alloc (.cells #[.int .i64 0, .int .i64 0, .int .i64 5, .int .i64 0] 3)).heap.size (X5.alloc (.cells #[.int .i64 0, .int .i64 0, .int .i64 5, .int .i64 0] 3)) (.slice (some ⟨X5.heap.size, 0, none⟩) 4 4) [0, 0, 5, 0] from Rw.own (World.ownsRow_lit (base := 0) (e := 3) (size := 1) X5 #[.int .i64 0, .int .i64 0, .int .i64 5, .int .i64 0] 4 (Nat.zero_le _) (by decide) rfl) (Nat.le_refl _))
      go_wp2_with fail
      refine (HM.out _ _ _ [0, 0, 5, 0] ((HRR.out.below (chain HL5.out HA2.out)).more (chain HL5.out HA2.out).size) HI2.out).mono ?_
      rintro e X6 ⟨rfl, hb⟩
      clear z0 z1 z2 y1 l1
      go_wp2
      go_ret
      exact ⟨rfl, chain HB4.out (chain HF4.out (chain (chain HL5.out HA2.out) hb))⟩
end Go.Proofs.Ytoeginglmgjojaa
