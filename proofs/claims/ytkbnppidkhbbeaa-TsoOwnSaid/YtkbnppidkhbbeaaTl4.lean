/-
  LAYER 11: the walk of TsoOwn.
-/
import Derived.Test.YtkbnppidkhbbeaaTsH
import Derived.Test.YtkbnppidkhbbeaaTsG
import Derived.Test.YtkbnppidkhbbeaaScSt
import Derived.Test.YtkbnppidkhbbeaaTsV
import Derived.Test.YtkbnppidkhbbeaaTl1
import Derived.Deep.RegionHeld3
import Derived.Deep.DeepCutAuto
namespace Go.Proofs.Ytkbnppidkhbbeaa
open Go.RowKit
set_option linter.unusedVariables false
set_option linter.unusedSimpArgs false
open CodM (St Pg rightP hReg hLoc)
open BfM (Wr plc)
open ScM

def OwR (P : Pg) (s : Sta) (k n B : Nat) (W2 : World) (g10 g11 : Nat) (iv : Value) (wr : World) : Prop := ∃ (i : Nat) (S : Sta) (A4 : Option Addr) (c4 : Nat) (B4 : Option Addr) (e4 : Nat) (A6 : Option Addr) (c6 : Nat) (B6 : Option Addr) (e6 : Nat) (psb : List TV), i ≤ n ∧ iv = .int .i64 i ∧ OkSt P S ∧ WideN (300 + i) S ∧
  BoxC wr g10 28 #[.slice A4 s.mem.length c4, .slice B4 s.ths.length e4] ∧ AnyS B W2.heap.size wr (.slice A4 s.mem.length c4) (.slice B4 s.ths.length e4) S ∧
  BoxC wr g11 28 #[.slice A6 s.mem.length c6, .slice B6 s.ths.length e6] ∧ OwnSt W2.heap.size wr (.slice A6 s.mem.length c6) (.slice B6 s.ths.length e6) (flu S (k : Int)) psb ∧ Below W2.heap.size W2 wr
set_option maxHeartbeats 8000000 in
set_option maxRecDepth 100000 in
theorem tsoown_any {B : Nat} {v u : Value} {P : Pg} {s : Sta} (t : Int) {vd : Value} {ds : List Bool} (w : World) (hv : PgZ B w v P) (hu : StaV B w u s) (hds : BoR B w vd ds) (hBB : B ≤ w.heap.size) :
    Calls Try.prog 5 #[v, u, .int .i64 t, vd] w fun e w' => e = .returned (.bool true) ∧ Below w.heap.size w w' := by
  obtain ⟨Ad, cd, rfl, hd1, hd2, hd0, hd3⟩ := hds
  have HD := Lib.hid (bo_at (c := cd) hd3)
  unfold maxLen at hd2
  have HDR := Lib.hid (fun (W : World) (hW : Below w.heap.size w W) (i : Nat) (hi : i < ds.length) => show ∃ b f, Ad = some ⟨b, f, none⟩ ∧ W.cell? ⟨b, f + i, none⟩ = some (.bool ds[i]) from by obtain ⟨b, f, e, hb, hc⟩ := HD.out (by omega); exact ⟨b, f, e, ((hW.mono hBB).cell (p := ⟨b, f + i, none⟩) hb).trans (hc i hi)⟩)
  clear hd0 hd3
  obtain ⟨pi, pt, rfl, hpm, hpi⟩ := hv
  obtain ⟨um, ut, rfl, hum⟩ := hu
  have HPM := Lib.hid hpm
  have HPI := Lib.hid hpi
  have HUM := Lib.hid hum
  obtain ⟨⟨P0, d0, rfl, -⟩, ⟨P1, d1, rfl, l1, l2, l3⟩⟩ := hpm
  obtain ⟨⟨A7, c7, rfl, m1, m2, m0, m3⟩, ⟨A1, c1, rfl, k1, k2, k0, k3⟩⟩ := hum
  clear hpi
  unfold maxLen at l2 m2 k2
  have HL3 := Lib.hid l3
  have HM3 := Lib.hid m3
  have HK3 := Lib.hid k3
  clear l3 m3 k3 m0 k0
  obtain ⟨W2, hW2⟩ : ∃ W, W = ((w.alloc (.cells #[.slice P0 P.init.length d0, .slice P1 P.ths.length d1] 25)).alloc (.cells #[.slice A7 s.mem.length c7, .slice A1 s.ths.length c1] 28)) := ⟨_, rfl⟩
  obtain ⟨gp, hgp⟩ : ∃ g, g = w.heap.size := ⟨_, rfl⟩
  obtain ⟨gs, hgs⟩ : ∃ g, g = w.heap.size + 1 := ⟨_, rfl⟩
  have HX := Lib.hid (show BoxC W2 gp 25 #[.slice P0 P.init.length d0, .slice P1 P.ths.length d1] from by rw [hW2, hgp]; exact (BoxC.new w _ _).alloc _)
  have HY := Lib.hid (show BoxC W2 gs 28 #[.slice A7 s.mem.length c7, .slice A1 s.ths.length c1] from by rw [hW2, hgs]; have := BoxC.new (w.alloc (.cells #[.slice P0 P.init.length d0, .slice P1 P.ths.length d1] 25)) 28 #[.slice A7 s.mem.length c7, .slice A1 s.ths.length c1]; rw [World.size_alloc] at this; exact this)
  have HB2 := Lib.hid (show Below w.heap.size w W2 from by rw [hW2]; exact below_al (below_al (Below.refl _ _) _) _)
  have HPZ := Lib.hid (fun W (hW : Below W2.heap.size W2 W) => show PgZ W.heap.size W (.agg #[.slice P0 P.init.length d0, .slice P1 P.ths.length d1]) P from ⟨_, _, rfl, (HPM.out.below ((chain HB2.out hW).mono hBB)).more (Nat.le_trans hBB (chain HB2.out hW).size), (HPI.out.below ((chain HB2.out hW).mono hBB)).more (Nat.le_trans hBB (chain HB2.out hW).size)⟩)
  have HSV := Lib.hid (fun W (hW : Below W2.heap.size W2 W) => show StaV W.heap.size W (.agg #[.slice A7 s.mem.length c7, .slice A1 s.ths.length c1]) s from ⟨_, _, rfl, (HUM.out.below ((chain HB2.out hW).mono hBB)).more (Nat.le_trans hBB (chain HB2.out hW).size)⟩)
  have HBW := Lib.hid (Nat.le_trans hBB HB2.out.size)
  have HL := Lib.hid (Below.refl W2.heap.size W2)
  go_enter Try.func5, Try.ntmps5
  go_upto_region 1 with fail
  rw [← hW2]
  (try rw [← hgs])
  (try rw [← hgp])
  clear hW2 hgs hgp
  go_wp2_with fail
  refine (thead_any _).mono ?_
  rintro e V1 ⟨rfl, hb⟩
  have HST := Lib.hid hb
  replace HL := Lib.hid (chain HL.out hb)
  clear hb 
  have x0 := (HX.out.below HL.out HX.out.lt).cell 0 _ rfl
  have x1 := (HX.out.below HL.out HX.out.lt).cell 1 _ rfl
  have y0 := (HY.out.below HL.out HY.out.lt).cell 0 _ rfl
  have y1 := (HY.out.below HL.out HY.out.lt).cell 1 _ rfl
  go_wp2_with fail
  refine (tgreat_any _ (HPZ.out _ HL.out).v (HSV.out _ HL.out) (Nat.le_refl _)).mono ?_
  rintro e V2 ⟨gb, rfl, hg, hb⟩
  have HST := Lib.hid hb
  replace HL := Lib.hid (chain HL.out hb)
  clear hb x0 x1 y0 y1
  cases gb
  case true =>
    go_wp2
    go_ret
    exact ⟨rfl, chain HB2.out HL.out⟩
  have HRP := Lib.hid (hg rfl).1
  have HWN := Lib.hid (hg rfl).2.1
  have HOK := Lib.hid (hg rfl).2.2
  clear hg
  have y0 := (HY.out.below HL.out HY.out.lt).cell 0 _ rfl
  have y1 := (HY.out.below HL.out HY.out.lt).cell 1 _ rfl
  by_cases h0 : t < 0
  · skip
    go_wp2
    go_ret
    exact ⟨rfl, chain HB2.out HL.out⟩
  by_cases h1 : (s.ths.length : Int) ≤ t
  · skip
    go_wp2
    go_ret
    exact ⟨rfl, chain HB2.out HL.out⟩
  by_cases h2 : 60 < ds.length
  · skip
    go_wp2
    go_ret
    exact ⟨rfl, chain HB2.out HL.out⟩
  obtain ⟨k, rfl⟩ : ∃ k : Nat, t = k := ⟨t.toNat, by omega⟩
  have hks : k < s.ths.length := by omega
  have HKS := Lib.hid hks
  go_upto_region 5 with fail
  obtain ⟨X10, hX⟩ : ∃ W, W = V2.alloc (.cells #[.slice A7 s.mem.length c7, .slice A1 s.ths.length c1] 28) := ⟨_, rfl⟩
  obtain ⟨g10, hg⟩ : ∃ g, g = V2.heap.size := ⟨_, rfl⟩
  replace HST := Lib.hid (show Below V2.heap.size V2 X10 from by rw [hX]; exact below_al (Below.refl _ _) _)
  have HQA := Lib.hid (show BoxC X10 g10 28 #[.slice A7 s.mem.length c7, .slice A1 s.ths.length c1] from by rw [hX, hg]; exact BoxC.new V2 _ _)
  have HG10 := Lib.hid (show W2.heap.size ≤ g10 from by rw [hg]; exact HL.out.size)
  rw [← hX]
  (try rw [← hg])
  clear hX hg y0 y1
  replace HL := Lib.hid (chain HL.out HST.out)
  have HSZX := Lib.hid HL.out.size
  have HSI := Lib.hid (show AnyS B W2.heap.size X10 (.slice A7 s.mem.length c7) (.slice A1 s.ths.length c1) s from .inl (HUM.out.below ((chain HB2.out HL.out).mono hBB)))
  have x0 := (HX.out.below HL.out HX.out.lt).cell 0 _ rfl
  have x1 := (HX.out.below HL.out HX.out.lt).cell 1 _ rfl
  have y0 := (HY.out.below HL.out HY.out.lt).cell 0 _ rfl
  have y1 := (HY.out.below HL.out HY.out.lt).cell 1 _ rfl
  go_wp2_with fail
  refine (tflush_any (k : Int) _ (HPZ.out _ HL.out).v (HSV.out _ HL.out) (Nat.le_refl _) HRP.out HOK.out (HWN.out.more (by decide))).mono ?_
  rintro e V3 ⟨vm, vt, ps11, rfl, hos, hb⟩
  have HST := Lib.hid hb
  replace HL := Lib.hid (chain HL.out hb)
  clear hb x0 x1 y0 y1
  
  have HO11 := Lib.hid (show OwnSt _ V3 vm vt (flu s (k : Int)) ps11 from hos)
  obtain ⟨A11, c11, rfl⟩ := own_slice (n := s.mem.length) (show V3.ownsRow _ _ 1 vm s.mem.length _ from by have e := HO11.out.mem; unfold OwnI at e; rwa [show (flu s (k : Int)).mem.length = s.mem.length from (flu_len (k : Int) HOK.out).1] at e)
  obtain ⟨B11, e11, rfl⟩ := own_slice (n := s.ths.length) (show V3.ownsRow _ _ 4 vt s.ths.length _ from by have e := HO11.out.ths; rwa [show (flu s (k : Int)).ths.length = s.ths.length from (flu_len (k : Int) HOK.out).2] at e)
  clear hos
  go_upto_region 6 with fail
  obtain ⟨X11, hX⟩ : ∃ W, W = V3.alloc (.cells #[.slice A11 s.mem.length c11, .slice B11 s.ths.length e11] 28) := ⟨_, rfl⟩
  obtain ⟨g11, hg⟩ : ∃ g, g = V3.heap.size := ⟨_, rfl⟩
  have HST2 := Lib.hid (show Below V3.heap.size V3 X11 from by rw [hX]; exact below_al (Below.refl _ _) _)
  have HQ11 := Lib.hid (show BoxC X11 g11 28 #[.slice A11 s.mem.length c11, .slice B11 s.ths.length e11] from by rw [hX, hg]; exact BoxC.new V3 _ _)
  have HG11 := Lib.hid (show W2.heap.size ≤ g11 from by rw [hg]; exact HL.out.size)
  have HQG := Lib.hid (show g10 < g11 from by rw [hg]; exact Nat.lt_of_lt_of_le HQA.out.lt HST.out.size)
  rw [← hX]
  (try rw [← hg])
  clear hX hg
  replace HL := Lib.hid (chain HL.out HST2.out)
  replace HO11 := Lib.hid (HO11.out.below HST2.out)
  replace HST := Lib.hid (chain HST.out HST2.out)
  clear HST2
  have HXX := Lib.hid (show Below X10.heap.size X10 X11 from HST.out)
  replace HSI := Lib.hid (HSI.out.below HXX.out (Nat.le_trans HBW.out (Nat.le_trans HG10.out (Nat.le_of_lt HQA.out.lt))))
  replace HQA := Lib.hid (HQA.out.below HXX.out HQA.out.lt)
  have HNE := Lib.hid (show g10 ≠ g11 from by have := HQG.out; omega)
  have x0 := (HX.out.below HL.out HX.out.lt).cell 0 _ rfl
  have x1 := (HX.out.below HL.out HX.out.lt).cell 1 _ rfl
  have b0 := HQ11.out.cell 0 _ rfl
  have b1 := HQ11.out.cell 1 _ rfl
  go_wp2_with fail
  refine (rright_any _ (HPZ.out _ HL.out).v HO11.out.sv (Nat.le_refl _)).mono ?_
  rintro e V9 ⟨d, rfl, hd, hb⟩
  obtain rfl : d = true := hd.2 (flu_ok _ HOK.out)
  replace HST := Lib.hid hb
  have HSZ := Lib.hid (show B ≤ X11.heap.size from Nat.le_trans HBW.out HL.out.size)
  replace HL := Lib.hid (chain HL.out hb)
  replace HSI := Lib.hid (HSI.out.below hb HSZ.out)
  replace HQA := Lib.hid (HQA.out.below hb HQA.out.lt)
  replace HQ11 := Lib.hid (HQ11.out.below hb HQ11.out.lt)
  replace HO11 := Lib.hid (HO11.out.below hb)
  clear hd hb x0 x1 b0 b1 HST HSZ HQG HXX
  go_wp2
  go_loopw [12] (fun i wr => OwR P s k ds.length B W2 g10 g11 i wr) (fun i _ => ds.length - (intOf i).toNat)
  case atStart => exact ⟨0, s, _, _, _, _, _, _, _, _, ps11, Nat.zero_le _, rfl, HOK.out, HWN.out, HQA.out, HSI.out, HQ11.out, HO11.out.base HSZX.out, HL.out⟩
  case round =>
    clear HQA HSI HQ11 HO11 HL
    obtain ⟨i, S, A4, c4, B4, e4, A6, c6, B6, e6, psb, hi, rfl, hok, hwn, hqa, hsi, hqb, hob, hl⟩ := hrel
    have HOS := Lib.hid hok
    have HWA := Lib.hid hwn
    have HQA := Lib.hid hqa
    have HSI := Lib.hid hsi
    have HQB := Lib.hid hqb
    have HOB := Lib.hid hob
    have HL := Lib.hid hl
    have HSZ := Lib.hid (show B ≤ wr.heap.size from Nat.le_trans HBW.out hl.size)
    have HLS := Lib.hid (show S.mem.length = s.mem.length ∧ S.ths.length = s.ths.length from ⟨hok.mem.trans HOK.out.mem.symm, hok.ths.trans HOK.out.ths.symm⟩)
    have HFS := Lib.hid (show OkSt P (flu S (k : Int)) ∧ WideS (flu S (k : Int)) from ⟨flu_ok _ hok, flu_wide _ (hwn.more (by omega))⟩)
    clear hok hwn hqa hsi hqb hob hl
    have a0 := HQA.out.cell 0 _ rfl
    have a1 := HQA.out.cell 1 _ rfl
    have b0 := HQB.out.cell 0 _ rfl
    have b1 := HQB.out.cell 1 _ rfl
    have x0 := (HX.out.below HL.out HX.out.lt).cell 0 _ rfl
    have x1 := (HX.out.below HL.out HX.out.lt).cell 1 _ rfl
    by_cases hlt : i < ds.length
    · have hdr := HDR.out wr (chain HB2.out HL.out) i hlt
      obtain ⟨bd, fd, hD, z0⟩ := hdr
      subst hD
      obtain ⟨d, hd⟩ : ∃ d, d = ds[i] := ⟨_, rfl⟩
      rw [← hd] at z0
      have HDD := Lib.hid hd
      clear hd
      go_upto_region 11 with fail
      go_cut [13, 14] (fun vb vi wx => ∃ (g : Nat) (A : Option Addr) (c : Nat) (B : Option Addr) (e : Nat) (ps : List TV), vb = .pointer (some ⟨g, 0, none⟩) ∧ vi = .bool ((tst P S (k : Int) d).isSome) ∧ BoxC wx g 28 #[.slice A (s.mem.length) c, .slice B (s.ths.length) e] ∧ OwnSt wr.heap.size wx (.slice A (s.mem.length) c) (.slice B (s.ths.length) e) ((tst P S (k : Int) d).getD S) ps ∧ Below wr.heap.size wr wx ∧ wr.heap.size ≤ g)
      case first =>
        refine wp_region_held_drew (S := (fun w' => (w'.cell? ⟨gp, 0, none⟩ = some (.slice P0 P.init.length d0) ∧ w'.cell? ⟨gp, 1, none⟩ = some (.slice P1 P.ths.length d1) ∧ w'.cell? ⟨g10, 0, none⟩ = some (.slice A4 s.mem.length c4) ∧ w'.cell? ⟨g10, 1, none⟩ = some (.slice B4 s.ths.length e4) ∧ w'.cell? ⟨bd, fd + i, none⟩ = some (.bool d) ∧ True) ∧ Below wr.heap.size wr w')) (by kernel_rfl) ⟨⟨x0, x1, a0, a1, z0, trivial⟩, below_drewN (Below.refl _ _) 1⟩ (fun hHeld => ?_)
        obtain ⟨Xs, hXs⟩ : ∃ W, W = wr.drew := ⟨_, rfl⟩
        have HXs := Lib.hid (show Below wr.heap.size wr Xs from by rw [hXs]; exact below_drewN (Below.refl _ _) 1)
        rw [← hXs] at hHeld ⊢
        clear hXs
        refine wpAnyH_take (i := 0) (v := ?_) rfl (by kernel_rfl) (by kernel_rfl) (by kernel_rfl) (fun _ _ _ h => h) (Or.inl ⟨by rfl, ?_⟩) (by assumption) ?_
        rotate_left
        · intro w hSw; (try dsimp only at hSw); go_simp; (try with_reducible rfl)
        (try simp only [Act.put, List.getElem_toArray, List.getElem_cons_zero, List.getElem_cons_succ, Array.getInternal_eq_getElem, List.setIfInBounds_toArray, List.set_cons_zero, List.set_cons_succ])
        refine wpAnyH_take (i := 1) (v := ?_) rfl (by kernel_rfl) (by kernel_rfl) (by kernel_rfl) (fun _ _ _ h => h) (Or.inl ⟨by rfl, ?_⟩) (by assumption) ?_
        rotate_left
        · intro w hSw; (try dsimp only at hSw); go_simp; (try with_reducible rfl)
        (try simp only [Act.put, List.getElem_toArray, List.getElem_cons_zero, List.getElem_cons_succ, Array.getInternal_eq_getElem, List.setIfInBounds_toArray, List.set_cons_zero, List.set_cons_succ])
        refine wpAnyH_take (i := 2) (v := ?_) rfl (by kernel_rfl) (by kernel_rfl) (by kernel_rfl) (fun _ _ _ h => h) (Or.inl ⟨by rfl, ?_⟩) (by assumption) ?_
        rotate_left
        · intro w hSw; (try dsimp only at hSw); go_simp; (try with_reducible rfl)
        (try simp only [Act.put, List.getElem_toArray, List.getElem_cons_zero, List.getElem_cons_succ, Array.getInternal_eq_getElem, List.setIfInBounds_toArray, List.set_cons_zero, List.set_cons_succ])
        refine wpAnyH_take (i := 3) (v := ?_) rfl (by kernel_rfl) (by kernel_rfl) (by kernel_rfl) (fun _ _ _ h => h) (Or.inl ⟨by rfl, ?_⟩) (by assumption) ?_
        rotate_left
        · intro w hSw; (try dsimp only at hSw); go_simp; (try with_reducible rfl)
        (try simp only [Act.put, List.getElem_toArray, List.getElem_cons_zero, List.getElem_cons_succ, Array.getInternal_eq_getElem, List.setIfInBounds_toArray, List.set_cons_zero, List.set_cons_succ])
        refine wpAnyH_take (i := 4) (v := ?_) rfl (by kernel_rfl) (by kernel_rfl) (by kernel_rfl) (fun _ _ _ h => h) (Or.inl ⟨by rfl, ?_⟩) (by assumption) ?_
        rotate_left
        · intro w hSw; (try dsimp only at hSw); go_simp; (try with_reducible rfl)
        (try simp only [Act.put, List.getElem_toArray, List.getElem_cons_zero, List.getElem_cons_succ, Array.getInternal_eq_getElem, List.setIfInBounds_toArray, List.set_cons_zero, List.set_cons_succ])
        refine wpAnyH_take (i := 5) (v := ?_) rfl (by kernel_rfl) (by kernel_rfl) (by kernel_rfl) (fun _ _ _ h => h) (Or.inl ⟨by rfl, ?_⟩) (by assumption) ?_
        rotate_left
        · intro w hSw; (try dsimp only at hSw); go_simp; (try with_reducible rfl)
        (try simp only [Act.put, List.getElem_toArray, List.getElem_cons_zero, List.getElem_cons_succ, Array.getInternal_eq_getElem, List.setIfInBounds_toArray, List.set_cons_zero, List.set_cons_succ])
        refine wpAnyH_take (i := 6) (v := ?_) rfl (by kernel_rfl) (by kernel_rfl) (by kernel_rfl) (fun _ _ _ h => h) (Or.inl ⟨by rfl, ?_⟩) (by assumption) ?_
        rotate_left
        · intro w hSw; (try dsimp only at hSw); go_simp; (try with_reducible rfl)
        (try simp only [Act.put, List.getElem_toArray, List.getElem_cons_zero, List.getElem_cons_succ, Array.getInternal_eq_getElem, List.setIfInBounds_toArray, List.set_cons_zero, List.set_cons_succ])
        refine wpAnyH_take (i := 7) (v := ?_) rfl (by kernel_rfl) (by kernel_rfl) (by kernel_rfl) (fun _ _ _ h => h) (Or.inl ⟨by rfl, ?_⟩) (by assumption) ?_
        rotate_left
        · intro w hSw; (try dsimp only at hSw); go_simp; (try with_reducible rfl)
        (try simp only [Act.put, List.getElem_toArray, List.getElem_cons_zero, List.getElem_cons_succ, Array.getInternal_eq_getElem, List.setIfInBounds_toArray, List.set_cons_zero, List.set_cons_succ])
        refine wpAnyH_ready (rs := [8, 12]) (by kernel_rfl) (by simp) ?_
        refine AllReadyH.cons rfl (fun K hK => ?_) (AllReadyH.cons rfl (fun K hK => ?_) (AllReadyH.nil))
        · -- 8 first
          go_simp
          refine (tstep_any (k : Int) d _ (HPZ.out _ (chain HL.out hHeld.2)).v ((HSI.out.below hHeld.2 HSZ.out).sv (Nat.le_trans HSZ.out hHeld.2.size)) (Nat.le_refl _) HRP.out HOS.out (HWA.out.more (by omega))).mono ?_
          rintro e Xc ⟨vm, vt, psd, rfl, hos, hb⟩
          obtain ⟨Ad, cd, rfl⟩ := own_slice (n := s.mem.length) (show Xc.ownsRow _ _ 1 vm (s.mem.length) _ from by have e := hos.mem; unfold OwnI at e; rwa [show ((tst P S (k : Int) d).getD S).mem.length = s.mem.length from (tst_glen HRP.out HOS.out).1.trans HLS.out.1] at e)
          obtain ⟨Bd, ed, rfl⟩ := own_slice (n := s.ths.length) (show Xc.ownsRow _ _ 4 vt (s.ths.length) _ from by have e := hos.ths; rwa [show ((tst P S (k : Int) d).getD S).ths.length = s.ths.length from (tst_glen HRP.out HOS.out).2.trans HLS.out.2] at e)
          have HOD := Lib.hid (show OwnSt wr.heap.size Xc (.slice Ad (s.mem.length) cd) (.slice Bd (s.ths.length) ed) ((tst P S (k : Int) d).getD S) psd from hos.base hHeld.2.size)
          have HBC := Lib.hid (chain hHeld.2 hb)
          refine hK.out _ _ ⟨⟨kc HBC.out x0, kc HBC.out x1, kc HBC.out a0, kc HBC.out a1, kc HBC.out z0, trivial⟩, HBC.out⟩ (fun hHeld => ?_)
          clear hK K
          (try simp only [Act.put, List.getElem_toArray, List.getElem_cons_zero, List.getElem_cons_succ, Array.getInternal_eq_getElem, List.setIfInBounds_toArray, List.set_cons_zero, List.set_cons_succ])
          clear hb hos
          refine wpAnyH_take (i := 9) (v := ?_) rfl (by kernel_rfl) (by kernel_rfl) (by kernel_rfl) (fun _ _ _ h => h) (Or.inl ⟨by rfl, ?_⟩) (by assumption) ?_
          rotate_left
          · intro w hSw; (try dsimp only at hSw); go_simp; (try with_reducible rfl)
          (try simp only [Act.put, List.getElem_toArray, List.getElem_cons_zero, List.getElem_cons_succ, Array.getInternal_eq_getElem, List.setIfInBounds_toArray, List.set_cons_zero, List.set_cons_succ])
          refine wpAnyH_take (i := 10) (v := ?_) rfl (by kernel_rfl) (by kernel_rfl) (by kernel_rfl) (fun _ _ _ h => h) (Or.inl ⟨by rfl, ?_⟩) (by assumption) ?_
          rotate_left
          · intro w hSw; (try dsimp only at hSw); go_simp; (try with_reducible rfl)
          (try simp only [Act.put, List.getElem_toArray, List.getElem_cons_zero, List.getElem_cons_succ, Array.getInternal_eq_getElem, List.setIfInBounds_toArray, List.set_cons_zero, List.set_cons_succ])
          refine wpAnyH_take (i := 11) (v := ?_) rfl (by kernel_rfl) (by kernel_rfl) (by kernel_rfl) (fun _ _ _ h => h) (Or.inl ⟨by rfl, ?_⟩) (by assumption) ?_
          rotate_left
          · intro w hSw; (try dsimp only at hSw); go_simp; (try with_reducible rfl)
          (try simp only [Act.put, List.getElem_toArray, List.getElem_cons_zero, List.getElem_cons_succ, Array.getInternal_eq_getElem, List.setIfInBounds_toArray, List.set_cons_zero, List.set_cons_succ])
          refine wpAnyH_ready (rs := [12]) (by kernel_rfl) (by simp) ?_
          refine AllReadyH.cons rfl (fun K hK => ?_) AllReadyH.nil
          have HBA := Lib.hid (below_al hHeld.2 (.cells #[.slice none 0 0, .slice none 0 0] 28))
          go_simp
          refine hK.out _ _ ⟨⟨kc HBA.out x0, kc HBA.out x1, kc HBA.out a0, kc HBA.out a1, kc HBA.out z0, trivial⟩, HBA.out⟩ (fun hHeld => ?_)
          clear hK K
          (try simp only [Act.put, List.getElem_toArray, List.getElem_cons_zero, List.getElem_cons_succ, Array.getInternal_eq_getElem, List.setIfInBounds_toArray, List.set_cons_zero, List.set_cons_succ])
          have HBa := Lib.hid (below_al (Below.refl Xc.heap.size Xc) (.cells #[.slice none 0 0, .slice none 0 0] 28))
          obtain ⟨Xa, hXa⟩ : ∃ W, W = Xc.alloc (.cells #[.slice none 0 0, .slice none 0 0] 28) := ⟨_, rfl⟩
          obtain ⟨ga, hga⟩ : ∃ g, g = Xc.heap.size := ⟨_, rfl⟩
          have HGa := Lib.hid (show wr.heap.size ≤ ga from by rw [hga]; exact HBC.out.size)
          have HQa := Lib.hid (show BoxC Xa ga 28 #[.slice none 0 0, .slice none 0 0] from by rw [hXa, hga]; exact BoxC.new Xc _ _)
          rw [← hXa] at hHeld HBA HBa ⊢
          (try rw [← hga])
          replace HOD := Lib.hid (HOD.out.below HBa.out)
          clear hXa hga HBa
          refine wpAnyH_ready (rs := [13]) (by kernel_rfl) (by simp) ?_
          refine AllReadyH.cons rfl (fun K hK => ?_) AllReadyH.nil
          have q0 := HQa.out.cell 0 _ rfl
          have q1 := HQa.out.cell 1 _ rfl
          have u0 := HQa.out.frozen 0
          have u1 := HQa.out.frozen 1
          have HBS := Lib.hid (show Below wr.heap.size wr ((Xa.setCell ⟨ga, 0, none⟩ (.slice Ad (s.mem.length) cd)).setCell ⟨ga, 1, none⟩ (.slice Bd (s.ths.length) ed)) from (hHeld.2.setCell (p := ⟨ga, 0, none⟩) HGa.out _).setCell (p := ⟨ga, 1, none⟩) HGa.out _)
          have HQS := Lib.hid (show BoxC ((Xa.setCell ⟨ga, 0, none⟩ (.slice Ad (s.mem.length) cd)).setCell ⟨ga, 1, none⟩ (.slice Bd (s.ths.length) ed)) ga 28 #[(.slice Ad (s.mem.length) cd), (.slice Bd (s.ths.length) ed)] from (HQa.out.set 0 _).set 1 _)
          have HOS := Lib.hid (show OwnSt wr.heap.size ((Xa.setCell ⟨ga, 0, none⟩ (.slice Ad (s.mem.length) cd)).setCell ⟨ga, 1, none⟩ (.slice Bd (s.ths.length) ed)) (.slice Ad (s.mem.length) cd) (.slice Bd (s.ths.length) ed) ((tst P S (k : Int) d).getD S) psd from (HOD.out.box HQa.out (by decide) (by decide) (by decide) 0 _).box (HQa.out.set 0 _) (by decide) (by decide) (by decide) 1 _)
          go_simp
          refine hK.out _ _ ⟨⟨kc HBS.out x0, kc HBS.out x1, kc HBS.out a0, kc HBS.out a1, kc HBS.out z0, trivial⟩, HBS.out⟩ (fun hHeld => ?_)
          clear q0 q1 u0 u1
          clear hK K
          (try simp only [Act.put, List.getElem_toArray, List.getElem_cons_zero, List.getElem_cons_succ, Array.getInternal_eq_getElem, List.setIfInBounds_toArray, List.set_cons_zero, List.set_cons_succ])
          refine wpAnyH_ready (rs := [14]) (by kernel_rfl) (by simp) ?_
          refine AllReadyH.cons rfl (fun K hK => ?_) AllReadyH.nil
          go_simp
          refine hK.out _ _ hHeld (fun hHeld => ?_)
          clear hK K
          (try simp only [Act.put, List.getElem_toArray, List.getElem_cons_zero, List.getElem_cons_succ, Array.getInternal_eq_getElem, List.setIfInBounds_toArray, List.set_cons_zero, List.set_cons_succ])
          refine wpAnyH_done (by kernel_rfl) ?_ _
          clear hHeld
          go_wp2_with fail
          go_meet
          exact ⟨ga, Ad, cd, Bd, ed, psd, rfl, rfl, HQS.out, HOS.out, HBS.out, HGa.out⟩
        · -- 12 first
          have HBA := Lib.hid (below_al hHeld.2 (.cells #[.slice none 0 0, .slice none 0 0] 28))
          go_simp
          refine hK.out _ _ ⟨⟨kc HBA.out x0, kc HBA.out x1, kc HBA.out a0, kc HBA.out a1, kc HBA.out z0, trivial⟩, HBA.out⟩ (fun hHeld => ?_)
          clear hK K
          (try simp only [Act.put, List.getElem_toArray, List.getElem_cons_zero, List.getElem_cons_succ, Array.getInternal_eq_getElem, List.setIfInBounds_toArray, List.set_cons_zero, List.set_cons_succ])
          have HBa := Lib.hid (below_al (Below.refl Xs.heap.size Xs) (.cells #[.slice none 0 0, .slice none 0 0] 28))
          obtain ⟨Xa, hXa⟩ : ∃ W, W = Xs.alloc (.cells #[.slice none 0 0, .slice none 0 0] 28) := ⟨_, rfl⟩
          obtain ⟨ga, hga⟩ : ∃ g, g = Xs.heap.size := ⟨_, rfl⟩
          have HGa := Lib.hid (show wr.heap.size ≤ ga from by rw [hga]; exact HXs.out.size)
          have HQa := Lib.hid (show BoxC Xa ga 28 #[.slice none 0 0, .slice none 0 0] from by rw [hXa, hga]; exact BoxC.new Xs _ _)
          rw [← hXa] at hHeld HBA HBa ⊢
          (try rw [← hga])
          clear hXa hga HBa
          refine wpAnyH_ready (rs := [8]) (by kernel_rfl) (by simp) ?_
          refine AllReadyH.cons rfl (fun K hK => ?_) AllReadyH.nil
          go_simp
          refine (tstep_any (k : Int) d _ (HPZ.out _ (chain HL.out hHeld.2)).v ((HSI.out.below hHeld.2 HSZ.out).sv (Nat.le_trans HSZ.out hHeld.2.size)) (Nat.le_refl _) HRP.out HOS.out (HWA.out.more (by omega))).mono ?_
          rintro e Xc ⟨vm, vt, psd, rfl, hos, hb⟩
          obtain ⟨Ad, cd, rfl⟩ := own_slice (n := s.mem.length) (show Xc.ownsRow _ _ 1 vm (s.mem.length) _ from by have e := hos.mem; unfold OwnI at e; rwa [show ((tst P S (k : Int) d).getD S).mem.length = s.mem.length from (tst_glen HRP.out HOS.out).1.trans HLS.out.1] at e)
          obtain ⟨Bd, ed, rfl⟩ := own_slice (n := s.ths.length) (show Xc.ownsRow _ _ 4 vt (s.ths.length) _ from by have e := hos.ths; rwa [show ((tst P S (k : Int) d).getD S).ths.length = s.ths.length from (tst_glen HRP.out HOS.out).2.trans HLS.out.2] at e)
          have HOD := Lib.hid (show OwnSt wr.heap.size Xc (.slice Ad (s.mem.length) cd) (.slice Bd (s.ths.length) ed) ((tst P S (k : Int) d).getD S) psd from hos.base hHeld.2.size)
          have HBC := Lib.hid (chain hHeld.2 hb)
          replace HQa := Lib.hid (HQa.out.below hb HQa.out.lt)
          refine hK.out _ _ ⟨⟨kc HBC.out x0, kc HBC.out x1, kc HBC.out a0, kc HBC.out a1, kc HBC.out z0, trivial⟩, HBC.out⟩ (fun hHeld => ?_)
          clear hK K
          (try simp only [Act.put, List.getElem_toArray, List.getElem_cons_zero, List.getElem_cons_succ, Array.getInternal_eq_getElem, List.setIfInBounds_toArray, List.set_cons_zero, List.set_cons_succ])
          clear hb hos
          refine wpAnyH_take (i := 9) (v := ?_) rfl (by kernel_rfl) (by kernel_rfl) (by kernel_rfl) (fun _ _ _ h => h) (Or.inl ⟨by rfl, ?_⟩) (by assumption) ?_
          rotate_left
          · intro w hSw; (try dsimp only at hSw); go_simp; (try with_reducible rfl)
          (try simp only [Act.put, List.getElem_toArray, List.getElem_cons_zero, List.getElem_cons_succ, Array.getInternal_eq_getElem, List.setIfInBounds_toArray, List.set_cons_zero, List.set_cons_succ])
          refine wpAnyH_take (i := 10) (v := ?_) rfl (by kernel_rfl) (by kernel_rfl) (by kernel_rfl) (fun _ _ _ h => h) (Or.inl ⟨by rfl, ?_⟩) (by assumption) ?_
          rotate_left
          · intro w hSw; (try dsimp only at hSw); go_simp; (try with_reducible rfl)
          (try simp only [Act.put, List.getElem_toArray, List.getElem_cons_zero, List.getElem_cons_succ, Array.getInternal_eq_getElem, List.setIfInBounds_toArray, List.set_cons_zero, List.set_cons_succ])
          refine wpAnyH_take (i := 11) (v := ?_) rfl (by kernel_rfl) (by kernel_rfl) (by kernel_rfl) (fun _ _ _ h => h) (Or.inl ⟨by rfl, ?_⟩) (by assumption) ?_
          rotate_left
          · intro w hSw; (try dsimp only at hSw); go_simp; (try with_reducible rfl)
          (try simp only [Act.put, List.getElem_toArray, List.getElem_cons_zero, List.getElem_cons_succ, Array.getInternal_eq_getElem, List.setIfInBounds_toArray, List.set_cons_zero, List.set_cons_succ])
          refine wpAnyH_ready (rs := [13]) (by kernel_rfl) (by simp) ?_
          refine AllReadyH.cons rfl (fun K hK => ?_) AllReadyH.nil
          have q0 := HQa.out.cell 0 _ rfl
          have q1 := HQa.out.cell 1 _ rfl
          have u0 := HQa.out.frozen 0
          have u1 := HQa.out.frozen 1
          have HBS := Lib.hid (show Below wr.heap.size wr ((Xc.setCell ⟨ga, 0, none⟩ (.slice Ad (s.mem.length) cd)).setCell ⟨ga, 1, none⟩ (.slice Bd (s.ths.length) ed)) from (hHeld.2.setCell (p := ⟨ga, 0, none⟩) HGa.out _).setCell (p := ⟨ga, 1, none⟩) HGa.out _)
          have HQS := Lib.hid (show BoxC ((Xc.setCell ⟨ga, 0, none⟩ (.slice Ad (s.mem.length) cd)).setCell ⟨ga, 1, none⟩ (.slice Bd (s.ths.length) ed)) ga 28 #[(.slice Ad (s.mem.length) cd), (.slice Bd (s.ths.length) ed)] from (HQa.out.set 0 _).set 1 _)
          have HOS := Lib.hid (show OwnSt wr.heap.size ((Xc.setCell ⟨ga, 0, none⟩ (.slice Ad (s.mem.length) cd)).setCell ⟨ga, 1, none⟩ (.slice Bd (s.ths.length) ed)) (.slice Ad (s.mem.length) cd) (.slice Bd (s.ths.length) ed) ((tst P S (k : Int) d).getD S) psd from (HOD.out.box HQa.out (by decide) (by decide) (by decide) 0 _).box (HQa.out.set 0 _) (by decide) (by decide) (by decide) 1 _)
          go_simp
          refine hK.out _ _ ⟨⟨kc HBS.out x0, kc HBS.out x1, kc HBS.out a0, kc HBS.out a1, kc HBS.out z0, trivial⟩, HBS.out⟩ (fun hHeld => ?_)
          clear q0 q1 u0 u1
          clear hK K
          (try simp only [Act.put, List.getElem_toArray, List.getElem_cons_zero, List.getElem_cons_succ, Array.getInternal_eq_getElem, List.setIfInBounds_toArray, List.set_cons_zero, List.set_cons_succ])
          refine wpAnyH_ready (rs := [14]) (by kernel_rfl) (by simp) ?_
          refine AllReadyH.cons rfl (fun K hK => ?_) AllReadyH.nil
          go_simp
          refine hK.out _ _ hHeld (fun hHeld => ?_)
          clear hK K
          (try simp only [Act.put, List.getElem_toArray, List.getElem_cons_zero, List.getElem_cons_succ, Array.getInternal_eq_getElem, List.setIfInBounds_toArray, List.set_cons_zero, List.set_cons_succ])
          refine wpAnyH_done (by kernel_rfl) ?_ _
          clear hHeld
          go_wp2_with fail
          go_meet
          exact ⟨ga, Ad, cd, Bd, ed, psd, rfl, rfl, HQS.out, HOS.out, HBS.out, HGa.out⟩
      case rest =>
        obtain ⟨g13, A3, c3, B3, e3, psa, rfl, rfl, hqn, hon, hbn, hgn⟩ := hcut
        have HLN := Lib.hid (chain HL.out hbn)
        have HQA2 := Lib.hid (HQA.out.below hbn HQA.out.lt)
        have HQB2 := Lib.hid (HQB.out.below hbn HQB.out.lt)
        have HOB2 := Lib.hid (HOB.out.below hbn)
        have HSI2 := Lib.hid (HSI.out.below hbn HSZ.out)
        have HSZ2 := Lib.hid (show B ≤ wc.heap.size from Nat.le_trans HSZ.out hbn.size)
        have HQN := Lib.hid hqn
        have HGN := Lib.hid hgn
        have HON := Lib.hid hon
        clear hqn hgn hon hbn x0 x1 a0 a1 b0 b1 z0
        cases htt : tst P S (k : Int) d with
        | none =>
          have HW1 := Lib.hid (HWA.out.more (Nat.le_succ (300 + i)))
          clear htt
          rw [show (none : Option Sta).isSome = false from rfl]
          clear HON HQN
          go_wp2
          go_roundw
          case rel => exact ⟨i + 1, S, _, _, _, _, _, _, _, _, psb, by omega, by go_num, HOS.out, HW1.out, HQA2.out, HSI2.out, HQB2.out, HOB2.out, HLN.out⟩
          case measure => simp [intOf]; omega
        | some s' =>
          have HTT := Lib.hid htt
          rw [htt] at HON
          have HON := Lib.hid (show OwnSt wr.heap.size wc (.slice A3 s.mem.length c3) (.slice B3 s.ths.length e3) s' psa from HON.out)
          have HK1 := Lib.hid (tst_ok HRP.out HOS.out htt)
          have HW1 := Lib.hid (tst_wide HRP.out HOS.out HWA.out htt)
          have HFL := Lib.hid (flu_step HRP.out HOS.out htt)
          clear htt
          rw [show (some s').isSome = true from rfl]
          have n0 := HQN.out.cell 0 _ rfl
          have n1 := HQN.out.cell 1 _ rfl
          have a0 := HQA2.out.cell 0 _ rfl
          have a1 := HQA2.out.cell 1 _ rfl
          have f0 := HQA2.out.frozen 0
          have f1 := HQA2.out.frozen 1
          go_upto_region 14 with fail
          obtain ⟨X3, hX⟩ : ∃ W, W = (wc.setCell ⟨g10, 0, none⟩ (.slice A3 s.mem.length c3)).setCell ⟨g10, 1, none⟩ (.slice B3 s.ths.length e3) := ⟨_, rfl⟩
          have HQA3 := Lib.hid (show BoxC X3 g10 28 #[.slice A3 s.mem.length c3, .slice B3 s.ths.length e3] from by rw [hX]; exact (HQA2.out.set 0 _).set 1 _)
          have HQB3 := Lib.hid (show BoxC X3 g11 28 #[.slice A6 s.mem.length c6, .slice B6 s.ths.length e6] from by rw [hX]; exact (HQB2.out.other (Ne.symm HNE.out) _ _).other (Ne.symm HNE.out) _ _)
          have HON3 := Lib.hid (show OwnSt W2.heap.size X3 (.slice A3 s.mem.length c3) (.slice B3 s.ths.length e3) s' psa from by rw [hX]; exact ((HON.out.base HL.out.size).box HQA2.out (by decide) (by decide) (by decide) 0 _).box (HQA2.out.set 0 _) (by decide) (by decide) (by decide) 1 _)
          have HOB3 := Lib.hid (show OwnSt W2.heap.size X3 (.slice A6 s.mem.length c6) (.slice B6 s.ths.length e6) (flu S (k : Int)) psb from by rw [hX]; exact (HOB2.out.box HQA2.out (by decide) (by decide) (by decide) 0 _).box (HQA2.out.set 0 _) (by decide) (by decide) (by decide) 1 _)
          have HL3 := Lib.hid (show Below W2.heap.size W2 X3 from by rw [hX]; exact (HLN.out.setCell (p := ⟨g10, 0, none⟩) HG10.out _).setCell (p := ⟨g10, 1, none⟩) HG10.out _)
          rw [← hX]
          clear hX n0 n1 a0 a1 f0 f1
          have x0 := (HX.out.below HL3.out HX.out.lt).cell 0 _ rfl
          have x1 := (HX.out.below HL3.out HX.out.lt).cell 1 _ rfl
          have a0 := HQA3.out.cell 0 _ rfl
          have a1 := HQA3.out.cell 1 _ rfl
          go_wp2_with fail
          refine (rright_any _ (HPZ.out _ HL3.out).v HON3.out.sv (Nat.le_refl _)).mono ?_
          rintro e X4 ⟨q, rfl, hq, hb⟩
          obtain rfl : q = true := hq.2 HK1.out
          have HL4 := Lib.hid (chain HL3.out hb)
          have HQA4 := Lib.hid (HQA3.out.below hb HQA3.out.lt)
          have HQB4 := Lib.hid (HQB3.out.below hb HQB3.out.lt)
          have HON4 := Lib.hid (HON3.out.below hb)
          have HOB4 := Lib.hid (HOB3.out.below hb)
          clear hq hb x0 x1 a0 a1
          have HDZ := Lib.hid (HDR.out X4 (chain HB2.out HL4.out) i hlt)
          obtain ⟨bd', fd', hD', z0⟩ := HDZ.out
          injection hD' with hD'
          injection hD' with hD1 hD2
          subst hD1 hD2
          rw [← HDD.out] at z0
          have HSA4 := Lib.hid (show AnyS B W2.heap.size X4 (.slice A3 s.mem.length c3) (.slice B3 s.ths.length e3) s' from .inr ⟨psa, HON4.out⟩)
          clear HDZ HON3 HOB3 HQA3 HQB3 HL3 HON HQA2 HQB2 HOB2 HSI2 HSI HQA HQB HOB
          cases d with
          | true =>
            have HFE := Lib.hid (show flu s' (k : Int) = flu S (k : Int) from HFL.out)
            go_wp2
            go_roundw
            case rel => exact ⟨i + 1, s', _, _, _, _, _, _, _, _, psb, by omega, by go_num, HK1.out, HW1.out, HQA4.out, HSA4.out, HQB4.out, HFE.out ▸ HOB4.out, HL4.out⟩
            case measure => simp [intOf]; omega
          | false =>
            have HFE := Lib.hid (show flu s' (k : Int) = stp P (flu S (k : Int)) (k : Int) from HFL.out)
            have x0 := (HX.out.below HL4.out HX.out.lt).cell 0 _ rfl
            have x1 := (HX.out.below HL4.out HX.out.lt).cell 1 _ rfl
            have b0 := HQB4.out.cell 0 _ rfl
            have b1 := HQB4.out.cell 1 _ rfl
            go_wp2_with fail
            refine (refstep_any (k : Int) _ (HPZ.out _ HL4.out).v HOB4.out.sv (Nat.le_refl _) HRP.out HFS.out.1 HFS.out.2).mono ?_
            rintro e X5 ⟨vm, vt, psc, rfl, hos, hb⟩
            rw [← HFE.out] at hos
            have HO5 := Lib.hid hos
            obtain ⟨A9, c9, rfl⟩ := own_slice (n := s.mem.length) (show X5.ownsRow _ _ 1 vm s.mem.length _ from by have e := HO5.out.mem; unfold OwnI at e; rwa [show (flu s' (k : Int)).mem.length = s.mem.length from (flu_ok _ HK1.out).mem.trans HOK.out.mem.symm] at e)
            obtain ⟨B9, e9, rfl⟩ := own_slice (n := s.ths.length) (show X5.ownsRow _ _ 4 vt s.ths.length _ from by have e := HO5.out.ths; rwa [show (flu s' (k : Int)).ths.length = s.ths.length from (flu_ok _ HK1.out).ths.trans HOK.out.ths.symm] at e)
            have HL5 := Lib.hid (chain HL4.out hb)
            have HQA5 := Lib.hid (HQA4.out.below hb HQA4.out.lt)
            have HQB5 := Lib.hid (HQB4.out.below hb HQB4.out.lt)
            have HSA5 := Lib.hid (HSA4.out.below hb (Nat.le_trans HBW.out HL4.out.size))
            clear hos hb x0 x1 b0 b1 z0
            have b0 := HQB5.out.cell 0 _ rfl
            have b1 := HQB5.out.cell 1 _ rfl
            have f0 := HQB5.out.frozen 0
            have f1 := HQB5.out.frozen 1
            go_wp2_with fail
            clear b0 b1 f0 f1
            go_roundw
            case rel => exact ⟨i + 1, s', _, _, _, _, _, _, _, _, psc, by omega, by go_num, HK1.out, HW1.out, (HQA5.out.other HNE.out _ _).other HNE.out _ _, (HSA5.out.box HQB5.out (by decide) (by decide) (by decide) (Nat.le_trans HBW.out HG11.out) 0 _).box (HQB5.out.set 0 _) (by decide) (by decide) (by decide) (Nat.le_trans HBW.out HG11.out) 1 _, (HQB5.out.set 0 _).set 1 _, ((HO5.out.base HL4.out.size).box HQB5.out (by decide) (by decide) (by decide) 0 _).box (HQB5.out.set 0 _) (by decide) (by decide) (by decide) 1 _, (HL5.out.setCell (p := ⟨g11, 0, none⟩) HG11.out _).setCell (p := ⟨g11, 1, none⟩) HG11.out _⟩
            case measure => simp [intOf]; omega
    · obtain rfl : i = ds.length := by omega
      go_upto_region 18 with fail
      refine wp_region_held_drew (S := (fun w' => (w'.cell? ⟨gp, 0, none⟩ = some (.slice P0 P.init.length d0) ∧ w'.cell? ⟨gp, 1, none⟩ = some (.slice P1 P.ths.length d1) ∧ w'.cell? ⟨g10, 0, none⟩ = some (.slice A4 s.mem.length c4) ∧ w'.cell? ⟨g10, 1, none⟩ = some (.slice B4 s.ths.length e4) ∧ w'.cell? ⟨g11, 0, none⟩ = some (.slice A6 s.mem.length c6) ∧ w'.cell? ⟨g11, 1, none⟩ = some (.slice B6 s.ths.length e6) ∧ True) ∧ Below wr.heap.size wr w')) (by kernel_rfl) ⟨⟨x0, x1, a0, a1, b0, b1, trivial⟩, below_drewN (Below.refl _ _) 1⟩ (fun hHeld => ?_)
      refine wpAnyH_take (i := 0) (v := ?_) rfl (by kernel_rfl) (by kernel_rfl) (by kernel_rfl) (fun _ _ _ h => h) (Or.inl ⟨by rfl, ?_⟩) (by assumption) ?_
      rotate_left
      · intro w hSw; (try dsimp only at hSw); go_simp; (try with_reducible rfl)
      (try simp only [Act.put, List.getElem_toArray, List.getElem_cons_zero, List.getElem_cons_succ, Array.getInternal_eq_getElem, List.setIfInBounds_toArray, List.set_cons_zero, List.set_cons_succ])
      refine wpAnyH_take (i := 1) (v := ?_) rfl (by kernel_rfl) (by kernel_rfl) (by kernel_rfl) (fun _ _ _ h => h) (Or.inl ⟨by rfl, ?_⟩) (by assumption) ?_
      rotate_left
      · intro w hSw; (try dsimp only at hSw); go_simp; (try with_reducible rfl)
      (try simp only [Act.put, List.getElem_toArray, List.getElem_cons_zero, List.getElem_cons_succ, Array.getInternal_eq_getElem, List.setIfInBounds_toArray, List.set_cons_zero, List.set_cons_succ])
      refine wpAnyH_take (i := 2) (v := ?_) rfl (by kernel_rfl) (by kernel_rfl) (by kernel_rfl) (fun _ _ _ h => h) (Or.inl ⟨by rfl, ?_⟩) (by assumption) ?_
      rotate_left
      · intro w hSw; (try dsimp only at hSw); go_simp; (try with_reducible rfl)
      (try simp only [Act.put, List.getElem_toArray, List.getElem_cons_zero, List.getElem_cons_succ, Array.getInternal_eq_getElem, List.setIfInBounds_toArray, List.set_cons_zero, List.set_cons_succ])
      refine wpAnyH_take (i := 3) (v := ?_) rfl (by kernel_rfl) (by kernel_rfl) (by kernel_rfl) (fun _ _ _ h => h) (Or.inl ⟨by rfl, ?_⟩) (by assumption) ?_
      rotate_left
      · intro w hSw; (try dsimp only at hSw); go_simp; (try with_reducible rfl)
      (try simp only [Act.put, List.getElem_toArray, List.getElem_cons_zero, List.getElem_cons_succ, Array.getInternal_eq_getElem, List.setIfInBounds_toArray, List.set_cons_zero, List.set_cons_succ])
      refine wpAnyH_take (i := 4) (v := ?_) rfl (by kernel_rfl) (by kernel_rfl) (by kernel_rfl) (fun _ _ _ h => h) (Or.inl ⟨by rfl, ?_⟩) (by assumption) ?_
      rotate_left
      · intro w hSw; (try dsimp only at hSw); go_simp; (try with_reducible rfl)
      (try simp only [Act.put, List.getElem_toArray, List.getElem_cons_zero, List.getElem_cons_succ, Array.getInternal_eq_getElem, List.setIfInBounds_toArray, List.set_cons_zero, List.set_cons_succ])
      refine wpAnyH_take (i := 6) (v := ?_) rfl (by kernel_rfl) (by kernel_rfl) (by kernel_rfl) (fun _ _ _ h => h) (Or.inl ⟨by rfl, ?_⟩) (by assumption) ?_
      rotate_left
      · intro w hSw; (try dsimp only at hSw); go_simp; (try with_reducible rfl)
      (try simp only [Act.put, List.getElem_toArray, List.getElem_cons_zero, List.getElem_cons_succ, Array.getInternal_eq_getElem, List.setIfInBounds_toArray, List.set_cons_zero, List.set_cons_succ])
      refine wpAnyH_ready (rs := [5]) (by kernel_rfl) (by simp) ?_
      refine AllReadyH.cons rfl (fun K hK => ?_) AllReadyH.nil
      go_simp
      refine (tflush_any (k : Int) _ (HPZ.out _ (chain HL.out hHeld.2)).v ((HSI.out.below hHeld.2 HSZ.out).sv (Nat.le_trans HSZ.out hHeld.2.size)) (Nat.le_refl _) HRP.out HOS.out (HWA.out.more (by omega))).mono ?_
      rintro e Xf ⟨vm, vt, psf, rfl, hos, hb⟩
      obtain ⟨Af, cf, rfl⟩ := own_slice hos.mem
      obtain ⟨Bf, ef, rfl⟩ := own_slice hos.ths
      have HOF := Lib.hid hos
      have HBF := Lib.hid (chain hHeld.2 hb)
      refine hK.out _ _ ⟨⟨kc HBF.out x0, kc HBF.out x1, kc HBF.out a0, kc HBF.out a1, kc HBF.out b0, kc HBF.out b1, trivial⟩, HBF.out⟩ (fun hHeld => ?_)
      clear hK K
      (try simp only [Act.put, List.getElem_toArray, List.getElem_cons_zero, List.getElem_cons_succ, Array.getInternal_eq_getElem, List.setIfInBounds_toArray, List.set_cons_zero, List.set_cons_succ])
      clear hb hos
      refine wpAnyH_ready (rs := [7]) (by kernel_rfl) (by simp) ?_
      refine AllReadyH.cons rfl (fun K hK => ?_) AllReadyH.nil
      go_simp
      refine (stsame_any _ HOF.out.sv ((HOB.out.below hHeld.2).sv) (Nat.le_refl _)).mono ?_
      rintro e Xg ⟨rfl, hb⟩
      have HBG := Lib.hid (chain hHeld.2 hb)
      refine hK.out _ _ ⟨⟨kc HBG.out x0, kc HBG.out x1, kc HBG.out a0, kc HBG.out a1, kc HBG.out b0, kc HBG.out b1, trivial⟩, HBG.out⟩ (fun hHeld => ?_)
      clear hK K
      (try simp only [Act.put, List.getElem_toArray, List.getElem_cons_zero, List.getElem_cons_succ, Array.getInternal_eq_getElem, List.setIfInBounds_toArray, List.set_cons_zero, List.set_cons_succ])
      clear hb
      refine wpAnyH_take (i := 8) (v := ?_) rfl (by kernel_rfl) (by kernel_rfl) (by kernel_rfl) (fun _ _ _ h => h) (Or.inl ⟨by rfl, ?_⟩) (by assumption) ?_
      rotate_left
      · intro w hSw; (try dsimp only at hSw); go_simp; (try with_reducible rfl)
      (try simp only [Act.put, List.getElem_toArray, List.getElem_cons_zero, List.getElem_cons_succ, Array.getInternal_eq_getElem, List.setIfInBounds_toArray, List.set_cons_zero, List.set_cons_succ])
      refine wpAnyH_ready (rs := [9]) (by kernel_rfl) (by simp) ?_
      refine AllReadyH.cons rfl (fun K hK => ?_) AllReadyH.nil
      go_simp
      refine hK.out _ _ hHeld (fun hHeld => ?_)
      clear hK K
      (try simp only [Act.put, List.getElem_toArray, List.getElem_cons_zero, List.getElem_cons_succ, Array.getInternal_eq_getElem, List.setIfInBounds_toArray, List.set_cons_zero, List.set_cons_succ])
      refine wpAnyH_done (by kernel_rfl) ?_ _
      clear hHeld a0 a1 b0 b1 x0 x1
      go_wp2
      go_ret
      exact ⟨rfl, chain HB2.out (chain HL.out HBG.out)⟩
end Go.Proofs.Ytkbnppidkhbbeaa
