/-
  LAYER 11: head, a live question whose answer is fixed.
-/
import Derived.Test.YtkbnppidkhbbeaaTsS
import Derived.Test.YtkbnppidkhbbeaaTsU
import Derived.Test.YtkbnppidkhbbeaaTsI
import Derived.Test.YtkbnppidkhbbeaaK24
import Derived.Test.YtkbnppidkhbbeaaK27
import Derived.Test.YtkbnppidkhbbeaaScX
import Derived.Test.YtkbnppidkhbbeaaScY
import Derived.Deep.RegionHeld3
import Derived.Deep.DeepCutAuto
namespace Go.Proofs.Ytkbnppidkhbbeaa
open Go.RowKit
set_option linter.unusedVariables false
set_option linter.unusedSimpArgs false
open CodM (St Pg rightP)
open BfM (Wr plc)
open ScM

/-- A pick keeps a state as wide as it is, with one write more. -/
theorem tst_wide {P : Pg} {s s' : Sta} {t : Int} {d : Bool} {n : Nat} (hr : rightP P = true) (ho : OkSt P s) (hw : WideN n s) (h : tst P s t d = some s') : WideN (n + 1) s' := by
  obtain ⟨k, rfl, h1, h2, ⟨rfl, hb, rfl⟩ | ⟨rfl, h3, hs, rfl⟩⟩ := tst_some ho h
  · cases hbb : s.ths[k].buf with
    | nil => rw [hbb] at hb; cases hb
    | cons y r =>
      rw [drn_eq hbb (buf_ok ho h1)]
      refine ⟨by show (BfM.arr _ _).length ≤ _; rw [BfM.arr_len]; exact hw.mem, by show (List.set _ _ _).length ≤ _; rw [List.length_set]; exact hw.ths, fun x hx => ?_⟩
      rcases List.mem_or_eq_of_mem_set hx with hx | rfl
      · exact ⟨(hw.regs x hx).1, Nat.le_succ_of_le (hw.regs x hx).2⟩
      · have := hw.regs _ (List.getElem_mem h1)
        rw [hbb] at this
        exact ⟨this.1, by have := this.2; simp at this; show r.length ≤ n + 1; omega⟩
  · rw [tsS_eq]
    have hk := (tsT_ok hr ho h1 h2 h3)
    refine ⟨by show (tsMm _ _ _).length ≤ _; rw [tsMm_len]; exact hw.mem, by show (List.set _ _ _).length ≤ _; rw [List.length_set]; exact hw.ths, fun x hx => ?_⟩
    rcases List.mem_or_eq_of_mem_set hx with hx | rfl
    · exact ⟨(hw.regs x hx).1, Nat.le_succ_of_le (hw.regs x hx).2⟩
    · have := (hw.regs _ (List.getElem_mem h1)).2
      exact ⟨by rw [hk.1.regs]; decide, by have := hk.2.2; omega⟩
theorem tst_getD_wide {P : Pg} {s : Sta} {t : Int} {d : Bool} {n : Nat} (hr : rightP P = true) (ho : OkSt P s) (hw : WideN n s) : WideN (n + 1) ((tst P s t d).getD s) := by
  cases h : tst P s t d with
  | none => exact hw.more (Nat.le_succ n)
  | some s' => exact tst_wide hr ho hw h
theorem flu_wide {s : Sta} (t : Int) {n : Nat} (hw : WideN n s) : WideN n (flu s t) := by
  by_cases hr : 0 ≤ t ∧ t < (s.ths.length : Int)
  · obtain ⟨k, rfl⟩ : ∃ k : Nat, t = k := ⟨t.toNat, by omega⟩
    have hk : k < s.ths.length := by omega
    rw [flu_at hk]
    refine ⟨by show (BfM.all _ _).length ≤ _; rw [BfM.all_len]; exact hw.mem, by show (List.set _ _ _).length ≤ _; rw [List.length_set]; exact hw.ths, fun x hx => ?_⟩
    rcases List.mem_or_eq_of_mem_set hx with hx | rfl
    · exact hw.regs x hx
    · exact ⟨(hw.regs _ (List.getElem_mem hk)).1, Nat.zero_le _⟩
  · unfold flu; rw [thO_none hr]; exact hw
def hL : List (Nat × Bool) := [(0, false), (0, false), (1, false), (1, false), (0, true), (1, true)]
def hT : Nat → Sta
  | 0 => beg bufP
  | k + 1 => (tst bufP (hT k) ((hL.getD k (0, false)).1 : Int) (hL.getD k (0, false)).2).getD (hT k)
theorem beg_wide0 {P : Pg} (h : rightP P = true) : WideN 0 (beg P) := by
  obtain ⟨h1, h2, h3, -⟩ := right_ths h
  refine ⟨by show P.init.length ≤ 300; omega, by show (P.ths.map _).length ≤ 9; rw [List.length_map]; omega, fun x hx => ?_⟩
  have hx : x ∈ P.ths.map fun _ => begTh := hx
  obtain ⟨_, _, rfl⟩ := List.mem_map.1 hx
  exact ⟨by decide, by decide⟩
theorem hT_ok : ∀ k, OkSt bufP (hT k)
  | 0 => beg_ok bufP
  | k + 1 => tst_getD_ok buf_rp (hT_ok k)
theorem hT_wide : ∀ k, WideN k (hT k)
  | 0 => beg_wide0 buf_rp
  | k + 1 => tst_getD_wide buf_rp (hT_ok k) (hT_wide k)
theorem hT_len1 (k : Nat) : (hT k).mem.length = 2 := (hT_ok k).mem
theorem hT_len2 (k : Nat) : (hT k).ths.length = 2 := (hT_ok k).ths
theorem hT_some : ∀ k, k < 6 → (tst bufP (hT k) ((hL.getD k (0, false)).1 : Int) (hL.getD k (0, false)).2).isSome = true
  | 0, _ => by decide
  | 1, _ => by decide
  | 2, _ => by decide
  | 3, _ => by decide
  | 4, _ => by decide
  | 5, _ => by decide
theorem hT_6 : hT 6 = ⟨[1, 1], [⟨2, [0, 0, 0, 0], false, []⟩, ⟨2, [0, 0, 0, 0], false, []⟩]⟩ := by rfl
theorem hT_n0 : (tst bufP (hT 6) 0 false) = none := by rfl
theorem hT_n1 : (tst bufP (hT 6) 0 true) = none := by rfl
theorem hT_n2 : (tst bufP (hT 6) 2 false) = none := by rfl
def aS : Sta := ⟨[0, 0], [⟨1, [0, 0, 0, 0], false, [⟨0, 1⟩]⟩, ⟨0, [0, 0, 0, 0], false, []⟩]⟩
theorem aS_eq : tst bufP (beg bufP) 0 false = some aS := by rfl
theorem aS_pks : pks bufP aS = [(0, false), (0, true), (1, false)] := by rfl
theorem aS_flu : flu aS 0 = ⟨[1, 0], [⟨1, [0, 0, 0, 0], false, []⟩, ⟨0, [0, 0, 0, 0], false, []⟩]⟩ := by rfl
theorem aS_ok : OkSt bufP aS := tst_ok buf_rp (beg_ok bufP) aS_eq
theorem aS_wide : WideN 1 aS := tst_wide buf_rp (beg_ok bufP) (beg_wide0 buf_rp) aS_eq
def sE : Sta := ⟨[1, 1], [⟨2, [0, 0, 0, 0], false, []⟩, ⟨2, [0, 0, 0, 0], false, []⟩]⟩
theorem hT_sE : hT 6 = sE := hT_6
def fS : Sta := ⟨[1, 0], [⟨1, [0, 0, 0, 0], false, []⟩, ⟨0, [0, 0, 0, 0], false, []⟩]⟩
theorem aS_flu0 : flu aS 0 = fS := aS_flu
set_option maxHeartbeats 8000000 in
set_option maxRecDepth 100000 in
theorem thead_any (w : World) : Calls Try.prog 9 #[] w fun e w' => e = .returned (.bool true) ∧ Below w.heap.size w w' := by
  have HPK := Lib.hid buf_rp
  go_enter Try.func9, Try.ntmps9
  go_wp2_with fail
  refine (buf7_any _).mono ?_
  rintro e w1 ⟨vi, vt, rfl, hpm, hnz, hb1⟩
  have HPM := Lib.hid (show PgZ w1.heap.size w1 (.agg #[vi, vt]) bufP from ⟨_, _, rfl, hpm, intR_of hpm.1 hnz⟩)
  have HB1 := Lib.hid hb1
  obtain ⟨⟨P0, d0, rfl, -⟩, ⟨P1, d1, rfl, -⟩⟩ := hpm
  clear hb1 hnz
  go_upto_region 2 with fail
  obtain ⟨W2, hW2⟩ : ∃ W, W = w1.alloc (.cells #[.slice P0 bufP.init.length d0, .slice P1 bufP.ths.length d1] 25) := ⟨_, rfl⟩
  obtain ⟨gp, hgp⟩ : ∃ g, g = w1.heap.size := ⟨_, rfl⟩
  have HX := Lib.hid (show BoxC W2 gp 25 #[.slice P0 bufP.init.length d0, .slice P1 bufP.ths.length d1] from by rw [hW2, hgp]; exact BoxC.new w1 _ _)
  have HB12 := Lib.hid (show Below w1.heap.size w1 W2 from by rw [hW2]; exact below_al (Below.refl _ _) _)
  have HB2 := Lib.hid (show Below w.heap.size w W2 from chain HB1.out HB12.out)
  have HPZ := Lib.hid (fun W (hW : Below W2.heap.size W2 W) => show PgZ W.heap.size W (.agg #[.slice P0 bufP.init.length d0, .slice P1 bufP.ths.length d1]) bufP from (HPM.out.below (chain HB12.out hW)).more (chain HB12.out hW).size)
  have HL := Lib.hid (Below.refl W2.heap.size W2)
  rw [← hW2]
  (try rw [← hgp])
  clear hW2 hgp
  have x0 := (HX.out.below HL.out HX.out.lt).cell 0 _ rfl
  have x1 := (HX.out.below HL.out HX.out.lt).cell 1 _ rfl
  go_wp2_with fail
  refine (rbegin_any _ (HPZ.out _ HL.out) (Nat.le_refl _) HPK.out).mono ?_
  rintro e V1 ⟨vm, vt, ps2, rfl, hos, hb⟩
  have HST := Lib.hid hb
  replace HL := Lib.hid (chain HL.out hb)
  clear hb x0 x1
  
  have HO2 := Lib.hid (show OwnSt _ V1 vm vt (hT 0) ps2 from hos)
  obtain ⟨A2, c2, rfl⟩ := own_slice (n := 2) HO2.out.mem
  obtain ⟨B2, e2, rfl⟩ := own_slice (n := 2) HO2.out.ths
  clear hos
  go_upto_region 3 with fail
  obtain ⟨X2, hX⟩ : ∃ W, W = V1.alloc (.cells #[.slice A2 2 c2, .slice B2 2 e2] 28) := ⟨_, rfl⟩
  obtain ⟨g2, hg⟩ : ∃ g, g = V1.heap.size := ⟨_, rfl⟩
  replace HST := Lib.hid (show Below V1.heap.size V1 X2 from by rw [hX]; exact below_al (Below.refl _ _) _)
  have HQ2 := Lib.hid (show BoxC X2 g2 28 #[.slice A2 2 c2, .slice B2 2 e2] from by rw [hX, hg]; exact BoxC.new V1 _ _)
  have HG2 := Lib.hid (show W2.heap.size ≤ g2 from by rw [hg]; exact HL.out.size)
  rw [← hX]
  (try rw [← hg])
  clear hX hg
  replace HL := Lib.hid (chain HL.out HST.out)
  replace HO2 := Lib.hid (HO2.out.below HST.out)
  go_upto_region 4 with fail
  obtain ⟨X3, hX⟩ : ∃ W, W = X2.alloc (.cells #[.int .i64 0, .bool false, .int .i64 0, .bool false, .int .i64 1, .bool false, .int .i64 1, .bool false, .int .i64 0, .bool true, .int .i64 1, .bool true] 30) := ⟨_, rfl⟩
  obtain ⟨gl, hg⟩ : ∃ g, g = X2.heap.size := ⟨_, rfl⟩
  have HBL := Lib.hid (show Below W2.heap.size W2 X2 from HL.out)
  replace HST := Lib.hid (show Below X2.heap.size X2 X3 from by rw [hX]; exact below_al (Below.refl _ _) _)
  have HR := Lib.hid (show OwnK X2.heap.size X3 (.slice (some ⟨gl, 0, none⟩) 6 6) hL from by rw [hX, hg]; exact World.ownsRow_lit (base := X2.heap.size) (e := 30) (size := 2) X2 #[.int .i64 0, .bool false, .int .i64 0, .bool false, .int .i64 1, .bool false, .int .i64 1, .bool false, .int .i64 0, .bool true, .int .i64 1, .bool true] 6 (Nat.le_refl _) (by decide) rfl)
  rw [← hX]
  (try rw [← hg])
  clear hX hg
  replace HL := Lib.hid (chain HL.out HST.out)
  replace HO2 := Lib.hid (HO2.out.below HST.out)
  replace HQ2 := Lib.hid (HQ2.out.below HST.out HQ2.out.lt)
  go_wp2
  go_loopw [4] (fun i wr => ∃ (k : Nat) (A2 : Option Addr) (c2 : Nat) (B2 : Option Addr) (e2 : Nat) (ps : List TV), k ≤ 6 ∧ i = .int .i64 k ∧ BoxC wr g2 28 #[.slice A2 2 c2, .slice B2 2 e2] ∧ OwnSt W2.heap.size wr (.slice A2 2 c2) (.slice B2 2 e2) (hT k) ps ∧ OwnK X2.heap.size wr (.slice (some ⟨gl, 0, none⟩) 6 6) hL ∧ Below W2.heap.size W2 wr) (fun i _ => 6 - (intOf i).toNat)
  case atStart => exact ⟨0, _, _, _, _, ps2, Nat.zero_le _, rfl, HQ2.out, HO2.out, HR.out, HL.out⟩
  case round =>
    clear HQ2 HO2 HR HL HST
    obtain ⟨k, A2, c2, B2, e2, ps, hk, rfl, hq, hos, hr, hl⟩ := hrel
    have HQ2 := Lib.hid hq
    have HO2 := Lib.hid hos
    have HR := Lib.hid hr
    have HL := Lib.hid hl
    clear hq hos hr hl
    have x0 := (HX.out.below HL.out HX.out.lt).cell 0 _ rfl
    have x1 := (HX.out.below HL.out HX.out.lt).cell 1 _ rfl
    have y0 := HQ2.out.cell 0 _ rfl
    have y1 := HQ2.out.cell 1 _ rfl
    by_cases hlt : k < 6
    · have HIS := Lib.hid (hT_some k hlt)
      have hkl : k < hL.length := hlt
      obtain ⟨gl', fl', hge, -, hcl⟩ := pk_at (c := 6) (show 0 < hL.length → _ from by obtain ⟨A', c', e, -, -, -, h⟩ := (Rw.own HR.out (Nat.le_refl _) : PkR wr.heap.size wr _ hL); injection e with e1 _ e3; subst e1; exact h) (by decide)
      injection hge with hge
      injection hge with hge1 hge2
      subst hge1 hge2
      obtain ⟨z0, z1⟩ := hcl k hkl
      rw [Nat.zero_add] at z0 z1
      obtain ⟨kp, hkp⟩ : ∃ p, p = hL[k] := ⟨_, rfl⟩
      have HKP := Lib.hid (show hL.getD k (0, false) = kp from by rw [hkp]; simp [List.getD, hkl])
      have HSN := Lib.hid (show hT (k + 1) = (tst bufP (hT k) (kp.1 : Int) kp.2).getD (hT k) from by rw [← HKP.out]; rfl)
      rw [HKP.out] at HIS
      rw [← hkp] at z0 z1
      obtain ⟨ka, kb⟩ := kp
      dsimp only at z0 z1 HIS HSN
      clear hkp hcl HKP
      go_upto_region 7 with fail
      go_cut [5, 6] (fun vb vi wx => ∃ (g : Nat) (A : Option Addr) (c : Nat) (B : Option Addr) (e : Nat) (ps : List TV), vb = .pointer (some ⟨g, 0, none⟩) ∧ vi = .bool (true) ∧ BoxC wx g 28 #[.slice A (2) c, .slice B (2) e] ∧ OwnSt wr.heap.size wx (.slice A (2) c) (.slice B (2) e) (hT (k + 1)) ps ∧ Below wr.heap.size wr wx ∧ wr.heap.size ≤ g)
      case first =>
        refine wp_region_held_drew (S := (fun w' => (w'.cell? ⟨gp, 0, none⟩ = some (.slice P0 bufP.init.length d0) ∧ w'.cell? ⟨gp, 1, none⟩ = some (.slice P1 bufP.ths.length d1) ∧ w'.cell? ⟨g2, 0, none⟩ = some (.slice A2 2 c2) ∧ w'.cell? ⟨g2, 1, none⟩ = some (.slice B2 2 e2) ∧ w'.cell? ⟨gl, k * 2, none⟩ = some (.int .i64 (ka : Int)) ∧ w'.cell? ⟨gl, k * 2 + 1, none⟩ = some (.bool kb) ∧ True) ∧ Below wr.heap.size wr w')) (by kernel_rfl) ⟨⟨x0, x1, y0, y1, z0, z1, trivial⟩, below_drewN (Below.refl _ _) 1⟩ (fun hHeld => ?_)
        obtain ⟨Xs, hXs⟩ : ∃ W, W = wr.drew := ⟨_, rfl⟩
        have HXs := Lib.hid (show Below wr.heap.size wr Xs from by rw [hXs]; exact below_drewN (Below.refl _ _) 1)
        rw [← hXs] at hHeld ⊢
        clear hXs
        refine wpAnyH_take (i := 0) (v := ?_) rfl (by kernel_rfl) (by kernel_rfl) (by kernel_rfl) (fun _ _ _ h => h) (Or.inl ⟨by rfl, ?_⟩) (by assumption) ?_
        rotate_left
        · intro w hSw; (try dsimp only at hSw); go_simp; (try with_reducible rfl)
        (try simp only [Act.put, List.getElem_toArray, List.getElem_cons_zero, List.getElem_cons_succ, Array.getInternal_eq_getElem, List.setIfInBounds_toArray, List.set_cons_zero, List.set_cons_succ])
        refine wpAnyH_take (i := 1) (v := ?_) rfl (by kernel_rfl) (by kernel_rfl) (by kernel_rfl) (fun _ _ _ h => h) (Or.inl ⟨by rfl, ?_⟩) (by assumption) ?_
        rotate_left
        · intro w hSw; (try dsimp only at hSw); go_simp; (try with_reducible rfl)
        (try simp only [Act.put, List.getElem_toArray, List.getElem_cons_zero, List.getElem_cons_succ, Array.getInternal_eq_getElem, List.setIfInBounds_toArray, List.set_cons_zero, List.set_cons_succ])
        refine wpAnyH_take (i := 2) (v := ?_) rfl (by kernel_rfl) (by kernel_rfl) (by kernel_rfl) (fun _ _ _ h => h) (Or.inl ⟨by rfl, ?_⟩) (by assumption) ?_
        rotate_left
        · intro w hSw; (try dsimp only at hSw); go_simp; (try with_reducible rfl)
        (try simp only [Act.put, List.getElem_toArray, List.getElem_cons_zero, List.getElem_cons_succ, Array.getInternal_eq_getElem, List.setIfInBounds_toArray, List.set_cons_zero, List.set_cons_succ])
        refine wpAnyH_take (i := 3) (v := ?_) rfl (by kernel_rfl) (by kernel_rfl) (by kernel_rfl) (fun _ _ _ h => h) (Or.inl ⟨by rfl, ?_⟩) (by assumption) ?_
        rotate_left
        · intro w hSw; (try dsimp only at hSw); go_simp; (try with_reducible rfl)
        (try simp only [Act.put, List.getElem_toArray, List.getElem_cons_zero, List.getElem_cons_succ, Array.getInternal_eq_getElem, List.setIfInBounds_toArray, List.set_cons_zero, List.set_cons_succ])
        refine wpAnyH_take (i := 4) (v := ?_) rfl (by kernel_rfl) (by kernel_rfl) (by kernel_rfl) (fun _ _ _ h => h) (Or.inl ⟨by rfl, ?_⟩) (by assumption) ?_
        rotate_left
        · intro w hSw; (try dsimp only at hSw); go_simp; (try with_reducible rfl)
        (try simp only [Act.put, List.getElem_toArray, List.getElem_cons_zero, List.getElem_cons_succ, Array.getInternal_eq_getElem, List.setIfInBounds_toArray, List.set_cons_zero, List.set_cons_succ])
        refine wpAnyH_take (i := 5) (v := ?_) rfl (by kernel_rfl) (by kernel_rfl) (by kernel_rfl) (fun _ _ _ h => h) (Or.inl ⟨by rfl, ?_⟩) (by assumption) ?_
        rotate_left
        · intro w hSw; (try dsimp only at hSw); go_simp; (try with_reducible rfl)
        (try simp only [Act.put, List.getElem_toArray, List.getElem_cons_zero, List.getElem_cons_succ, Array.getInternal_eq_getElem, List.setIfInBounds_toArray, List.set_cons_zero, List.set_cons_succ])
        refine wpAnyH_ready (rs := [6, 10]) (by kernel_rfl) (by simp) ?_
        refine AllReadyH.cons rfl (fun K hK => ?_) (AllReadyH.cons rfl (fun K hK => ?_) (AllReadyH.nil))
        · -- 6 first
          go_simp
          refine (tstep_any (ka : Int) kb _ (HPZ.out _ (chain HL.out hHeld.2)).v ((HO2.out.below hHeld.2).sv) (Nat.le_refl _) HPK.out (hT_ok k) ((hT_wide k).more (by omega))).mono ?_
          rintro e Xc ⟨vm, vt, psd, rfl, hos, hb⟩
          rw [HIS.out]
          rw [← HSN.out] at hos
          obtain ⟨Ad, cd, rfl⟩ := own_slice (n := 2) (show Xc.ownsRow _ _ 1 vm (2) _ from by have e := hos.mem; unfold OwnI at e; rwa [show (hT (k + 1)).mem.length = 2 from hT_len1 _] at e)
          obtain ⟨Bd, ed, rfl⟩ := own_slice (n := 2) (show Xc.ownsRow _ _ 4 vt (2) _ from by have e := hos.ths; rwa [show (hT (k + 1)).ths.length = 2 from hT_len2 _] at e)
          have HOD := Lib.hid (show OwnSt wr.heap.size Xc (.slice Ad (2) cd) (.slice Bd (2) ed) (hT (k + 1)) psd from hos.base hHeld.2.size)
          have HBC := Lib.hid (chain hHeld.2 hb)
          refine hK.out _ _ ⟨⟨kc HBC.out x0, kc HBC.out x1, kc HBC.out y0, kc HBC.out y1, kc HBC.out z0, kc HBC.out z1, trivial⟩, HBC.out⟩ (fun hHeld => ?_)
          clear hK K
          (try simp only [Act.put, List.getElem_toArray, List.getElem_cons_zero, List.getElem_cons_succ, Array.getInternal_eq_getElem, List.setIfInBounds_toArray, List.set_cons_zero, List.set_cons_succ])
          clear hb hos
          refine wpAnyH_take (i := 7) (v := ?_) rfl (by kernel_rfl) (by kernel_rfl) (by kernel_rfl) (fun _ _ _ h => h) (Or.inl ⟨by rfl, ?_⟩) (by assumption) ?_
          rotate_left
          · intro w hSw; (try dsimp only at hSw); go_simp; (try with_reducible rfl)
          (try simp only [Act.put, List.getElem_toArray, List.getElem_cons_zero, List.getElem_cons_succ, Array.getInternal_eq_getElem, List.setIfInBounds_toArray, List.set_cons_zero, List.set_cons_succ])
          refine wpAnyH_take (i := 8) (v := ?_) rfl (by kernel_rfl) (by kernel_rfl) (by kernel_rfl) (fun _ _ _ h => h) (Or.inl ⟨by rfl, ?_⟩) (by assumption) ?_
          rotate_left
          · intro w hSw; (try dsimp only at hSw); go_simp; (try with_reducible rfl)
          (try simp only [Act.put, List.getElem_toArray, List.getElem_cons_zero, List.getElem_cons_succ, Array.getInternal_eq_getElem, List.setIfInBounds_toArray, List.set_cons_zero, List.set_cons_succ])
          refine wpAnyH_take (i := 9) (v := ?_) rfl (by kernel_rfl) (by kernel_rfl) (by kernel_rfl) (fun _ _ _ h => h) (Or.inl ⟨by rfl, ?_⟩) (by assumption) ?_
          rotate_left
          · intro w hSw; (try dsimp only at hSw); go_simp; (try with_reducible rfl)
          (try simp only [Act.put, List.getElem_toArray, List.getElem_cons_zero, List.getElem_cons_succ, Array.getInternal_eq_getElem, List.setIfInBounds_toArray, List.set_cons_zero, List.set_cons_succ])
          refine wpAnyH_ready (rs := [10]) (by kernel_rfl) (by simp) ?_
          refine AllReadyH.cons rfl (fun K hK => ?_) AllReadyH.nil
          have HBA := Lib.hid (below_al hHeld.2 (.cells #[.slice none 0 0, .slice none 0 0] 28))
          go_simp
          refine hK.out _ _ ⟨⟨kc HBA.out x0, kc HBA.out x1, kc HBA.out y0, kc HBA.out y1, kc HBA.out z0, kc HBA.out z1, trivial⟩, HBA.out⟩ (fun hHeld => ?_)
          clear hK K
          (try simp only [Act.put, List.getElem_toArray, List.getElem_cons_zero, List.getElem_cons_succ, Array.getInternal_eq_getElem, List.setIfInBounds_toArray, List.set_cons_zero, List.set_cons_succ])
          have HBa := Lib.hid (below_al (Below.refl Xc.heap.size Xc) (.cells #[.slice none 0 0, .slice none 0 0] 28))
          obtain ⟨Xa, hXa⟩ : ∃ W, W = Xc.alloc (.cells #[.slice none 0 0, .slice none 0 0] 28) := ⟨_, rfl⟩
          obtain ⟨ga, hga⟩ : ∃ g, g = Xc.heap.size := ⟨_, rfl⟩
          have HGa := Lib.hid (show wr.heap.size ≤ ga from by rw [hga]; exact HBC.out.size)
          have HQa := Lib.hid (show BoxC Xa ga 28 #[.slice none 0 0, .slice none 0 0] from by rw [hXa, hga]; exact BoxC.new Xc _ _)
          rw [← hXa] at hHeld HBA HBa ⊢
          (try rw [← hga])
          replace HOD := Lib.hid (HOD.out.below HBa.out)
          clear hXa hga HBa
          refine wpAnyH_ready (rs := [11]) (by kernel_rfl) (by simp) ?_
          refine AllReadyH.cons rfl (fun K hK => ?_) AllReadyH.nil
          have q0 := HQa.out.cell 0 _ rfl
          have q1 := HQa.out.cell 1 _ rfl
          have u0 := HQa.out.frozen 0
          have u1 := HQa.out.frozen 1
          have HBS := Lib.hid (show Below wr.heap.size wr ((Xa.setCell ⟨ga, 0, none⟩ (.slice Ad (2) cd)).setCell ⟨ga, 1, none⟩ (.slice Bd (2) ed)) from (hHeld.2.setCell (p := ⟨ga, 0, none⟩) HGa.out _).setCell (p := ⟨ga, 1, none⟩) HGa.out _)
          have HQS := Lib.hid (show BoxC ((Xa.setCell ⟨ga, 0, none⟩ (.slice Ad (2) cd)).setCell ⟨ga, 1, none⟩ (.slice Bd (2) ed)) ga 28 #[(.slice Ad (2) cd), (.slice Bd (2) ed)] from (HQa.out.set 0 _).set 1 _)
          have HOS := Lib.hid (show OwnSt wr.heap.size ((Xa.setCell ⟨ga, 0, none⟩ (.slice Ad (2) cd)).setCell ⟨ga, 1, none⟩ (.slice Bd (2) ed)) (.slice Ad (2) cd) (.slice Bd (2) ed) (hT (k + 1)) psd from (HOD.out.box HQa.out (by decide) (by decide) (by decide) 0 _).box (HQa.out.set 0 _) (by decide) (by decide) (by decide) 1 _)
          go_simp
          refine hK.out _ _ ⟨⟨kc HBS.out x0, kc HBS.out x1, kc HBS.out y0, kc HBS.out y1, kc HBS.out z0, kc HBS.out z1, trivial⟩, HBS.out⟩ (fun hHeld => ?_)
          clear q0 q1 u0 u1
          clear hK K
          (try simp only [Act.put, List.getElem_toArray, List.getElem_cons_zero, List.getElem_cons_succ, Array.getInternal_eq_getElem, List.setIfInBounds_toArray, List.set_cons_zero, List.set_cons_succ])
          refine wpAnyH_ready (rs := [12]) (by kernel_rfl) (by simp) ?_
          refine AllReadyH.cons rfl (fun K hK => ?_) AllReadyH.nil
          go_simp
          refine hK.out _ _ hHeld (fun hHeld => ?_)
          clear hK K
          (try simp only [Act.put, List.getElem_toArray, List.getElem_cons_zero, List.getElem_cons_succ, Array.getInternal_eq_getElem, List.setIfInBounds_toArray, List.set_cons_zero, List.set_cons_succ])
          refine wpAnyH_done (by kernel_rfl) ?_ _
          clear hHeld
          go_wp2_with fail
          go_meet
          exact ⟨ga, Ad, cd, Bd, ed, psd, rfl, rfl, HQS.out, HOS.out, HBS.out, HGa.out⟩
        · -- 10 first
          have HBA := Lib.hid (below_al hHeld.2 (.cells #[.slice none 0 0, .slice none 0 0] 28))
          go_simp
          refine hK.out _ _ ⟨⟨kc HBA.out x0, kc HBA.out x1, kc HBA.out y0, kc HBA.out y1, kc HBA.out z0, kc HBA.out z1, trivial⟩, HBA.out⟩ (fun hHeld => ?_)
          clear hK K
          (try simp only [Act.put, List.getElem_toArray, List.getElem_cons_zero, List.getElem_cons_succ, Array.getInternal_eq_getElem, List.setIfInBounds_toArray, List.set_cons_zero, List.set_cons_succ])
          have HBa := Lib.hid (below_al (Below.refl Xs.heap.size Xs) (.cells #[.slice none 0 0, .slice none 0 0] 28))
          obtain ⟨Xa, hXa⟩ : ∃ W, W = Xs.alloc (.cells #[.slice none 0 0, .slice none 0 0] 28) := ⟨_, rfl⟩
          obtain ⟨ga, hga⟩ : ∃ g, g = Xs.heap.size := ⟨_, rfl⟩
          have HGa := Lib.hid (show wr.heap.size ≤ ga from by rw [hga]; exact HXs.out.size)
          have HQa := Lib.hid (show BoxC Xa ga 28 #[.slice none 0 0, .slice none 0 0] from by rw [hXa, hga]; exact BoxC.new Xs _ _)
          rw [← hXa] at hHeld HBA HBa ⊢
          (try rw [← hga])
          clear hXa hga HBa
          refine wpAnyH_ready (rs := [6]) (by kernel_rfl) (by simp) ?_
          refine AllReadyH.cons rfl (fun K hK => ?_) AllReadyH.nil
          go_simp
          refine (tstep_any (ka : Int) kb _ (HPZ.out _ (chain HL.out hHeld.2)).v ((HO2.out.below hHeld.2).sv) (Nat.le_refl _) HPK.out (hT_ok k) ((hT_wide k).more (by omega))).mono ?_
          rintro e Xc ⟨vm, vt, psd, rfl, hos, hb⟩
          rw [HIS.out]
          rw [← HSN.out] at hos
          obtain ⟨Ad, cd, rfl⟩ := own_slice (n := 2) (show Xc.ownsRow _ _ 1 vm (2) _ from by have e := hos.mem; unfold OwnI at e; rwa [show (hT (k + 1)).mem.length = 2 from hT_len1 _] at e)
          obtain ⟨Bd, ed, rfl⟩ := own_slice (n := 2) (show Xc.ownsRow _ _ 4 vt (2) _ from by have e := hos.ths; rwa [show (hT (k + 1)).ths.length = 2 from hT_len2 _] at e)
          have HOD := Lib.hid (show OwnSt wr.heap.size Xc (.slice Ad (2) cd) (.slice Bd (2) ed) (hT (k + 1)) psd from hos.base hHeld.2.size)
          have HBC := Lib.hid (chain hHeld.2 hb)
          replace HQa := Lib.hid (HQa.out.below hb HQa.out.lt)
          refine hK.out _ _ ⟨⟨kc HBC.out x0, kc HBC.out x1, kc HBC.out y0, kc HBC.out y1, kc HBC.out z0, kc HBC.out z1, trivial⟩, HBC.out⟩ (fun hHeld => ?_)
          clear hK K
          (try simp only [Act.put, List.getElem_toArray, List.getElem_cons_zero, List.getElem_cons_succ, Array.getInternal_eq_getElem, List.setIfInBounds_toArray, List.set_cons_zero, List.set_cons_succ])
          clear hb hos
          refine wpAnyH_take (i := 7) (v := ?_) rfl (by kernel_rfl) (by kernel_rfl) (by kernel_rfl) (fun _ _ _ h => h) (Or.inl ⟨by rfl, ?_⟩) (by assumption) ?_
          rotate_left
          · intro w hSw; (try dsimp only at hSw); go_simp; (try with_reducible rfl)
          (try simp only [Act.put, List.getElem_toArray, List.getElem_cons_zero, List.getElem_cons_succ, Array.getInternal_eq_getElem, List.setIfInBounds_toArray, List.set_cons_zero, List.set_cons_succ])
          refine wpAnyH_take (i := 8) (v := ?_) rfl (by kernel_rfl) (by kernel_rfl) (by kernel_rfl) (fun _ _ _ h => h) (Or.inl ⟨by rfl, ?_⟩) (by assumption) ?_
          rotate_left
          · intro w hSw; (try dsimp only at hSw); go_simp; (try with_reducible rfl)
          (try simp only [Act.put, List.getElem_toArray, List.getElem_cons_zero, List.getElem_cons_succ, Array.getInternal_eq_getElem, List.setIfInBounds_toArray, List.set_cons_zero, List.set_cons_succ])
          refine wpAnyH_take (i := 9) (v := ?_) rfl (by kernel_rfl) (by kernel_rfl) (by kernel_rfl) (fun _ _ _ h => h) (Or.inl ⟨by rfl, ?_⟩) (by assumption) ?_
          rotate_left
          · intro w hSw; (try dsimp only at hSw); go_simp; (try with_reducible rfl)
          (try simp only [Act.put, List.getElem_toArray, List.getElem_cons_zero, List.getElem_cons_succ, Array.getInternal_eq_getElem, List.setIfInBounds_toArray, List.set_cons_zero, List.set_cons_succ])
          refine wpAnyH_ready (rs := [11]) (by kernel_rfl) (by simp) ?_
          refine AllReadyH.cons rfl (fun K hK => ?_) AllReadyH.nil
          have q0 := HQa.out.cell 0 _ rfl
          have q1 := HQa.out.cell 1 _ rfl
          have u0 := HQa.out.frozen 0
          have u1 := HQa.out.frozen 1
          have HBS := Lib.hid (show Below wr.heap.size wr ((Xc.setCell ⟨ga, 0, none⟩ (.slice Ad (2) cd)).setCell ⟨ga, 1, none⟩ (.slice Bd (2) ed)) from (hHeld.2.setCell (p := ⟨ga, 0, none⟩) HGa.out _).setCell (p := ⟨ga, 1, none⟩) HGa.out _)
          have HQS := Lib.hid (show BoxC ((Xc.setCell ⟨ga, 0, none⟩ (.slice Ad (2) cd)).setCell ⟨ga, 1, none⟩ (.slice Bd (2) ed)) ga 28 #[(.slice Ad (2) cd), (.slice Bd (2) ed)] from (HQa.out.set 0 _).set 1 _)
          have HOS := Lib.hid (show OwnSt wr.heap.size ((Xc.setCell ⟨ga, 0, none⟩ (.slice Ad (2) cd)).setCell ⟨ga, 1, none⟩ (.slice Bd (2) ed)) (.slice Ad (2) cd) (.slice Bd (2) ed) (hT (k + 1)) psd from (HOD.out.box HQa.out (by decide) (by decide) (by decide) 0 _).box (HQa.out.set 0 _) (by decide) (by decide) (by decide) 1 _)
          go_simp
          refine hK.out _ _ ⟨⟨kc HBS.out x0, kc HBS.out x1, kc HBS.out y0, kc HBS.out y1, kc HBS.out z0, kc HBS.out z1, trivial⟩, HBS.out⟩ (fun hHeld => ?_)
          clear q0 q1 u0 u1
          clear hK K
          (try simp only [Act.put, List.getElem_toArray, List.getElem_cons_zero, List.getElem_cons_succ, Array.getInternal_eq_getElem, List.setIfInBounds_toArray, List.set_cons_zero, List.set_cons_succ])
          refine wpAnyH_ready (rs := [12]) (by kernel_rfl) (by simp) ?_
          refine AllReadyH.cons rfl (fun K hK => ?_) AllReadyH.nil
          go_simp
          refine hK.out _ _ hHeld (fun hHeld => ?_)
          clear hK K
          (try simp only [Act.put, List.getElem_toArray, List.getElem_cons_zero, List.getElem_cons_succ, Array.getInternal_eq_getElem, List.setIfInBounds_toArray, List.set_cons_zero, List.set_cons_succ])
          refine wpAnyH_done (by kernel_rfl) ?_ _
          clear hHeld
          go_wp2_with fail
          go_meet
          exact ⟨ga, Ad, cd, Bd, ed, psd, rfl, rfl, HQS.out, HOS.out, HBS.out, HGa.out⟩
      case rest =>
        obtain ⟨g5, A5, c5, B5, e5, ps5, rfl, rfl, hq5, ho5, hb5, hg5⟩ := hcut
        have HQ5 := Lib.hid hq5
        have HO5 := Lib.hid ho5
        have HB5 := Lib.hid hb5
        have HG5 := Lib.hid hg5
        have HL5 := Lib.hid (chain HL.out hb5)
        clear hq5 ho5 hb5 hg5 x0 x1 y0 y1 z0 z1
        have x0 := (HX.out.below HL5.out HX.out.lt).cell 0 _ rfl
        have x1 := (HX.out.below HL5.out HX.out.lt).cell 1 _ rfl
        have y0 := HQ5.out.cell 0 _ rfl
        have y1 := HQ5.out.cell 1 _ rfl
        go_wp2_with fail
        refine (rright_any _ (HPZ.out _ HL5.out).v HO5.out.sv (Nat.le_refl _)).mono ?_
        rintro e V1 ⟨d, rfl, hd, hb⟩
        obtain rfl : d = true := hd.2 (hT_ok (k + 1))
        have HB15 := Lib.hid (chain HB5.out hb)
        have HL6 := Lib.hid (chain HL5.out hb)
        have HQ6 := Lib.hid (HQ5.out.below hb HQ5.out.lt)
        have HO6 := Lib.hid (HO5.out.below hb)
        have HQ3 := Lib.hid (HQ2.out.below HB15.out HQ2.out.lt)
        have HR3 := Lib.hid (own_below HR.out HB15.out)
        clear hd hb x0 x1 y0 y1
        have y0 := HQ6.out.cell 0 _ rfl
        have y1 := HQ6.out.cell 1 _ rfl
        have q0 := HQ3.out.cell 0 _ rfl
        have q1 := HQ3.out.cell 1 _ rfl
        have f0 := HQ3.out.frozen 0
        have f1 := HQ3.out.frozen 1
        go_wp2_with fail
        clear y0 y1 q0 q1 f0 f1
        go_roundw
        case rel => exact ⟨k + 1, _, _, _, _, ps5, by omega, by go_num, (HQ3.out.set 0 _).set 1 _, ((HO6.out.base HL.out.size).box HQ3.out (by decide) (by decide) (by decide) 0 _).box (HQ3.out.set 0 _) (by decide) (by decide) (by decide) 1 _, own_box (own_box HR3.out HQ3.out (by decide) 0 _) (HQ3.out.set 0 _) (by decide) 1 _, (HL6.out.setCell (p := ⟨g2, 0, none⟩) HG2.out _).setCell (p := ⟨g2, 1, none⟩) HG2.out _⟩
        case measure => simp [intOf]; omega
    · obtain rfl : k = 6 := by omega
      clear x0 x1 y0 y1 HR
      have HST := Lib.hid (Below.refl wr.heap.size wr)
      have x0 := (HX.out.below HL.out HX.out.lt).cell 0 _ rfl
      have x1 := (HX.out.below HL.out HX.out.lt).cell 1 _ rfl
      have y0 := HQ2.out.cell 0 _ rfl
      have y1 := HQ2.out.cell 1 _ rfl
      go_wp2_with fail
      refine (tstep_any 0 false _ (HPZ.out _ HL.out).v HO2.out.sv (Nat.le_refl _) HPK.out (hT_ok 6) ((hT_wide 6).more (by omega))).mono ?_
      rintro e V2 ⟨vm, vt, ps7, rfl, hos, hb⟩
      have HST := Lib.hid hb
      replace HL := Lib.hid (chain HL.out hb)
      clear hb x0 x1
      clear y0 y1
      have HBV := Lib.hid HST.out
      rw [show (tst bufP (hT 6) 0 false).isSome = false from by rw [hT_n0]; rfl]
      rw [hT_n0] at hos
      have HO7 := Lib.hid (show OwnSt _ V2 vm vt (hT 6) ps7 from hos)
      obtain ⟨A7, c7, rfl⟩ := own_slice (n := 2) HO7.out.mem
      obtain ⟨B7, e7, rfl⟩ := own_slice (n := 2) HO7.out.ths
      clear hos
      go_upto_region 12 with fail
      obtain ⟨X7, hX⟩ : ∃ W, W = V2.alloc (.cells #[.slice A7 2 c7, .slice B7 2 e7] 28) := ⟨_, rfl⟩
      obtain ⟨g7, hg⟩ : ∃ g, g = V2.heap.size := ⟨_, rfl⟩
      replace HST := Lib.hid (show Below V2.heap.size V2 X7 from by rw [hX]; exact below_al (Below.refl _ _) _)
      have HQ7 := Lib.hid (show BoxC X7 g7 28 #[.slice A7 2 c7, .slice B7 2 e7] from by rw [hX, hg]; exact BoxC.new V2 _ _)
      have HG7 := Lib.hid (show W2.heap.size ≤ g7 from by rw [hg]; exact HL.out.size)
      rw [← hX]
      (try rw [← hg])
      clear hX hg
      replace HL := Lib.hid (chain HL.out HST.out)
      replace HO7 := Lib.hid (HO7.out.below HST.out)
      replace HST := Lib.hid (chain HBV.out HST.out)
      clear HO7 HQ7 HG7 HBV
      replace HO2 := Lib.hid (HO2.out.below HST.out)
      replace HQ2 := Lib.hid (HQ2.out.below HST.out HQ2.out.lt)
      have x0 := (HX.out.below HL.out HX.out.lt).cell 0 _ rfl
      have x1 := (HX.out.below HL.out HX.out.lt).cell 1 _ rfl
      have y0 := HQ2.out.cell 0 _ rfl
      have y1 := HQ2.out.cell 1 _ rfl
      go_wp2_with fail
      refine (tstep_any 0 true _ (HPZ.out _ HL.out).v HO2.out.sv (Nat.le_refl _) HPK.out (hT_ok 6) ((hT_wide 6).more (by omega))).mono ?_
      rintro e V3 ⟨vm, vt, ps9, rfl, hos, hb⟩
      have HST := Lib.hid hb
      replace HL := Lib.hid (chain HL.out hb)
      clear hb x0 x1
      clear y0 y1
      have HBV := Lib.hid HST.out
      rw [show (tst bufP (hT 6) 0 true).isSome = false from by rw [hT_n1]; rfl]
      rw [hT_n1] at hos
      have HO9 := Lib.hid (show OwnSt _ V3 vm vt (hT 6) ps9 from hos)
      obtain ⟨A9, c9, rfl⟩ := own_slice (n := 2) HO9.out.mem
      obtain ⟨B9, e9, rfl⟩ := own_slice (n := 2) HO9.out.ths
      clear hos
      go_upto_region 13 with fail
      obtain ⟨X9, hX⟩ : ∃ W, W = V3.alloc (.cells #[.slice A9 2 c9, .slice B9 2 e9] 28) := ⟨_, rfl⟩
      obtain ⟨g9, hg⟩ : ∃ g, g = V3.heap.size := ⟨_, rfl⟩
      replace HST := Lib.hid (show Below V3.heap.size V3 X9 from by rw [hX]; exact below_al (Below.refl _ _) _)
      have HQ9 := Lib.hid (show BoxC X9 g9 28 #[.slice A9 2 c9, .slice B9 2 e9] from by rw [hX, hg]; exact BoxC.new V3 _ _)
      have HG9 := Lib.hid (show W2.heap.size ≤ g9 from by rw [hg]; exact HL.out.size)
      rw [← hX]
      (try rw [← hg])
      clear hX hg
      replace HL := Lib.hid (chain HL.out HST.out)
      replace HO9 := Lib.hid (HO9.out.below HST.out)
      replace HST := Lib.hid (chain HBV.out HST.out)
      clear HO9 HQ9 HG9 HBV
      replace HO2 := Lib.hid (HO2.out.below HST.out)
      replace HQ2 := Lib.hid (HQ2.out.below HST.out HQ2.out.lt)
      have x0 := (HX.out.below HL.out HX.out.lt).cell 0 _ rfl
      have x1 := (HX.out.below HL.out HX.out.lt).cell 1 _ rfl
      have y0 := HQ2.out.cell 0 _ rfl
      have y1 := HQ2.out.cell 1 _ rfl
      go_wp2_with fail
      refine (tstep_any 2 false _ (HPZ.out _ HL.out).v HO2.out.sv (Nat.le_refl _) HPK.out (hT_ok 6) ((hT_wide 6).more (by omega))).mono ?_
      rintro e V4 ⟨vm, vt, ps11, rfl, hos, hb⟩
      have HST := Lib.hid hb
      replace HL := Lib.hid (chain HL.out hb)
      clear hb x0 x1
      clear y0 y1
      have HBV := Lib.hid HST.out
      rw [show (tst bufP (hT 6) 2 false).isSome = false from by rw [hT_n2]; rfl]
      rw [hT_n2] at hos
      have HO11 := Lib.hid (show OwnSt _ V4 vm vt (hT 6) ps11 from hos)
      obtain ⟨A11, c11, rfl⟩ := own_slice (n := 2) HO11.out.mem
      obtain ⟨B11, e11, rfl⟩ := own_slice (n := 2) HO11.out.ths
      clear hos
      go_upto_region 14 with fail
      obtain ⟨X11, hX⟩ : ∃ W, W = V4.alloc (.cells #[.slice A11 2 c11, .slice B11 2 e11] 28) := ⟨_, rfl⟩
      obtain ⟨g11, hg⟩ : ∃ g, g = V4.heap.size := ⟨_, rfl⟩
      replace HST := Lib.hid (show Below V4.heap.size V4 X11 from by rw [hX]; exact below_al (Below.refl _ _) _)
      have HQ11 := Lib.hid (show BoxC X11 g11 28 #[.slice A11 2 c11, .slice B11 2 e11] from by rw [hX, hg]; exact BoxC.new V4 _ _)
      have HG11 := Lib.hid (show W2.heap.size ≤ g11 from by rw [hg]; exact HL.out.size)
      rw [← hX]
      (try rw [← hg])
      clear hX hg
      replace HL := Lib.hid (chain HL.out HST.out)
      replace HO11 := Lib.hid (HO11.out.below HST.out)
      replace HST := Lib.hid (chain HBV.out HST.out)
      clear HO11 HQ11 HG11 HBV
      replace HO2 := Lib.hid (HO2.out.below HST.out)
      replace HQ2 := Lib.hid (HQ2.out.below HST.out HQ2.out.lt)
      have x0 := (HX.out.below HL.out HX.out.lt).cell 0 _ rfl
      have x1 := (HX.out.below HL.out HX.out.lt).cell 1 _ rfl
      obtain ⟨Y0, hY0⟩ : ∃ Y, Y = X11 := ⟨_, rfl⟩
      go_cut [13, 14] (fun vb vi wx => ∃ (g : Nat) (A : Option Addr) (c : Nat) (B : Option Addr) (e : Nat) (ps : List TV), vb = .pointer (some ⟨g, 0, none⟩) ∧ vi = .bool (true) ∧ BoxC wx g 28 #[.slice A (2) c, .slice B (2) e] ∧ OwnSt X11.heap.size wx (.slice A (2) c) (.slice B (2) e) (aS) ps ∧ Below X11.heap.size X11 wx ∧ X11.heap.size ≤ g)
      case first =>
        refine wp_region_held_drew (S := (fun w' => (w'.cell? ⟨gp, 0, none⟩ = some (.slice P0 bufP.init.length d0) ∧ w'.cell? ⟨gp, 1, none⟩ = some (.slice P1 bufP.ths.length d1) ∧ True) ∧ Below X11.heap.size X11 w')) (by kernel_rfl) ⟨⟨x0, x1, trivial⟩, below_drewN (Below.refl _ _) 1⟩ (fun hHeld => ?_)
        obtain ⟨Xs, hXs⟩ : ∃ W, W = X11.drew := ⟨_, rfl⟩
        have HXs := Lib.hid (show Below X11.heap.size X11 Xs from by rw [hXs]; exact below_drewN (Below.refl _ _) 1)
        rw [← hXs] at hHeld ⊢
        clear hXs
        refine wpAnyH_take (i := 0) (v := ?_) rfl (by kernel_rfl) (by kernel_rfl) (by kernel_rfl) (fun _ _ _ h => h) (Or.inl ⟨by rfl, ?_⟩) (by assumption) ?_
        rotate_left
        · intro w hSw; (try dsimp only at hSw); go_simp; (try with_reducible rfl)
        (try simp only [Act.put, List.getElem_toArray, List.getElem_cons_zero, List.getElem_cons_succ, Array.getInternal_eq_getElem, List.setIfInBounds_toArray, List.set_cons_zero, List.set_cons_succ])
        refine wpAnyH_take (i := 1) (v := ?_) rfl (by kernel_rfl) (by kernel_rfl) (by kernel_rfl) (fun _ _ _ h => h) (Or.inl ⟨by rfl, ?_⟩) (by assumption) ?_
        rotate_left
        · intro w hSw; (try dsimp only at hSw); go_simp; (try with_reducible rfl)
        (try simp only [Act.put, List.getElem_toArray, List.getElem_cons_zero, List.getElem_cons_succ, Array.getInternal_eq_getElem, List.setIfInBounds_toArray, List.set_cons_zero, List.set_cons_succ])
        refine wpAnyH_take (i := 3) (v := ?_) rfl (by kernel_rfl) (by kernel_rfl) (by kernel_rfl) (fun _ _ _ h => h) (Or.inl ⟨by rfl, ?_⟩) (by assumption) ?_
        rotate_left
        · intro w hSw; (try dsimp only at hSw); go_simp; (try with_reducible rfl)
        (try simp only [Act.put, List.getElem_toArray, List.getElem_cons_zero, List.getElem_cons_succ, Array.getInternal_eq_getElem, List.setIfInBounds_toArray, List.set_cons_zero, List.set_cons_succ])
        refine wpAnyH_ready (rs := [2, 8]) (by kernel_rfl) (by simp) ?_
        refine AllReadyH.cons rfl (fun K hK => ?_) (AllReadyH.cons rfl (fun K hK => ?_) (AllReadyH.nil))
        · -- 2 first
          go_simp
          refine (rbegin_any _ (HPZ.out _ (chain HL.out hHeld.2)) (Nat.le_refl _) HPK.out).mono ?_
          rintro e Xb ⟨vm, vt, psb, rfl, hos, hb⟩
          obtain ⟨Ab, cb, rfl⟩ := own_slice (n := 2) hos.mem
          obtain ⟨Bb, eb, rfl⟩ := own_slice (n := 2) hos.ths
          have HOB := Lib.hid hos
          have HBB := Lib.hid (chain hHeld.2 hb)
          refine hK.out _ _ ⟨⟨kc HBB.out x0, kc HBB.out x1, trivial⟩, HBB.out⟩ (fun hHeld => ?_)
          clear hK K
          (try simp only [Act.put, List.getElem_toArray, List.getElem_cons_zero, List.getElem_cons_succ, Array.getInternal_eq_getElem, List.setIfInBounds_toArray, List.set_cons_zero, List.set_cons_succ])
          clear hb hos
          refine wpAnyH_ready (rs := [4, 8]) (by kernel_rfl) (by simp) ?_
          refine AllReadyH.cons rfl (fun K hK => ?_) (AllReadyH.cons rfl (fun K hK => ?_) (AllReadyH.nil))
          · -- 4 first
            go_simp
            refine (tstep_any 0 false _ (HPZ.out _ (chain HL.out hHeld.2)).v HOB.out.sv (Nat.le_refl _) HPK.out (beg_ok bufP) ((beg_wide0 HPK.out).more (by omega))).mono ?_
            rintro e Xc ⟨vm, vt, psd, rfl, hos, hb⟩
            rw [show (tst bufP (beg bufP) 0 false).isSome = true from by rw [aS_eq]; rfl]
            rw [show (tst bufP (beg bufP) 0 false).getD (beg bufP) = aS from by rw [aS_eq]; rfl] at hos
            obtain ⟨Ad, cd, rfl⟩ := own_slice (n := 2) (show Xc.ownsRow _ _ 1 vm (2) _ from by have e := hos.mem; unfold OwnI at e; rwa [show (aS).mem.length = 2 from rfl] at e)
            obtain ⟨Bd, ed, rfl⟩ := own_slice (n := 2) (show Xc.ownsRow _ _ 4 vt (2) _ from by have e := hos.ths; rwa [show (aS).ths.length = 2 from rfl] at e)
            have HOD := Lib.hid (show OwnSt X11.heap.size Xc (.slice Ad (2) cd) (.slice Bd (2) ed) (aS) psd from hos.base hHeld.2.size)
            have HBC := Lib.hid (chain hHeld.2 hb)
            refine hK.out _ _ ⟨⟨kc HBC.out x0, kc HBC.out x1, trivial⟩, HBC.out⟩ (fun hHeld => ?_)
            clear hK K
            (try simp only [Act.put, List.getElem_toArray, List.getElem_cons_zero, List.getElem_cons_succ, Array.getInternal_eq_getElem, List.setIfInBounds_toArray, List.set_cons_zero, List.set_cons_succ])
            clear hb hos
            refine wpAnyH_take (i := 5) (v := ?_) rfl (by kernel_rfl) (by kernel_rfl) (by kernel_rfl) (fun _ _ _ h => h) (Or.inl ⟨by rfl, ?_⟩) (by assumption) ?_
            rotate_left
            · intro w hSw; (try dsimp only at hSw); go_simp; (try with_reducible rfl)
            (try simp only [Act.put, List.getElem_toArray, List.getElem_cons_zero, List.getElem_cons_succ, Array.getInternal_eq_getElem, List.setIfInBounds_toArray, List.set_cons_zero, List.set_cons_succ])
            refine wpAnyH_take (i := 6) (v := ?_) rfl (by kernel_rfl) (by kernel_rfl) (by kernel_rfl) (fun _ _ _ h => h) (Or.inl ⟨by rfl, ?_⟩) (by assumption) ?_
            rotate_left
            · intro w hSw; (try dsimp only at hSw); go_simp; (try with_reducible rfl)
            (try simp only [Act.put, List.getElem_toArray, List.getElem_cons_zero, List.getElem_cons_succ, Array.getInternal_eq_getElem, List.setIfInBounds_toArray, List.set_cons_zero, List.set_cons_succ])
            refine wpAnyH_take (i := 7) (v := ?_) rfl (by kernel_rfl) (by kernel_rfl) (by kernel_rfl) (fun _ _ _ h => h) (Or.inl ⟨by rfl, ?_⟩) (by assumption) ?_
            rotate_left
            · intro w hSw; (try dsimp only at hSw); go_simp; (try with_reducible rfl)
            (try simp only [Act.put, List.getElem_toArray, List.getElem_cons_zero, List.getElem_cons_succ, Array.getInternal_eq_getElem, List.setIfInBounds_toArray, List.set_cons_zero, List.set_cons_succ])
            refine wpAnyH_ready (rs := [8]) (by kernel_rfl) (by simp) ?_
            refine AllReadyH.cons rfl (fun K hK => ?_) AllReadyH.nil
            have HBA := Lib.hid (below_al hHeld.2 (.cells #[.slice none 0 0, .slice none 0 0] 28))
            go_simp
            refine hK.out _ _ ⟨⟨kc HBA.out x0, kc HBA.out x1, trivial⟩, HBA.out⟩ (fun hHeld => ?_)
            clear hK K
            (try simp only [Act.put, List.getElem_toArray, List.getElem_cons_zero, List.getElem_cons_succ, Array.getInternal_eq_getElem, List.setIfInBounds_toArray, List.set_cons_zero, List.set_cons_succ])
            have HBa := Lib.hid (below_al (Below.refl Xc.heap.size Xc) (.cells #[.slice none 0 0, .slice none 0 0] 28))
            obtain ⟨Xa, hXa⟩ : ∃ W, W = Xc.alloc (.cells #[.slice none 0 0, .slice none 0 0] 28) := ⟨_, rfl⟩
            obtain ⟨ga, hga⟩ : ∃ g, g = Xc.heap.size := ⟨_, rfl⟩
            have HGa := Lib.hid (show X11.heap.size ≤ ga from by rw [hga]; exact HBC.out.size)
            have HQa := Lib.hid (show BoxC Xa ga 28 #[.slice none 0 0, .slice none 0 0] from by rw [hXa, hga]; exact BoxC.new Xc _ _)
            rw [← hXa] at hHeld HBA HBa ⊢
            (try rw [← hga])
            replace HOD := Lib.hid (HOD.out.below HBa.out)
            clear hXa hga HBa
            refine wpAnyH_ready (rs := [9]) (by kernel_rfl) (by simp) ?_
            refine AllReadyH.cons rfl (fun K hK => ?_) AllReadyH.nil
            have q0 := HQa.out.cell 0 _ rfl
            have q1 := HQa.out.cell 1 _ rfl
            have u0 := HQa.out.frozen 0
            have u1 := HQa.out.frozen 1
            have HBS := Lib.hid (show Below X11.heap.size X11 ((Xa.setCell ⟨ga, 0, none⟩ (.slice Ad (2) cd)).setCell ⟨ga, 1, none⟩ (.slice Bd (2) ed)) from (hHeld.2.setCell (p := ⟨ga, 0, none⟩) HGa.out _).setCell (p := ⟨ga, 1, none⟩) HGa.out _)
            have HQS := Lib.hid (show BoxC ((Xa.setCell ⟨ga, 0, none⟩ (.slice Ad (2) cd)).setCell ⟨ga, 1, none⟩ (.slice Bd (2) ed)) ga 28 #[(.slice Ad (2) cd), (.slice Bd (2) ed)] from (HQa.out.set 0 _).set 1 _)
            have HOS := Lib.hid (show OwnSt X11.heap.size ((Xa.setCell ⟨ga, 0, none⟩ (.slice Ad (2) cd)).setCell ⟨ga, 1, none⟩ (.slice Bd (2) ed)) (.slice Ad (2) cd) (.slice Bd (2) ed) (aS) psd from (HOD.out.box HQa.out (by decide) (by decide) (by decide) 0 _).box (HQa.out.set 0 _) (by decide) (by decide) (by decide) 1 _)
            go_simp
            refine hK.out _ _ ⟨⟨kc HBS.out x0, kc HBS.out x1, trivial⟩, HBS.out⟩ (fun hHeld => ?_)
            clear q0 q1 u0 u1
            clear hK K
            (try simp only [Act.put, List.getElem_toArray, List.getElem_cons_zero, List.getElem_cons_succ, Array.getInternal_eq_getElem, List.setIfInBounds_toArray, List.set_cons_zero, List.set_cons_succ])
            refine wpAnyH_ready (rs := [10]) (by kernel_rfl) (by simp) ?_
            refine AllReadyH.cons rfl (fun K hK => ?_) AllReadyH.nil
            go_simp
            refine hK.out _ _ hHeld (fun hHeld => ?_)
            clear hK K
            (try simp only [Act.put, List.getElem_toArray, List.getElem_cons_zero, List.getElem_cons_succ, Array.getInternal_eq_getElem, List.setIfInBounds_toArray, List.set_cons_zero, List.set_cons_succ])
            refine wpAnyH_done (by kernel_rfl) ?_ _
            clear hHeld
            go_wp2_with fail
            go_meet
            exact ⟨ga, Ad, cd, Bd, ed, psd, rfl, rfl, HQS.out, HOS.out, HBS.out, HGa.out⟩
          · -- 8 first
            have HBA := Lib.hid (below_al hHeld.2 (.cells #[.slice none 0 0, .slice none 0 0] 28))
            go_simp
            refine hK.out _ _ ⟨⟨kc HBA.out x0, kc HBA.out x1, trivial⟩, HBA.out⟩ (fun hHeld => ?_)
            clear hK K
            (try simp only [Act.put, List.getElem_toArray, List.getElem_cons_zero, List.getElem_cons_succ, Array.getInternal_eq_getElem, List.setIfInBounds_toArray, List.set_cons_zero, List.set_cons_succ])
            have HBa := Lib.hid (below_al (Below.refl Xb.heap.size Xb) (.cells #[.slice none 0 0, .slice none 0 0] 28))
            obtain ⟨Xa, hXa⟩ : ∃ W, W = Xb.alloc (.cells #[.slice none 0 0, .slice none 0 0] 28) := ⟨_, rfl⟩
            obtain ⟨ga, hga⟩ : ∃ g, g = Xb.heap.size := ⟨_, rfl⟩
            have HGa := Lib.hid (show X11.heap.size ≤ ga from by rw [hga]; exact HBB.out.size)
            have HQa := Lib.hid (show BoxC Xa ga 28 #[.slice none 0 0, .slice none 0 0] from by rw [hXa, hga]; exact BoxC.new Xb _ _)
            rw [← hXa] at hHeld HBA HBa ⊢
            (try rw [← hga])
            replace HOB := Lib.hid (HOB.out.below HBa.out)
            clear hXa hga HBa
            refine wpAnyH_ready (rs := [4]) (by kernel_rfl) (by simp) ?_
            refine AllReadyH.cons rfl (fun K hK => ?_) AllReadyH.nil
            go_simp
            refine (tstep_any 0 false _ (HPZ.out _ (chain HL.out hHeld.2)).v HOB.out.sv (Nat.le_refl _) HPK.out (beg_ok bufP) ((beg_wide0 HPK.out).more (by omega))).mono ?_
            rintro e Xc ⟨vm, vt, psd, rfl, hos, hb⟩
            rw [show (tst bufP (beg bufP) 0 false).isSome = true from by rw [aS_eq]; rfl]
            rw [show (tst bufP (beg bufP) 0 false).getD (beg bufP) = aS from by rw [aS_eq]; rfl] at hos
            obtain ⟨Ad, cd, rfl⟩ := own_slice (n := 2) (show Xc.ownsRow _ _ 1 vm (2) _ from by have e := hos.mem; unfold OwnI at e; rwa [show (aS).mem.length = 2 from rfl] at e)
            obtain ⟨Bd, ed, rfl⟩ := own_slice (n := 2) (show Xc.ownsRow _ _ 4 vt (2) _ from by have e := hos.ths; rwa [show (aS).ths.length = 2 from rfl] at e)
            have HOD := Lib.hid (show OwnSt X11.heap.size Xc (.slice Ad (2) cd) (.slice Bd (2) ed) (aS) psd from hos.base hHeld.2.size)
            have HBC := Lib.hid (chain hHeld.2 hb)
            replace HQa := Lib.hid (HQa.out.below hb HQa.out.lt)
            refine hK.out _ _ ⟨⟨kc HBC.out x0, kc HBC.out x1, trivial⟩, HBC.out⟩ (fun hHeld => ?_)
            clear hK K
            (try simp only [Act.put, List.getElem_toArray, List.getElem_cons_zero, List.getElem_cons_succ, Array.getInternal_eq_getElem, List.setIfInBounds_toArray, List.set_cons_zero, List.set_cons_succ])
            clear hb hos
            refine wpAnyH_take (i := 5) (v := ?_) rfl (by kernel_rfl) (by kernel_rfl) (by kernel_rfl) (fun _ _ _ h => h) (Or.inl ⟨by rfl, ?_⟩) (by assumption) ?_
            rotate_left
            · intro w hSw; (try dsimp only at hSw); go_simp; (try with_reducible rfl)
            (try simp only [Act.put, List.getElem_toArray, List.getElem_cons_zero, List.getElem_cons_succ, Array.getInternal_eq_getElem, List.setIfInBounds_toArray, List.set_cons_zero, List.set_cons_succ])
            refine wpAnyH_take (i := 6) (v := ?_) rfl (by kernel_rfl) (by kernel_rfl) (by kernel_rfl) (fun _ _ _ h => h) (Or.inl ⟨by rfl, ?_⟩) (by assumption) ?_
            rotate_left
            · intro w hSw; (try dsimp only at hSw); go_simp; (try with_reducible rfl)
            (try simp only [Act.put, List.getElem_toArray, List.getElem_cons_zero, List.getElem_cons_succ, Array.getInternal_eq_getElem, List.setIfInBounds_toArray, List.set_cons_zero, List.set_cons_succ])
            refine wpAnyH_take (i := 7) (v := ?_) rfl (by kernel_rfl) (by kernel_rfl) (by kernel_rfl) (fun _ _ _ h => h) (Or.inl ⟨by rfl, ?_⟩) (by assumption) ?_
            rotate_left
            · intro w hSw; (try dsimp only at hSw); go_simp; (try with_reducible rfl)
            (try simp only [Act.put, List.getElem_toArray, List.getElem_cons_zero, List.getElem_cons_succ, Array.getInternal_eq_getElem, List.setIfInBounds_toArray, List.set_cons_zero, List.set_cons_succ])
            refine wpAnyH_ready (rs := [9]) (by kernel_rfl) (by simp) ?_
            refine AllReadyH.cons rfl (fun K hK => ?_) AllReadyH.nil
            have q0 := HQa.out.cell 0 _ rfl
            have q1 := HQa.out.cell 1 _ rfl
            have u0 := HQa.out.frozen 0
            have u1 := HQa.out.frozen 1
            have HBS := Lib.hid (show Below X11.heap.size X11 ((Xc.setCell ⟨ga, 0, none⟩ (.slice Ad (2) cd)).setCell ⟨ga, 1, none⟩ (.slice Bd (2) ed)) from (hHeld.2.setCell (p := ⟨ga, 0, none⟩) HGa.out _).setCell (p := ⟨ga, 1, none⟩) HGa.out _)
            have HQS := Lib.hid (show BoxC ((Xc.setCell ⟨ga, 0, none⟩ (.slice Ad (2) cd)).setCell ⟨ga, 1, none⟩ (.slice Bd (2) ed)) ga 28 #[(.slice Ad (2) cd), (.slice Bd (2) ed)] from (HQa.out.set 0 _).set 1 _)
            have HOS := Lib.hid (show OwnSt X11.heap.size ((Xc.setCell ⟨ga, 0, none⟩ (.slice Ad (2) cd)).setCell ⟨ga, 1, none⟩ (.slice Bd (2) ed)) (.slice Ad (2) cd) (.slice Bd (2) ed) (aS) psd from (HOD.out.box HQa.out (by decide) (by decide) (by decide) 0 _).box (HQa.out.set 0 _) (by decide) (by decide) (by decide) 1 _)
            go_simp
            refine hK.out _ _ ⟨⟨kc HBS.out x0, kc HBS.out x1, trivial⟩, HBS.out⟩ (fun hHeld => ?_)
            clear q0 q1 u0 u1
            clear hK K
            (try simp only [Act.put, List.getElem_toArray, List.getElem_cons_zero, List.getElem_cons_succ, Array.getInternal_eq_getElem, List.setIfInBounds_toArray, List.set_cons_zero, List.set_cons_succ])
            refine wpAnyH_ready (rs := [10]) (by kernel_rfl) (by simp) ?_
            refine AllReadyH.cons rfl (fun K hK => ?_) AllReadyH.nil
            go_simp
            refine hK.out _ _ hHeld (fun hHeld => ?_)
            clear hK K
            (try simp only [Act.put, List.getElem_toArray, List.getElem_cons_zero, List.getElem_cons_succ, Array.getInternal_eq_getElem, List.setIfInBounds_toArray, List.set_cons_zero, List.set_cons_succ])
            refine wpAnyH_done (by kernel_rfl) ?_ _
            clear hHeld
            go_wp2_with fail
            go_meet
            exact ⟨ga, Ad, cd, Bd, ed, psd, rfl, rfl, HQS.out, HOS.out, HBS.out, HGa.out⟩
        · -- 8 first
          have HBA := Lib.hid (below_al hHeld.2 (.cells #[.slice none 0 0, .slice none 0 0] 28))
          go_simp
          refine hK.out _ _ ⟨⟨kc HBA.out x0, kc HBA.out x1, trivial⟩, HBA.out⟩ (fun hHeld => ?_)
          clear hK K
          (try simp only [Act.put, List.getElem_toArray, List.getElem_cons_zero, List.getElem_cons_succ, Array.getInternal_eq_getElem, List.setIfInBounds_toArray, List.set_cons_zero, List.set_cons_succ])
          have HBa := Lib.hid (below_al (Below.refl Xs.heap.size Xs) (.cells #[.slice none 0 0, .slice none 0 0] 28))
          obtain ⟨Xa, hXa⟩ : ∃ W, W = Xs.alloc (.cells #[.slice none 0 0, .slice none 0 0] 28) := ⟨_, rfl⟩
          obtain ⟨ga, hga⟩ : ∃ g, g = Xs.heap.size := ⟨_, rfl⟩
          have HGa := Lib.hid (show X11.heap.size ≤ ga from by rw [hga]; exact HXs.out.size)
          have HQa := Lib.hid (show BoxC Xa ga 28 #[.slice none 0 0, .slice none 0 0] from by rw [hXa, hga]; exact BoxC.new Xs _ _)
          rw [← hXa] at hHeld HBA HBa ⊢
          (try rw [← hga])
          clear hXa hga HBa
          refine wpAnyH_ready (rs := [2]) (by kernel_rfl) (by simp) ?_
          refine AllReadyH.cons rfl (fun K hK => ?_) AllReadyH.nil
          go_simp
          refine (rbegin_any _ (HPZ.out _ (chain HL.out hHeld.2)) (Nat.le_refl _) HPK.out).mono ?_
          rintro e Xb ⟨vm, vt, psb, rfl, hos, hb⟩
          obtain ⟨Ab, cb, rfl⟩ := own_slice (n := 2) hos.mem
          obtain ⟨Bb, eb, rfl⟩ := own_slice (n := 2) hos.ths
          have HOB := Lib.hid hos
          have HBB := Lib.hid (chain hHeld.2 hb)
          replace HQa := Lib.hid (HQa.out.below hb HQa.out.lt)
          refine hK.out _ _ ⟨⟨kc HBB.out x0, kc HBB.out x1, trivial⟩, HBB.out⟩ (fun hHeld => ?_)
          clear hK K
          (try simp only [Act.put, List.getElem_toArray, List.getElem_cons_zero, List.getElem_cons_succ, Array.getInternal_eq_getElem, List.setIfInBounds_toArray, List.set_cons_zero, List.set_cons_succ])
          clear hb hos
          refine wpAnyH_ready (rs := [4]) (by kernel_rfl) (by simp) ?_
          refine AllReadyH.cons rfl (fun K hK => ?_) AllReadyH.nil
          go_simp
          refine (tstep_any 0 false _ (HPZ.out _ (chain HL.out hHeld.2)).v HOB.out.sv (Nat.le_refl _) HPK.out (beg_ok bufP) ((beg_wide0 HPK.out).more (by omega))).mono ?_
          rintro e Xc ⟨vm, vt, psd, rfl, hos, hb⟩
          rw [show (tst bufP (beg bufP) 0 false).isSome = true from by rw [aS_eq]; rfl]
          rw [show (tst bufP (beg bufP) 0 false).getD (beg bufP) = aS from by rw [aS_eq]; rfl] at hos
          obtain ⟨Ad, cd, rfl⟩ := own_slice (n := 2) (show Xc.ownsRow _ _ 1 vm (2) _ from by have e := hos.mem; unfold OwnI at e; rwa [show (aS).mem.length = 2 from rfl] at e)
          obtain ⟨Bd, ed, rfl⟩ := own_slice (n := 2) (show Xc.ownsRow _ _ 4 vt (2) _ from by have e := hos.ths; rwa [show (aS).ths.length = 2 from rfl] at e)
          have HOD := Lib.hid (show OwnSt X11.heap.size Xc (.slice Ad (2) cd) (.slice Bd (2) ed) (aS) psd from hos.base hHeld.2.size)
          have HBC := Lib.hid (chain hHeld.2 hb)
          replace HQa := Lib.hid (HQa.out.below hb HQa.out.lt)
          refine hK.out _ _ ⟨⟨kc HBC.out x0, kc HBC.out x1, trivial⟩, HBC.out⟩ (fun hHeld => ?_)
          clear hK K
          (try simp only [Act.put, List.getElem_toArray, List.getElem_cons_zero, List.getElem_cons_succ, Array.getInternal_eq_getElem, List.setIfInBounds_toArray, List.set_cons_zero, List.set_cons_succ])
          clear hb hos
          refine wpAnyH_take (i := 5) (v := ?_) rfl (by kernel_rfl) (by kernel_rfl) (by kernel_rfl) (fun _ _ _ h => h) (Or.inl ⟨by rfl, ?_⟩) (by assumption) ?_
          rotate_left
          · intro w hSw; (try dsimp only at hSw); go_simp; (try with_reducible rfl)
          (try simp only [Act.put, List.getElem_toArray, List.getElem_cons_zero, List.getElem_cons_succ, Array.getInternal_eq_getElem, List.setIfInBounds_toArray, List.set_cons_zero, List.set_cons_succ])
          refine wpAnyH_take (i := 6) (v := ?_) rfl (by kernel_rfl) (by kernel_rfl) (by kernel_rfl) (fun _ _ _ h => h) (Or.inl ⟨by rfl, ?_⟩) (by assumption) ?_
          rotate_left
          · intro w hSw; (try dsimp only at hSw); go_simp; (try with_reducible rfl)
          (try simp only [Act.put, List.getElem_toArray, List.getElem_cons_zero, List.getElem_cons_succ, Array.getInternal_eq_getElem, List.setIfInBounds_toArray, List.set_cons_zero, List.set_cons_succ])
          refine wpAnyH_take (i := 7) (v := ?_) rfl (by kernel_rfl) (by kernel_rfl) (by kernel_rfl) (fun _ _ _ h => h) (Or.inl ⟨by rfl, ?_⟩) (by assumption) ?_
          rotate_left
          · intro w hSw; (try dsimp only at hSw); go_simp; (try with_reducible rfl)
          (try simp only [Act.put, List.getElem_toArray, List.getElem_cons_zero, List.getElem_cons_succ, Array.getInternal_eq_getElem, List.setIfInBounds_toArray, List.set_cons_zero, List.set_cons_succ])
          refine wpAnyH_ready (rs := [9]) (by kernel_rfl) (by simp) ?_
          refine AllReadyH.cons rfl (fun K hK => ?_) AllReadyH.nil
          have q0 := HQa.out.cell 0 _ rfl
          have q1 := HQa.out.cell 1 _ rfl
          have u0 := HQa.out.frozen 0
          have u1 := HQa.out.frozen 1
          have HBS := Lib.hid (show Below X11.heap.size X11 ((Xc.setCell ⟨ga, 0, none⟩ (.slice Ad (2) cd)).setCell ⟨ga, 1, none⟩ (.slice Bd (2) ed)) from (hHeld.2.setCell (p := ⟨ga, 0, none⟩) HGa.out _).setCell (p := ⟨ga, 1, none⟩) HGa.out _)
          have HQS := Lib.hid (show BoxC ((Xc.setCell ⟨ga, 0, none⟩ (.slice Ad (2) cd)).setCell ⟨ga, 1, none⟩ (.slice Bd (2) ed)) ga 28 #[(.slice Ad (2) cd), (.slice Bd (2) ed)] from (HQa.out.set 0 _).set 1 _)
          have HOS := Lib.hid (show OwnSt X11.heap.size ((Xc.setCell ⟨ga, 0, none⟩ (.slice Ad (2) cd)).setCell ⟨ga, 1, none⟩ (.slice Bd (2) ed)) (.slice Ad (2) cd) (.slice Bd (2) ed) (aS) psd from (HOD.out.box HQa.out (by decide) (by decide) (by decide) 0 _).box (HQa.out.set 0 _) (by decide) (by decide) (by decide) 1 _)
          go_simp
          refine hK.out _ _ ⟨⟨kc HBS.out x0, kc HBS.out x1, trivial⟩, HBS.out⟩ (fun hHeld => ?_)
          clear q0 q1 u0 u1
          clear hK K
          (try simp only [Act.put, List.getElem_toArray, List.getElem_cons_zero, List.getElem_cons_succ, Array.getInternal_eq_getElem, List.setIfInBounds_toArray, List.set_cons_zero, List.set_cons_succ])
          refine wpAnyH_ready (rs := [10]) (by kernel_rfl) (by simp) ?_
          refine AllReadyH.cons rfl (fun K hK => ?_) AllReadyH.nil
          go_simp
          refine hK.out _ _ hHeld (fun hHeld => ?_)
          clear hK K
          (try simp only [Act.put, List.getElem_toArray, List.getElem_cons_zero, List.getElem_cons_succ, Array.getInternal_eq_getElem, List.setIfInBounds_toArray, List.set_cons_zero, List.set_cons_succ])
          refine wpAnyH_done (by kernel_rfl) ?_ _
          clear hHeld
          go_wp2_with fail
          go_meet
          exact ⟨ga, Ad, cd, Bd, ed, psd, rfl, rfl, HQS.out, HOS.out, HBS.out, HGa.out⟩
      case rest =>
        obtain ⟨g13, A13, c13, B13, e13, ps13, rfl, rfl, hq, ho, hb, hg⟩ := hcut
        have HQ13 := Lib.hid hq
        have HO13 := Lib.hid ho
        have HG13 := Lib.hid hg
        replace HST := Lib.hid hb
        replace HL := Lib.hid (chain HL.out hb)
        clear hq ho hg hb x0 x1
        replace HO2 := Lib.hid (HO2.out.below HST.out)
        replace HQ2 := Lib.hid (HQ2.out.below HST.out HQ2.out.lt)
        have x0 := (HX.out.below HL.out HX.out.lt).cell 0 _ rfl
        have x1 := (HX.out.below HL.out HX.out.lt).cell 1 _ rfl
        have y0 := HQ13.out.cell 0 _ rfl
        have y1 := HQ13.out.cell 1 _ rfl
        have HBV0 := Lib.hid (Below.refl wc.heap.size wc)
        go_wp2_with fail
        refine (tflush_any 0 _ (HPZ.out _ HL.out).v HO13.out.sv (Nat.le_refl _) HPK.out aS_ok (aS_wide.more (by decide))).mono ?_
        rintro e V5 ⟨vm, vt, ps15, rfl, hos, hb⟩
        have HST := Lib.hid hb
        replace HL := Lib.hid (chain HL.out hb)
        clear hb x0 x1
        clear y0 y1
        have HBV := Lib.hid HST.out
        rw [aS_flu0] at hos
        have HO15 := Lib.hid (show OwnSt _ V5 vm vt (fS) ps15 from hos)
        obtain ⟨A15, c15, rfl⟩ := own_slice (n := 2) HO15.out.mem
        obtain ⟨B15, e15, rfl⟩ := own_slice (n := 2) HO15.out.ths
        clear hos
        go_upto_region 16 with fail
        obtain ⟨X15, hX⟩ : ∃ W, W = V5.alloc (.cells #[.slice A15 2 c15, .slice B15 2 e15] 28) := ⟨_, rfl⟩
        obtain ⟨g15, hg⟩ : ∃ g, g = V5.heap.size := ⟨_, rfl⟩
        replace HST := Lib.hid (show Below V5.heap.size V5 X15 from by rw [hX]; exact below_al (Below.refl _ _) _)
        have HQ15 := Lib.hid (show BoxC X15 g15 28 #[.slice A15 2 c15, .slice B15 2 e15] from by rw [hX, hg]; exact BoxC.new V5 _ _)
        have HG15 := Lib.hid (show W2.heap.size ≤ g15 from by rw [hg]; exact HL.out.size)
        rw [← hX]
        (try rw [← hg])
        clear hX hg
        replace HL := Lib.hid (chain HL.out HST.out)
        replace HO15 := Lib.hid (HO15.out.below HST.out)
        replace HST := Lib.hid (chain HBV.out HST.out)
        replace HO2 := Lib.hid (HO2.out.below HST.out)
        replace HQ2 := Lib.hid (HQ2.out.below HST.out HQ2.out.lt)
        replace HO13 := Lib.hid (HO13.out.below HST.out)
        replace HQ13 := Lib.hid (HQ13.out.below HST.out HQ13.out.lt)
        replace HO2 := Lib.hid (show OwnSt _ _ _ _ sE ps from hT_sE ▸ HO2.out)
        clear HBV HBV0 HG2 HG13 HG15 HST
        have y0 := HQ2.out.cell 0 _ rfl
        go_wp2_with fail
        refine (nsame_any (ns := [1, 1]) _ (Rw.own (own_below (show OwnI _ X15 _ [1, 1] from HO2.out.mem) (below_al (Below.refl _ _) _)) (Nat.le_refl _)) (Rw.own (World.ownsRow_lit (base := X15.heap.size) (e := 3) (size := 1) X15 #[.int .i64 1, .int .i64 1] 2 (Nat.le_refl _) (by decide) rfl) (Nat.le_refl _)) (Nat.le_refl _)).mono ?_
        rintro e V6 ⟨rfl, hb⟩
        have HST := Lib.hid (show Below X15.heap.size X15 V6 from chain (below_al (Below.refl _ _) _) hb)
        replace HL := Lib.hid (chain HL.out HST.out)
        clear hb y0
        replace HO2 := Lib.hid (HO2.out.below HST.out)
        replace HQ2 := Lib.hid (HQ2.out.below HST.out HQ2.out.lt)
        replace HO13 := Lib.hid (HO13.out.below HST.out)
        replace HQ13 := Lib.hid (HQ13.out.below HST.out HQ13.out.lt)
        replace HO15 := Lib.hid (HO15.out.below HST.out)
        replace HQ15 := Lib.hid (HQ15.out.below HST.out HQ15.out.lt)
        have y1 := HQ2.out.cell 1 _ rfl
        obtain ⟨gv, cv, gw, cw, ev, r1, r2⟩ := HO2.out.reg (k := 0) (by decide) (j := 0) (by decide)
        injection ev with ev1 ev3 ev2
        clear ev3
        subst ev1 ev2
        obtain ⟨gv', cv', gu, cu, ev, r3, r4⟩ := HO2.out.reg (k := 1) (by decide) (j := 0) (by decide)
        injection ev with ev1 ev3 ev2
        clear ev3
        injection ev1 with ev1
        injection ev1 with ev1 ev4
        subst ev1 ev2
        rw [Nat.zero_mul, Nat.zero_add] at r1
        rw [Nat.one_mul] at r3
        change V6.cell? ⟨gv, 1, none⟩ = some (.slice (some ⟨gw, 0, none⟩) 4 cw) at r1
        change V6.cell? ⟨gv, 4 + 1, none⟩ = some (.slice (some ⟨gu, 0, none⟩) 4 cu) at r3
        change V6.cell? ⟨gw, 0, none⟩ = some (.int .i64 0) at r2
        change V6.cell? ⟨gu, 0, none⟩ = some (.int .i64 0) at r4
        rw [show (4 + 1 : Nat) = 5 from rfl] at r3
        have x0 := (HX.out.below HL.out HX.out.lt).cell 0 _ rfl
        have x1 := (HX.out.below HL.out HX.out.lt).cell 1 _ rfl
        have z0 := HQ13.out.cell 0 _ rfl
        have z1 := HQ13.out.cell 1 _ rfl
        go_wp2_with fail
        refine (tpicks_any _ (HPZ.out _ HL.out).v HO13.out.sv (Nat.le_refl _) aS_ok (by decide)).mono ?_
        rintro e V7 ⟨vk, rfl, hok, hb⟩
        rw [aS_pks] at hok
        have HST := Lib.hid hb
        replace HL := Lib.hid (chain HL.out hb)
        obtain ⟨Ak, ck, rfl⟩ := own_slice hok
        have HOK := Lib.hid hok
        clear hb hok x0 x1 z0 z1 y1 r1 r2 r3 r4
        replace HO2 := Lib.hid (HO2.out.below HST.out)
        replace HQ2 := Lib.hid (HQ2.out.below HST.out HQ2.out.lt)
        replace HO13 := Lib.hid (HO13.out.below HST.out)
        replace HQ13 := Lib.hid (HQ13.out.below HST.out HQ13.out.lt)
        replace HO15 := Lib.hid (HO15.out.below HST.out)
        replace HQ15 := Lib.hid (HQ15.out.below HST.out HQ15.out.lt)
        go_wp2_with fail
        refine (psame_any (ns := [(0, false), (0, true), (1, false)]) _ (Rw.own (own_below HOK.out (below_al (Below.refl _ _) _)) (Nat.le_refl _)) (Rw.own (World.ownsRow_lit (base := V7.heap.size) (e := 30) (size := 2) V7 #[.int .i64 0, .bool false, .int .i64 0, .bool true, .int .i64 1, .bool false] 3 (Nat.le_refl _) (by decide) rfl) (Nat.le_refl _)) (Nat.le_refl _)).mono ?_
        rintro e V8 ⟨rfl, hb⟩
        have HST := Lib.hid (show Below V7.heap.size V7 V8 from chain (below_al (Below.refl _ _) _) hb)
        replace HL := Lib.hid (chain HL.out HST.out)
        clear hb
        replace HO2 := Lib.hid (HO2.out.below HST.out)
        replace HQ2 := Lib.hid (HQ2.out.below HST.out HQ2.out.lt)
        replace HO13 := Lib.hid (HO13.out.below HST.out)
        replace HQ13 := Lib.hid (HQ13.out.below HST.out HQ13.out.lt)
        replace HO15 := Lib.hid (HO15.out.below HST.out)
        replace HQ15 := Lib.hid (HQ15.out.below HST.out HQ15.out.lt)
        have z1 := HQ13.out.cell 1 _ rfl
        obtain ⟨gq, cq, curq, Aq, cq1, Bq, cq2, eq', -, -, -, -, -, b3, -, -⟩ := HO13.out.cells (k := 0) (by decide)
        rw [Nat.zero_mul, Nat.zero_add] at b3
        injection eq' with eq1 eq3 eq2
        clear eq3
        subst eq1 eq2
        change V8.cell? ⟨gq, 3, none⟩ = some (.slice Bq 1 cq2) at b3
        have y0 := HQ13.out.cell 0 _ rfl
        go_wp2_with fail
        refine (nsame_any (ns := [0, 0]) _ (Rw.own (own_below (show OwnI _ V8 _ [0, 0] from HO13.out.mem) (below_al (Below.refl _ _) _)) (Nat.le_refl _)) (Rw.own (World.ownsRow_lit (base := V8.heap.size) (e := 3) (size := 1) V8 #[.int .i64 0, .int .i64 0] 2 (Nat.le_refl _) (by decide) rfl) (Nat.le_refl _)) (Nat.le_refl _)).mono ?_
        rintro e V9 ⟨rfl, hb⟩
        have HST := Lib.hid (show Below V8.heap.size V8 V9 from chain (below_al (Below.refl _ _) _) hb)
        replace HL := Lib.hid (chain HL.out HST.out)
        clear hb y0
        replace HO2 := Lib.hid (HO2.out.below HST.out)
        replace HQ2 := Lib.hid (HQ2.out.below HST.out HQ2.out.lt)
        replace HO13 := Lib.hid (HO13.out.below HST.out)
        replace HQ13 := Lib.hid (HQ13.out.below HST.out HQ13.out.lt)
        replace HO15 := Lib.hid (HO15.out.below HST.out)
        replace HQ15 := Lib.hid (HQ15.out.below HST.out HQ15.out.lt)
        clear z1 b3
        have y0 := HQ15.out.cell 0 _ rfl
        go_wp2_with fail
        refine (nsame_any (ns := [1, 0]) _ (Rw.own (own_below (show OwnI _ V9 _ [1, 0] from HO15.out.mem) (below_al (Below.refl _ _) _)) (Nat.le_refl _)) (Rw.own (World.ownsRow_lit (base := V9.heap.size) (e := 3) (size := 1) V9 #[.int .i64 1, .int .i64 0] 2 (Nat.le_refl _) (by decide) rfl) (Nat.le_refl _)) (Nat.le_refl _)).mono ?_
        rintro e V10 ⟨rfl, hb⟩
        have HST := Lib.hid (show Below V9.heap.size V9 V10 from chain (below_al (Below.refl _ _) _) hb)
        replace HL := Lib.hid (chain HL.out HST.out)
        clear hb y0
        replace HO2 := Lib.hid (HO2.out.below HST.out)
        replace HQ2 := Lib.hid (HQ2.out.below HST.out HQ2.out.lt)
        replace HO13 := Lib.hid (HO13.out.below HST.out)
        replace HQ13 := Lib.hid (HQ13.out.below HST.out HQ13.out.lt)
        replace HO15 := Lib.hid (HO15.out.below HST.out)
        replace HQ15 := Lib.hid (HQ15.out.below HST.out HQ15.out.lt)
        go_wp2
        go_ret
        exact ⟨rfl, chain HB2.out HL.out⟩
end Go.Proofs.Ytkbnppidkhbbeaa
