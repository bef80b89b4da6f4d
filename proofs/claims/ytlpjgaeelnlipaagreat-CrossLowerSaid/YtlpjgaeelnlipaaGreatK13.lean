/-
  ROWS OF PICKS; the document's SamePicks, of alike ones.
  THE DOCUMENT's Drain and All.
-/
import Derived.Test.YtlpjgaeelnlipaaGreatK02
import Derived.Test.YtlpjgaeelnlipaaGreatK12
import Derived.Deep.RegionHeld3
import Derived.Deep.DeepCutAuto
set_option linter.unusedVariables false
set_option linter.unusedSimpArgs false
namespace Go.Proofs.YtlpjgaeelnlipaaGreat
open Go.RowKit

theorem info_pk : (Tryz.prog.info? 53).map (fun i => (i.zero, i.size, i.bytes)) = some (some (.agg #[.int .i64 0, .bool false]), 2, 16) := by kernel_rfl
end Go.Proofs.YtlpjgaeelnlipaaGreat
namespace Go.Proofs.YtlpjgaeelnlipaaGreat
open Go.RowKit
open BfM

theorem arr_at_nat (m : List Int) (k : Nat) (n : Int) : arr m ⟨(k : Int), n⟩ = m.set k n := by simp [arr]
theorem plc_no {m : Nat} {l : Int} (h : ¬ (0 ≤ l ∧ l < m)) : plc m l = false := decide_eq_false h
theorem plc_in {m : Nat} {l : Int} (h : 0 ≤ l ∧ l < m) : plc m l = true := decide_eq_true h
set_option maxHeartbeats 8000000 in
set_option maxRecDepth 100000 in
theorem rdrain_any {B : Nat} {v u : Value} {b : List Wr} {m : List Int} (w : World) (hv : WrR B w v b) (hu : IntR B w u m) (hBB : B ≤ w.heap.size) (hl : b.length ≤ 1000000) (hm : m.length ≤ 1000000) :
    Calls Tryz.prog 50 #[v, u] w (DrRet b m w) := by
  obtain ⟨A2, c2, rfl, q1, q2, q0, q3⟩ := hu
  have HV := Lib.hid hv
  obtain ⟨A1, c1, rfl, g1, g2, g0, g3⟩ := hv
  unfold maxLen at g2 q2
  obtain ⟨i0, hi0, hz0, hz1, hz2⟩ := info_parts info_nu
  obtain ⟨j0, hj0, hy0, hy1, hy2⟩ := info_parts info_wr
  have hB1 := below_al (Below.refl w.heap.size w) (.cells #[] 3)
  have HC := Lib.hid (src_rw nuC_len q0 q3 (hB1.mono hBB))
  have HL := Lib.hid (fl_len nuC_len m)
  have HO := Lib.hid (show (w.alloc (.cells #[] 3)).ownsRow w.heap.size 3 1 (.slice (some ⟨w.heap.size, 0, none⟩) 0 0) 0 [] from by
    have := World.ownsRow_lit (base := w.heap.size) (e := 3) (size := 1) w #[] 0 (Nat.le_refl _) (by decide) rfl
    simpa using this)
  have HON := Lib.hid (one_nu m)
  have HQ0 := Lib.hid q0
  clear q0 q3
  go_enter Tryz.func50, Tryz.ntmps50
  go_upto_region 2 with (at_builtin; refine wpList_append_rw _ rfl _ _ 22 rfl w.heap.size 3 i0 (.int .i64 0) 1 8 Tryz.underlying22 hi0 hz0 hz1 hz2 rfl (by decide) _ 0 [] rfl HO.out A2 m.length c2 (m.flatMap nuC) rfl HL.out HQ0.out HC.out HON.out (by unfold maxLen; omega) (by omega) (by simp) ?_; intro v1 w1 hown1 hg1'; obtain ⟨A8, c8, rfl⟩ := own_slice hown1)
  simp only [Nat.zero_add, List.nil_append] at hown1
  have HB1 := Lib.hid (below_append hB1 HO.out (Nat.le_refl _) (by simp) hg1')
  have HO1 := Lib.hid (show OwnI w.heap.size w1 (.slice A8 m.length c8) m from hown1)
  clear hown1 hg1' HC HO HL HON hB1
  cases b with
  | nil =>
    have HOX := HO1
    have HBX := HB1
    have HCAN := Lib.hid (show can [] m.length = false from rfl)
    have HDM := Lib.hid (show drM [] m = m from rfl)
    have HDB := Lib.hid (show drB [] m = [] from rfl)
    have hbe := below_al (Below.refl w1.heap.size w1) (.cells #[] 94)
    have HOB := Lib.hid (show (w1.alloc (.cells #[] 94)).ownsRow w1.heap.size 94 2 (.slice (some ⟨w1.heap.size, 0, none⟩) 0 0) 0 [] from by
      have := World.ownsRow_lit (base := w1.heap.size) (e := 94) (size := 2) w1 #[] 0 (Nat.le_refl _) (by decide) rfl
      simpa using this)
    have HXC := Lib.hid (src_rw (c := c1) wrC_len g0 g3 ((chain HB1.out hbe).mono hBB))
    have HXL := Lib.hid (fl_len wrC_len [])
    have HXO := Lib.hid (one_w [])
    have HXN := Lib.hid (g0)
    clear g3
    go_wp2_with (at_builtin; refine wpList_append_rw _ rfl _ _ 42 rfl w1.heap.size 94 j0 (.agg #[.int .i64 0, .int .i64 0]) 2 16 Tryz.underlying42 hj0 hy0 hy1 hy2 rfl (by decide) _ 0 [] rfl HOB.out A1 0 c1 (([] : List Wr).flatMap wrC) rfl HXL.out HXN.out HXC.out HXO.out (by unfold maxLen; omega) (by omega) (by simp) ?_; intro v3 w3 hown3 hg3'; obtain ⟨A9, c9, rfl⟩ := own_slice hown3)
    have hbw := below_append hbe HOB.out (Nat.le_refl _) (by simp) hg3'
    simp only [Nat.zero_add, List.nil_append] at hown3
    have hB9 := chain HBX.out hbw
    have HK := Lib.hid (own_below HOX.out hbw)
    go_ret3
    exact ⟨_, _, w1.heap.size, by rw [HCAN.out]; rfl, HBX.out.size, by rw [HDB.out]; exact hown3, by rw [HDM.out]; exact HK.out, fun g hg => (HOX.out.lt g hg).2, hB9⟩
  | cons x r =>
    obtain ⟨b2, f2, rfl, hb2, hc2⟩ := wr_at (c := c1) g3 (by simp)
    obtain ⟨y0, y1⟩ := hc2 0 (by simp)
    simp only [Nat.zero_mul, Nat.add_zero, List.getElem_cons_zero] at y0 y1
    have Y0 := Lib.hid y0
    have Y1 := Lib.hid y1
    have hB := HB1.out
    have z0 := ((hB.mono hBB).cell (p := ⟨b2, f2, none⟩) hb2).trans y0
    have z1 := ((hB.mono hBB).cell (p := ⟨b2, f2 + 1, none⟩) hb2).trans y1
    clear y0 y1 hc2
    obtain ⟨l, n⟩ := x
    have hrl : r.length + 1 ≤ 1000000 := by simpa using hl
    have hne : (((r.length : Int) + 1) == 0) = false := by rw [beq_eq_false_iff_ne]; omega
    have hlen : ((⟨l, n⟩ : Wr) :: r).length = r.length + 1 := rfl
    rw [hlen] at g1
    by_cases hin : 0 ≤ l ∧ l < m.length
    · obtain ⟨h1', h2⟩ := hin
      have hp := plc_in ⟨h1', h2⟩
      have h1 : ¬ l < 0 := by omega
      clear h1'
      have hcan : can (⟨l, n⟩ :: r) m.length = true := hp
      have hdm : drM (⟨l, n⟩ :: r) m = arr m ⟨l, n⟩ := if_pos hp
      have hdb : drB (⟨l, n⟩ :: r) m = r := if_pos hcan
      have HCAN := Lib.hid hcan
      have HDM := Lib.hid hdm
      have HDB := Lib.hid hdb
      clear hcan hdm hdb hp
      obtain ⟨q, rfl⟩ : ∃ q : Nat, l = q := ⟨l.toNat, by omega⟩
      have hq : q < m.length := by omega
      obtain ⟨g, cc, e, hg1, hg2, hg3, hg4⟩ := bown_form HO1.out (by omega)
      injection e with e1 e2 e3
      subst e1; subst e3
      have hcl := ownI_cell HO1.out hq
      have hfr := HO1.out.frozenAt q
      have HS := Lib.hid (ownI_set HO1.out q n)
      have HBS := Lib.hid (hB.setCell (p := ⟨g, q, none⟩) hg1 (.int .i64 n))
      generalize m[q] = old at *
      clear hg3 hg4 e2 g3 g0
      go_upto_region 4 with fail
      refine wp_region_held_drew (S := (fun w' => (w'.cell? ⟨b2, f2, none⟩ = some (.int .i64 (q : Int)) ∧ w'.cell? ⟨b2, f2 + 1, none⟩ = some (.int .i64 n)) ∧ Below w.heap.size w w')) (by kernel_rfl) ⟨⟨z0, z1⟩, below_drewN hB 1⟩ (fun hHeld => ?_)
      refine wtk 0 ?_ ?_ ?_
      rotate_left
      · intro w hSw; (try dsimp only at hSw); go_simp; (try with_reducible rfl)
      (try simp only [Act.put, pt8])
      refine wtk 1 ?_ ?_ ?_
      rotate_left
      · intro w hSw; (try dsimp only at hSw); go_simp; (try with_reducible rfl)
      (try simp only [Act.put, pt8])
      refine wtk 2 ?_ ?_ ?_
      rotate_left
      · intro w hSw; (try dsimp only at hSw); go_simp; (try with_reducible rfl)
      (try simp only [Act.put, pt8])
      refine wtk 3 ?_ ?_ ?_
      rotate_left
      · intro w hSw; (try dsimp only at hSw); go_simp; (try with_reducible rfl)
      (try simp only [Act.put, pt8])
      refine wtk 4 ?_ ?_ ?_
      rotate_left
      · intro w hSw; (try dsimp only at hSw); go_simp; (try with_reducible rfl)
      (try simp only [Act.put, pt8])
      refine wtk 5 ?_ ?_ ?_
      rotate_left
      · intro w hSw; (try dsimp only at hSw); go_simp; (try with_reducible rfl)
      (try simp only [Act.put, pt8])
      refine wtk 6 ?_ ?_ ?_
      rotate_left
      · intro w hSw; (try dsimp only at hSw); go_simp; (try with_reducible rfl)
      (try simp only [Act.put, pt8])
      refine wtk 7 ?_ ?_ ?_
      rotate_left
      · intro w hSw; (try dsimp only at hSw); go_simp; (try with_reducible rfl)
      (try simp only [Act.put, pt8])
      refine wtk 8 ?_ ?_ ?_
      rotate_left
      · intro w hSw; (try dsimp only at hSw); go_simp; (try with_reducible rfl)
      (try simp only [Act.put, pt8])
      refine wtk 9 ?_ ?_ ?_
      rotate_left
      · intro w hSw; (try dsimp only at hSw); go_simp; (try with_reducible rfl)
      (try simp only [Act.put, pt8])
      refine wpAnyH_ready (rs := [10]) (by kernel_rfl) (by simp) ?_
      refine AllReadyH.cons rfl (fun K hK => ?_) AllReadyH.nil
      go_simp
      refine hK.out _ _ ⟨⟨((HBS.out.mono hBB).cell (p := ⟨b2, f2, none⟩) hb2).trans Y0.out, ((HBS.out.mono hBB).cell (p := ⟨b2, f2 + 1, none⟩) hb2).trans Y1.out⟩, HBS.out.drew⟩ (fun hHeld => ?_)
      clear hK K
      (try simp only [Act.put, pt8])
      refine wpAnyH_done (by kernel_rfl) ?_ _
      have HOX := Lib.hid (World.ownsRow.drew (show OwnI w.heap.size (w1.setCell ⟨g, q, none⟩ (.int .i64 n)) (.slice (some ⟨g, 0, none⟩) m.length c8) (arr m ⟨(q : Int), n⟩) from by rw [arr_at_nat]; exact HS.out))
      have HBX := Lib.hid HBS.out.drew
      clear hHeld hcl hfr z0 z1 HS HBS HO1 HB1 hB
      obtain ⟨W5, hW5⟩ : ∃ W, W = (w1.setCell ⟨g, q, none⟩ (.int .i64 n)).drew := ⟨_, rfl⟩
      rw [← hW5] at HOX HBX ⊢
      clear hW5
      have hbe := below_al (Below.refl W5.heap.size W5) (.cells #[] 94)
      have HOB := Lib.hid (show (W5.alloc (.cells #[] 94)).ownsRow W5.heap.size 94 2 (.slice (some ⟨W5.heap.size, 0, none⟩) 0 0) 0 [] from by
        have := World.ownsRow_lit (base := W5.heap.size) (e := 94) (size := 2) W5 #[] 0 (Nat.le_refl _) (by decide) rfl
        simpa using this)
      have HXL := Lib.hid (fl_len wrC_len r)
      have HXO := Lib.hid (one_w r)
      by_cases hc1 : c1 = 1
      · have hr0 : r.length = 0 := by omega
        go_wp2
        go_ret3
        have hr : r = [] := List.eq_nil_of_length_eq_zero hr0
        have hB9 := chain HBX.out hbe
        have HK := Lib.hid (own_below HOX.out hbe)
        exact ⟨_, _, W5.heap.size, by rw [HCAN.out]; rfl, HBX.out.size, by rw [HDB.out, hr]; exact HOB.out, by rw [HDM.out]; exact HK.out, fun g hg => (HOX.out.lt g hg).2, hB9⟩
      · have hT := rw_tail (A := none) HV.out
        obtain ⟨A', c', e, t1, t2, t0, t3⟩ := hT
        injection e with e1 _ e3
        have HXC := Lib.hid (src_rw (c := c') wrC_len t0 t3 ((chain HBX.out hbe).mono hBB))
        rw [← e1] at HXC
        have HXN := Lib.hid (show some (⟨b2, f2 + 2, none⟩ : Addr) = none → r.length = 0 ∧ c1 - 1 = 0 from fun e => (by cases e))
        clear t0 t1 t2 t3 e1 e3
        have hcc : ¬ (1 = c1) := fun e => hc1 e.symm
        go_wp2_with (at_builtin; refine wpList_append_rw _ rfl _ _ 42 rfl W5.heap.size 94 j0 (.agg #[.int .i64 0, .int .i64 0]) 2 16 Tryz.underlying42 hj0 hy0 hy1 hy2 rfl (by decide) _ 0 [] rfl HOB.out (some ⟨b2, f2 + 2, none⟩) r.length (c1 - 1) (r.flatMap wrC) rfl HXL.out HXN.out HXC.out HXO.out (by unfold maxLen; omega) (by omega) (by simp) ?_; intro v3 w3 hown3 hg3'; obtain ⟨A9, c9, rfl⟩ := own_slice hown3)
        have hbw := below_append hbe HOB.out (Nat.le_refl _) (by simp) hg3'
        simp only [Nat.zero_add, List.nil_append] at hown3
        have hB9 := chain HBX.out hbw
        have HK := Lib.hid (own_below HOX.out hbw)
        go_ret3
        exact ⟨_, _, W5.heap.size, by rw [HCAN.out]; rfl, HBX.out.size, by rw [HDB.out]; exact hown3, by rw [HDM.out]; exact HK.out, fun g hg => (HOX.out.lt g hg).2, hB9⟩
    · have hp := plc_no hin
      have hcan : can (⟨l, n⟩ :: r) m.length = false := hp
      have hdm : drM (⟨l, n⟩ :: r) m = m := if_neg (by show ¬ plc m.length l = true; rw [hp]; exact Bool.false_ne_true)
      have hdb : drB (⟨l, n⟩ :: r) m = ⟨l, n⟩ :: r := if_neg (by rw [hcan]; exact Bool.false_ne_true)
      have HCAN := Lib.hid hcan
      have HDM := Lib.hid hdm
      have HDB := Lib.hid hdb
      clear hcan hdm hdb hp
      have HOX := HO1
      have HBX := HB1
      have hbe := below_al (Below.refl w1.heap.size w1) (.cells #[] 94)
      have HOB := Lib.hid (show (w1.alloc (.cells #[] 94)).ownsRow w1.heap.size 94 2 (.slice (some ⟨w1.heap.size, 0, none⟩) 0 0) 0 [] from by
        have := World.ownsRow_lit (base := w1.heap.size) (e := 94) (size := 2) w1 #[] 0 (Nat.le_refl _) (by decide) rfl
        simpa using this)
      have HXC := Lib.hid (src_rw (c := c1) wrC_len g0 g3 ((chain HB1.out hbe).mono hBB))
      have HXL := Lib.hid (show (((⟨l, n⟩ : Wr) :: r).flatMap wrC).length = (r.length + 1) * 2 from fl_len wrC_len (⟨l, n⟩ :: r))
      have HXO := Lib.hid (one_w (⟨l, n⟩ :: r))
      have HXN := Lib.hid (show some (⟨b2, f2, none⟩ : Addr) = none → r.length + 1 = 0 ∧ c1 = 0 from fun e => (by cases e))
      clear g3 g0 hB
      by_cases h1 : l < 0
      · go_wp2_with (at_builtin; refine wpList_append_rw _ rfl _ _ 42 rfl w1.heap.size 94 j0 (.agg #[.int .i64 0, .int .i64 0]) 2 16 Tryz.underlying42 hj0 hy0 hy1 hy2 rfl (by decide) _ 0 [] rfl HOB.out (some ⟨b2, f2, none⟩) (r.length + 1) c1 (((⟨l, n⟩ : Wr) :: r).flatMap wrC) rfl HXL.out HXN.out HXC.out HXO.out (by unfold maxLen; omega) (by omega) (by simp) ?_; intro v3 w3 hown3 hg3'; obtain ⟨A9, c9, rfl⟩ := own_slice hown3)
        have hbw := below_append hbe HOB.out (Nat.le_refl _) (by simp) hg3'
        simp only [Nat.zero_add, List.nil_append] at hown3
        have hB9 := chain HBX.out hbw
        have HK := Lib.hid (own_below HOX.out hbw)
        go_ret3
        exact ⟨_, _, w1.heap.size, by rw [HCAN.out]; rfl, HBX.out.size, by rw [HDB.out]; exact hown3, by rw [HDM.out]; exact HK.out, fun g hg => (HOX.out.lt g hg).2, hB9⟩
      · have h2 : ¬ l < m.length := fun h => hin ⟨by omega, h⟩
        clear hin
        go_wp2_with (at_builtin; refine wpList_append_rw _ rfl _ _ 42 rfl w1.heap.size 94 j0 (.agg #[.int .i64 0, .int .i64 0]) 2 16 Tryz.underlying42 hj0 hy0 hy1 hy2 rfl (by decide) _ 0 [] rfl HOB.out (some ⟨b2, f2, none⟩) (r.length + 1) c1 (((⟨l, n⟩ : Wr) :: r).flatMap wrC) rfl HXL.out HXN.out HXC.out HXO.out (by unfold maxLen; omega) (by omega) (by simp) ?_; intro v3 w3 hown3 hg3'; obtain ⟨A9, c9, rfl⟩ := own_slice hown3)
        have hbw := below_append hbe HOB.out (Nat.le_refl _) (by simp) hg3'
        simp only [Nat.zero_add, List.nil_append] at hown3
        have hB9 := chain HBX.out hbw
        have HK := Lib.hid (own_below HOX.out hbw)
        go_ret3
        exact ⟨_, _, w1.heap.size, by rw [HCAN.out]; rfl, HBX.out.size, by rw [HDB.out]; exact hown3, by rw [HDM.out]; exact HK.out, fun g hg => (HOX.out.lt g hg).2, hB9⟩
end Go.Proofs.YtlpjgaeelnlipaaGreat
