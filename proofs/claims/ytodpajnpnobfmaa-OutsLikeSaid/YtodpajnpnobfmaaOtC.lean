/-
  ENDS: copies of rows, of ends, of rows of ends.
-/
import Derived.Test.YtodpajnpnobfmaaOtB
namespace Go.Proofs.Ytodpajnpnobfmaa
open Go.RowKit
set_option linter.unusedVariables false
set_option linter.unusedSimpArgs false
open OtM

set_option maxHeartbeats 4000000 in
set_option maxRecDepth 100000 in
theorem clonei_any {B : Nat} {v : Value} {l : List Int} (w : World) (hv : IntR B w v l) (hBB : B ≤ w.heap.size) (hl : l.length ≤ 1000000) :
    Calls Try.prog 43 #[v] w fun e w' => ∃ u, e = .returned u ∧ OwnI w.heap.size w' u l ∧ Below w.heap.size w w' := by
  obtain ⟨A, c, rfl, h1, h2, h0, h3⟩ := hv
  unfold maxLen at h2
  obtain ⟨i0, hi0, hz0, hz1, hz2⟩ := info_parts info_nu
  have heq := fun (W : World) (a : Option Addr) (n c : Nat) => Lib.run_eql_slice_nil (P := Try.prog) W 22 3 a n c 0 0 Try.underlying22
  cases A with
  | none =>
    have HE := Lib.hid (List.eq_nil_of_length_eq_zero (h0 rfl).1)
    clear h0 h1 h2 h3
    go_enter Try.func43, Try.ntmps43
    go_wp2
    go_ret
    unfold OwnI
    rw [HE.out]
    exact ⟨_, rfl, World.ownsRow_nil _ _ _ _, Below.refl _ _⟩
  | some ad =>
    have hB1 := below_al (Below.refl w.heap.size w) (.cells #[] 3)
    have HC := Lib.hid (src_rw nuC_len h0 h3 (hB1.mono hBB) _ rfl)
    have HL := Lib.hid (fl_len nuC_len l)
    have HO := Lib.hid (show (w.alloc (.cells #[] 3)).ownsRow w.heap.size 3 1 (.slice (some ⟨w.heap.size, 0, none⟩) 0 0) 0 [] from by
      have := World.ownsRow_lit (base := w.heap.size) (e := 3) (size := 1) w #[] 0 (Nat.le_refl _) (by decide) rfl
      simpa using this)
    have HON := Lib.hid (one_nu l)
    clear h3 h0
    go_enter Try.func43, Try.ntmps43
    go_wp2_with (at_builtin; refine wpList_append_own _ rfl _ _ 22 rfl w.heap.size 3 i0 (.int .i64 0) 1 8 Try.underlying22 hi0 hz0 hz1 hz2 rfl (by decide) _ 0 [] rfl HO.out ad l.length c (l.flatMap nuC) rfl HL.out HC.out HON.out (by unfold maxLen; omega) (by omega) (by simp) ?_; intro v1 w1 hown1 hg1 _; obtain ⟨A8, c8, rfl⟩ := own_slice hown1)
    go_ret
    simp only [Nat.zero_add, List.nil_append] at hown1
    refine ⟨_, rfl, hown1, below_append hB1 HO.out (Nat.le_refl _) (by simp) hg1⟩
set_option maxHeartbeats 4000000 in
set_option maxRecDepth 100000 in
theorem cloneo_any {B : Nat} {v : Value} {l : List OV} (w : World) (hv : OutsX B w v l) (hBB : B ≤ w.heap.size) (hl : l.length ≤ 1000000) :
    Calls Try.prog 28 #[v] w fun e w' => ∃ u, e = .returned u ∧ OwnO w.heap.size w' u l ∧ Below w.heap.size w w' := by
  obtain ⟨⟨A, c, rfl, h1, h2, h0, h3⟩, hov⟩ := hv
  unfold maxLen at h2
  obtain ⟨i0, hi0, hz0, hz1, hz2⟩ := info_parts info_out
  have heq := fun (W : World) (a : Option Addr) (n c : Nat) => Lib.run_eql_slice_nil (P := Try.prog) W 25 24 a n c 0 0 Try.underlying25
  cases A with
  | none =>
    have HE := Lib.hid (List.eq_nil_of_length_eq_zero (h0 rfl).1)
    clear h0 h1 h2 h3
    go_enter Try.func28, Try.ntmps28
    go_wp2
    go_ret
    unfold OwnO
    rw [HE.out]
    exact ⟨_, rfl, World.ownsRow_nil _ _ _ _, Below.refl _ _⟩
  | some ad =>
    have hB1 := below_al (Below.refl w.heap.size w) (.cells #[] 24)
    have HC := Lib.hid (src_rw ovC_len h0 h3 (hB1.mono hBB) _ rfl)
    have HL := Lib.hid (fl_len ovC_len l)
    have HO := Lib.hid (show (w.alloc (.cells #[] 24)).ownsRow w.heap.size 24 2 (.slice (some ⟨w.heap.size, 0, none⟩) 0 0) 0 [] from by
      have := World.ownsRow_lit (base := w.heap.size) (e := 24) (size := 2) w #[] 0 (Nat.le_refl _) (by decide) rfl
      simpa using this)
    have HON := Lib.hid (ov_one hov)
    clear h3 h0
    go_enter Try.func28, Try.ntmps28
    go_wp2_with (at_builtin; refine wpList_append_own _ rfl _ _ 25 rfl w.heap.size 24 i0 (.agg #[.slice none 0 0, .slice none 0 0]) 2 48 Try.underlying25 hi0 hz0 hz1 hz2 rfl (by decide) _ 0 [] rfl HO.out ad l.length c (l.flatMap ovC) rfl HL.out HC.out HON.out (by unfold maxLen; omega) (by omega) (by simp) ?_; intro v1 w1 hown1 hg1 _; obtain ⟨A8, c8, rfl⟩ := own_slice hown1)
    go_ret
    simp only [Nat.zero_add, List.nil_append] at hown1
    refine ⟨_, rfl, hown1, below_append hB1 HO.out (Nat.le_refl _) (by simp) hg1⟩
theorem own_keep {b T s n g k : Nat} {w : World} {v : Value} {xs : List Value} (h : w.ownsRow b T s v n xs) (hv : v.ownBlock ≠ some g) (x : Value) : (w.setCell ⟨g, k, none⟩ x).ownsRow b T s v n xs :=
  ownsRow_setCell_other (a := ⟨g, k, none⟩) h (fun e => hv e) x
theorem own_box {W : World} {b g s n : Nat} {T T2 : TypeId} {v : Value} {xs : List Value} {cs : Array Value} (h : W.ownsRow b T s v n xs) (hbx : BoxC W g T2 cs) (hT : T ≠ T2) (i : Nat) (x : Value) : (W.setCell ⟨g, i, none⟩ x).ownsRow b T s v n xs := by
  refine own_keep h (fun e => ?_) x
  rcases h.2 with ⟨rfl, _⟩ | ⟨g1, c1, cur1, rfl, _, hh1, _⟩
  · cases e
  · injection e with e
    have e : g1 = g := e
    subst e
    rw [show W.heap[g1]? = _ from hbx] at hh1; injection hh1 with hh1; injection hh1 with _ hh1
    exact hT hh1.symm
theorem keep3 {w W W' : World} {g : Nat} {a b : Value} (h : W.cell? ⟨g, 0, none⟩ = some a ∧ W.cell? ⟨g, 1, none⟩ = some b ∧ Below w.heap.size w W) (hb : Below W.heap.size W W') :
    W'.cell? ⟨g, 0, none⟩ = some a ∧ W'.cell? ⟨g, 1, none⟩ = some b ∧ Below w.heap.size w W' :=
  ⟨kc hb h.1, kc hb h.2.1, chain h.2.2 hb⟩
theorem bl3 {w W : World} {g : Nat} {a b : Value} (h : W.cell? ⟨g, 0, none⟩ = some a ∧ W.cell? ⟨g, 1, none⟩ = some b ∧ Below w.heap.size w W) : Below w.heap.size w W := h.2.2
set_option maxHeartbeats 8000000 in
set_option maxRecDepth 100000 in
theorem copied_any {B : Nat} {v : Value} {o : Ot} (w : World) (hv : OutR B w v o) (hBB : B ≤ w.heap.size) (hl1 : o.1.length ≤ 1000000) (hl2 : o.2.length ≤ 1000000) :
    Calls Try.prog 35 #[v] w fun e w' => ∃ u1 u2, e = .returned (.agg #[u1, u2]) ∧ OwnI w.heap.size w' u1 o.1 ∧ OwnI w.heap.size w' u2 o.2 ∧ Below w.heap.size w w' := by
  obtain ⟨vm, vr, rfl, h1, h2⟩ := hv
  have HC1 := Lib.hid (fun W (hW : Below w.heap.size w W) => clonei_any W (h1.below (hW.mono hBB)) (Nat.le_trans hBB hW.size) hl1)
  have HC2 := Lib.hid (fun W (hW : Below w.heap.size w W) => clonei_any W (h2.below (hW.mono hBB)) (Nat.le_trans hBB hW.size) hl2)
  obtain ⟨A1, n1, c1, rfl⟩ := h1.sl
  obtain ⟨A2, n2, c2, rfl⟩ := h2.sl
  clear h1 h2 hl1 hl2
  obtain ⟨W2, hW2⟩ : ∃ W, W = (w.alloc (.cells #[.slice A1 n1 c1, .slice A2 n2 c2] 24)).alloc (.cells #[.slice none 0 0, .slice none 0 0] 24) := ⟨_, rfl⟩
  obtain ⟨ga, hga⟩ : ∃ g, g = w.heap.size := ⟨_, rfl⟩
  obtain ⟨gb, hgb⟩ : ∃ g, g = w.heap.size + 1 := ⟨_, rfl⟩
  have HX := Lib.hid (show BoxC W2 ga 24 #[.slice A1 n1 c1, .slice A2 n2 c2] from by rw [hW2, hga]; exact (BoxC.new w _ _).alloc _)
  have HY := Lib.hid (show BoxC W2 gb 24 #[.slice none 0 0, .slice none 0 0] from by rw [hW2, hgb]; have := BoxC.new (w.alloc (.cells #[.slice A1 n1 c1, .slice A2 n2 c2] 24)) 24 #[.slice none 0 0, .slice none 0 0]; rw [World.size_alloc] at this; exact this)
  have HB2 := Lib.hid (show Below w.heap.size w W2 from by rw [hW2]; exact below_al (below_al (Below.refl _ _) _) _)
  have HGB := Lib.hid (show w.heap.size ≤ gb from by omega)
  have HGA := Lib.hid (show ga < gb from by omega)
  have HGS := Lib.hid (show gb ≤ W2.heap.size from Nat.le_of_lt HY.out.lt)
  go_enter Try.func35, Try.ntmps35
  go_upto_region 1 with fail
  rw [← hW2]
  (try rw [← hgb])
  (try rw [← hga])
  clear hW2 hga hgb
  have x0 := HX.out.cell 0 (.slice A1 n1 c1) rfl
  have x1 := HX.out.cell 1 (.slice A2 n2 c2) rfl
  have hS : W2.cell? ⟨ga, 0, none⟩ = some (.slice A1 n1 c1) ∧ W2.cell? ⟨ga, 1, none⟩ = some (.slice A2 n2 c2) ∧ Below w.heap.size w W2 := ⟨x0, x1, HB2.out⟩
  clear x0 x1
  -- REGION
  refine wp_region_held_drew (S := (fun w' => (w'.cell? ⟨ga, 0, none⟩ = some (.slice A1 n1 c1) ∧ w'.cell? ⟨ga, 1, none⟩ = some (.slice A2 n2 c2)) ∧ Below gb W2 w')) (by kernel_rfl) ⟨⟨hS.1, hS.2.1⟩, below_drewN (Below.refl _ _) 1⟩ (fun hHeld => ?_)
  refine wpAnyH_take (i := 0) (v := ?_) rfl (by kernel_rfl) (by kernel_rfl) (by kernel_rfl) (fun _ _ _ h => h) (Or.inl ⟨by rfl, ?_⟩) (by assumption) ?_
  rotate_left
  · intro w hSw; (try dsimp only at hSw); go_simp; (try with_reducible rfl)
  (try simp only [Act.put, pt8])
  refine wpAnyH_take (i := 1) (v := ?_) rfl (by kernel_rfl) (by kernel_rfl) (by kernel_rfl) (fun _ _ _ h => h) (Or.inl ⟨by rfl, ?_⟩) (by assumption) ?_
  rotate_left
  · intro w hSw; (try dsimp only at hSw); go_simp; (try with_reducible rfl)
  (try simp only [Act.put, pt8])
  refine wpAnyH_take (i := 3) (v := ?_) rfl (by kernel_rfl) (by kernel_rfl) (by kernel_rfl) (fun _ _ _ h => h) (Or.inl ⟨by rfl, ?_⟩) (by assumption) ?_
  rotate_left
  · intro w hSw; (try dsimp only at hSw); go_simp; (try with_reducible rfl)
  (try simp only [Act.put, pt8])
  refine wpAnyH_take (i := 4) (v := ?_) rfl (by kernel_rfl) (by kernel_rfl) (by kernel_rfl) (fun _ _ _ h => h) (Or.inl ⟨by rfl, ?_⟩) (by assumption) ?_
  rotate_left
  · intro w hSw; (try dsimp only at hSw); go_simp; (try with_reducible rfl)
  (try simp only [Act.put, pt8])
  refine wpAnyH_ready (rs := [2]) (by kernel_rfl) (by simp) ?_
  refine AllReadyH.cons rfl (fun K hK => ?_) AllReadyH.nil
  go_simp
  have HBW := HB2.out.trans (hHeld.2.mono HGB.out)
  refine (HC1.out _ HBW).mono ?_
  rintro e Xa1 ⟨u1, rfl, ho, hb⟩
  obtain ⟨X1, k1, rfl⟩ := own_slice ho
  have HO1 := Lib.hid (own_base ho HBW.size)
  have HYd := (show BoxC W2.drew gb 24 #[.slice none 0 0, .slice none 0 0] from HY.out)
  replace HY := Lib.hid (HYd.below hb HYd.lt)
  have HBC := Lib.hid (hHeld.2.trans (hb.mono (Nat.le_trans HGS.out hHeld.2.size)))
  refine hK.out _ _ ⟨⟨kc hb hHeld.1.1, kc hb hHeld.1.2⟩, HBC.out⟩ (fun hHeld => ?_)
  clear hb ho HBW HYd
  clear hK K
  (try simp only [Act.put, pt8])
  refine wpAnyH_ready (rs := [5]) (by kernel_rfl) (by simp) ?_
  refine AllReadyH.cons rfl (fun K hK => ?_) AllReadyH.nil
  go_simp
  have HBW := HB2.out.trans (hHeld.2.mono HGB.out)
  refine (HC2.out _ HBW).mono ?_
  rintro e Xa2 ⟨u2, rfl, ho, hb⟩
  obtain ⟨X2, k2, rfl⟩ := own_slice ho
  have HO2 := Lib.hid (own_base ho HBW.size)
  have HYd := HY.out
  replace HO1 := Lib.hid (own_below HO1.out hb)
  replace HY := Lib.hid (HYd.below hb HYd.lt)
  have HBC := Lib.hid (hHeld.2.trans (hb.mono (Nat.le_trans HGS.out hHeld.2.size)))
  refine hK.out _ _ ⟨⟨kc hb hHeld.1.1, kc hb hHeld.1.2⟩, HBC.out⟩ (fun hHeld => ?_)
  clear hb ho HBW HYd
  clear hK K
  (try simp only [Act.put, pt8])
  refine wpAnyH_take (i := 6) (v := ?_) rfl (by kernel_rfl) (by kernel_rfl) (by kernel_rfl) (fun _ _ _ h => h) (Or.inl ⟨by rfl, ?_⟩) (by assumption) ?_
  rotate_left
  · intro w hSw; (try dsimp only at hSw); go_simp; (try with_reducible rfl)
  (try simp only [Act.put, pt8])
  refine wpAnyH_ready (rs := [7]) (by kernel_rfl) (by simp) ?_
  refine AllReadyH.cons rfl (fun K hK => ?_) AllReadyH.nil
  have f0 := HY.out.frozen 0
  have f1 := HY.out.frozen 1
  have y0 := HY.out.cell 0 (.slice none 0 0) rfl
  have y1 := HY.out.cell 1 (.slice none 0 0) rfl
  go_simp
  clear f0 f1 y0 y1
  have HYY := Lib.hid ((HY.out.set 0 (.slice X1 o.1.length k1)).set 1 (.slice X2 o.2.length k2))
  have HO3 := Lib.hid (own_box (own_box HO1.out HY.out (by decide) 0 (.slice X1 o.1.length k1)) (HY.out.set 0 (.slice X1 o.1.length k1)) (by decide) 1 (.slice X2 o.2.length k2))
  have HO4 := Lib.hid (own_box (own_box HO2.out HY.out (by decide) 0 (.slice X1 o.1.length k1)) (HY.out.set 0 (.slice X1 o.1.length k1)) (by decide) 1 (.slice X2 o.2.length k2))
  have HBD := Lib.hid ((hHeld.2.setCell (p := ⟨gb, 0, none⟩) (Nat.le_refl _) (.slice X1 o.1.length k1)).setCell (p := ⟨gb, 1, none⟩) (Nat.le_refl _) (.slice X2 o.2.length k2))
  refine hK.out _ _ ⟨⟨(HBD.out.cell (p := ⟨ga, 0, none⟩) HGA.out).trans hS.1, (HBD.out.cell (p := ⟨ga, 1, none⟩) HGA.out).trans hS.2.1⟩, HBD.out⟩ (fun hHeld => ?_)
  clear hK K
  (try simp only [Act.put, pt8])
  refine wpAnyH_done (by kernel_rfl) ?_ _
  have z0 := HYY.out.cell 0 (.slice X1 o.1.length k1) rfl
  have z1 := HYY.out.cell 1 (.slice X2 o.2.length k2) rfl
  have HBE := Lib.hid (HB2.out.trans (HBD.out.mono HGB.out))
  clear hHeld
  go_wp2
  refine bodyPost_ret (v := .agg #[.slice X1 o.1.length k1, .slice X2 o.2.length k2]) (by simp [results, Try.results35, go_sem, z0, z1]) rfl ⟨_, _, rfl, HO3.out, HO4.out, HBE.out⟩
end Go.Proofs.Ytodpajnpnobfmaa
