/-
  valid.Check, Right: where the first wrong thing stands, and what it is.
-/
import Derived.Test.YtkkjodjachbifaaGreatDoorFirst
import Derived.Test.YtkkjodjachbifaaGreatDoorErr
namespace Go.Proofs.YtkkjodjachbifaaGreatDoor
open Go.RowKit
set_option linter.unusedVariables false
set_option linter.unusedSimpArgs false
open WordM (L)
open VM

theorem chk_zero {F : Fl} (h : (chk F).2.2 = 0) : chk F = (0, 0, 0) := by
  unfold chk at *
  by_cases h1 : frameC F ≠ 0
  · rw [if_pos h1] at h; exact absurd h h1
  rw [if_neg h1] at *
  by_cases h2 : (lineT F.ths).2.2 ≠ 0
  · rw [if_pos h2] at h; exact absurd h h2
  rw [if_neg h2] at *
  by_cases h3 : (atomT F.ths.length F.cond).2.2 ≠ 0
  · rw [if_pos h3] at h; exact absurd h h3
  rw [if_neg h3] at *
  by_cases h4 : locC F ≠ 0
  · rw [if_pos h4] at h; exact absurd h h4
  rw [if_neg h4] at *
theorem set_oth {w : World} {x i y j : Nat} {u v : Value} (h : x ≠ y ∨ i ≠ j) (hc : w.cell? ⟨y, j, none⟩ = some u) : (w.setCell ⟨x, i, none⟩ v).cell? ⟨y, j, none⟩ = some u :=
  (World.cell?_setCell_other _ _ _ _ (fun e => by injection e with e1 e2; exact h.elim (fun k => k e1) (fun k => k e2))).trans hc
theorem box_1 (w : World) (cs : Array Value) (T : TypeId) (i : Nat) {v : Value} (h : cs[i]? = some v) :
    (w.alloc (.cells cs T)).cell? ⟨w.heap.size, i, none⟩ = some v ∧ (w.alloc (.cells cs T)).frozen? ⟨w.heap.size, i, none⟩ = false := kept_box (Below.refl _ _) i h
theorem box_2 (w : World) (cs : Array Value) (T : TypeId) (o : Obj) (i : Nat) {v : Value} (h : cs[i]? = some v) :
    ((w.alloc (.cells cs T)).alloc o).cell? ⟨w.heap.size, i, none⟩ = some v ∧ ((w.alloc (.cells cs T)).alloc o).frozen? ⟨w.heap.size, i, none⟩ = false := kept_box ((Below.refl _ _).alloc (Nat.le_refl _) o) i h
set_option maxHeartbeats 4000000 in
set_option maxRecDepth 100000 in
theorem check_any {B : Nat} {v : Value} {F : Fl} (w : World) (hr : Regs w) (hg : EA.ErrG w) (hv : FlV B w v F) (hBB : B ≤ w.heap.size) (ok : FlOk F) :
    Calls Tryz.prog 45 #[v] w fun e w' => e = .returned (.tuple #[.int .i64 (chk F).1, .int .i64 (chk F).2.1, .int .i64 (chk F).2.2]) ∧ Below w.heap.size w w' := by
  obtain ⟨vi, vt, vc, rfl, hm⟩ := hv
  have HM := Lib.hid hm
  have HR := Lib.hid hr
  have HOK := Lib.hid ok
  have HG := Lib.hid hg
  have hB3 := below_al (below_al (below_al (Below.refl w.heap.size w) (.cells #[.string ⟨F.name.toArray⟩, vi, vt, .bool F.all, vc] 26)) (.cells #[.int .i64 0, .int .i64 0, .nilIface] 105)) (.cells #[.int .i64 0] 35)
  have H1 := Lib.hid (first_any _ (HR.out.below hB3) ⟨vi, vt, vc, rfl, HM.out.below (hB3.mono hBB)⟩ (Nat.le_trans hBB hB3.size) HOK.out)
  obtain ⟨⟨A0, c0, rfl, _⟩, ⟨A2, c2, rfl, _⟩, ⟨A1, c1, rfl, _⟩⟩ := hm
  unfold flv at *
  clear hr ok hg HM
  by_cases hc : (chk F).2.2 = 0
  · have hz := chk_zero hc
    have E := Lib.hid (show chkV F = .nilIface by unfold chkV; rw [hc]; rfl)
    rw [hz]
    replace H1 := Lib.hid (E.out ▸ H1.out)
    have HA := Lib.hid (fun t W => EA.as_nil t W)
    clear hc hz
    go_enter Tryz.func45, Tryz.ntmps45
    go_wp2_with fail
    refine H1.out.mono ?_
    rintro e w1 ⟨rfl, hb⟩
    have hB := chain hB3 hb
    go_wp2_with fail
    refine (HA.out _ _).mono ?_
    rintro e w2 ⟨rfl, rfl⟩
    go_wp2
    go_ret3
    exact ⟨rfl, hB⟩
  · obtain ⟨a, b, c, hE⟩ : ∃ a b c, chk F = (a, b, c) := ⟨_, _, _, rfl⟩
    rw [hE] at hc ⊢
    have hc' : c ≠ 0 := hc
    have E := Lib.hid (show chkV F = .iface 105 (.agg #[.int .i64 a, .int .i64 b, .iface 35 (.int .i64 c)]) by unfold chkV; rw [hE]; exact fltv_no hc')
    replace H1 := Lib.hid (E.out ▸ H1.out)
    have hF := Lib.hid (show ∀ i v, (#[Value.int .i64 0, .int .i64 0, .nilIface] : Array Value)[i]? = some v → (((w.alloc (.cells #[.string ⟨F.name.toArray⟩, .slice A0 F.init.length c0, .slice A2 F.ths.length c2, .bool F.all, .slice A1 F.cond.length c1] 26)).alloc (.cells #[.int .i64 0, .int .i64 0, .nilIface] 105)).alloc (.cells #[.int .i64 0] 35)).cell? ⟨w.heap.size + 1, i, none⟩ = some v ∧
        (((w.alloc (.cells #[.string ⟨F.name.toArray⟩, .slice A0 F.init.length c0, .slice A2 F.ths.length c2, .bool F.all, .slice A1 F.cond.length c1] 26)).alloc (.cells #[.int .i64 0, .int .i64 0, .nilIface] 105)).alloc (.cells #[.int .i64 0] 35)).frozen? ⟨w.heap.size + 1, i, none⟩ = false from fun i v h => by
      have := box_2 (w.alloc (.cells #[.string ⟨F.name.toArray⟩, .slice A0 F.init.length c0, .slice A2 F.ths.length c2, .bool F.all, .slice A1 F.cond.length c1] 26)) #[.int .i64 0, .int .i64 0, .nilIface] 105 (.cells #[.int .i64 0] 35) i h
      rwa [heap_alloc] at this)
    have hN := Lib.hid (box_1 ((w.alloc (.cells #[.string ⟨F.name.toArray⟩, .slice A0 F.init.length c0, .slice A2 F.ths.length c2, .bool F.all, .slice A1 F.cond.length c1] 26)).alloc (.cells #[.int .i64 0, .int .i64 0, .nilIface] 105)) #[.int .i64 0] 35 0 rfl)
    have hG3 := Lib.hid (HG.out.below hB3)
    clear hc hE
    go_enter Tryz.func45, Tryz.ntmps45
    go_wp2_with fail
    refine H1.out.mono ?_
    rintro e w1 ⟨rfl, hb⟩
    have hB := chain hB3 hb
    have hsz := hb.size
    have hn1 := hN.out
    simp only [heap_alloc] at hn1 hsz
    have x0 := kc hb (hF.out 0 _ rfl).1
    have x1 := kc hb (hF.out 1 _ rfl).1
    have x2 := kc hb (hF.out 2 _ rfl).1
    have n0 := kc hb hn1.1
    have y0 := (hb.frozen (p := ⟨w.heap.size + 1, 0, none⟩) (by simp)).trans (hF.out 0 _ rfl).2
    have y1 := (hb.frozen (p := ⟨w.heap.size + 1, 1, none⟩) (by simp)).trans (hF.out 1 _ rfl).2
    have y2 := (hb.frozen (p := ⟨w.heap.size + 1, 2, none⟩) (by simp)).trans (hF.out 2 _ rfl).2
    have m0 := (hb.frozen (p := ⟨w.heap.size + 1 + 1, 0, none⟩) (by simp)).trans hn1.2
    have hg1 := hG3.out.below hb
    have HA := Lib.hid (EA.as_fault a b (.iface 35 (.int .i64 c)) (w.heap.size + 1) _ _ _ w1 hg1 rfl x0 x1 x2 y0 y1 y2)
    clear H1 hF hN hG3
    go_wp2_with fail
    refine HA.out.mono ?_
    rintro e w2 ⟨rfl, w3, hb3, rfl⟩
    have u0 := kc hb3 x0
    have u1 := kc hb3 x1
    have u2 := kc hb3 x2
    have v0 := kc hb3 n0
    have z0 := (hb3.frozen (p := ⟨w.heap.size + 1 + 1, 0, none⟩) (lt_of_cell n0)).trans m0
    have hB4 := chain hB hb3
    have hsz3 := hb3.size
    have hB5 := ((hB4.setCell (p := ⟨w.heap.size + 1, 0, none⟩) (by show w.heap.size ≤ w.heap.size + 1; omega) (.int .i64 a)).setCell (p := ⟨w.heap.size + 1, 1, none⟩) (by show w.heap.size ≤ w.heap.size + 1; omega) (.int .i64 b)).setCell (p := ⟨w.heap.size + 1, 2, none⟩) (by show w.heap.size ≤ w.heap.size + 1; omega) (.iface 35 (.int .i64 c))
    obtain ⟨W, hW⟩ : ∃ W, W = ((w3.setCell ⟨w.heap.size + 1, 0, none⟩ (.int .i64 a)).setCell ⟨w.heap.size + 1, 1, none⟩ (.int .i64 b)).setCell ⟨w.heap.size + 1, 2, none⟩ (.iface 35 (.int .i64 c)) := ⟨_, rfl⟩
    have p0 : W.cell? ⟨w.heap.size + 1, 0, none⟩ = some (.int .i64 a) := hW ▸ set_oth (.inr (by decide)) (set_oth (.inr (by decide)) (World.cell?_setCell_same _ _ _ u0))
    have p1 : W.cell? ⟨w.heap.size + 1, 1, none⟩ = some (.int .i64 b) := hW ▸ set_oth (.inr (by decide)) (World.cell?_setCell_same _ _ _ (set_oth (.inr (by decide)) u1))
    have r0 : W.cell? ⟨w.heap.size + 1 + 1, 0, none⟩ = some (.int .i64 0) := hW ▸ set_oth (.inl (by omega)) (set_oth (.inl (by omega)) (set_oth (.inl (by omega)) v0))
    have s0 : W.frozen? ⟨w.heap.size + 1 + 1, 0, none⟩ = false := by
      rw [hW]; simp only [World.frozen?_setCell]; exact z0
    have hg2 : EA.ErrG W := by
      have h1 := hg1.below hb3
      have h2 : 0 < w.heap.size := lt_of_cell HG.out
      unfold EA.ErrG at h1 ⊢
      exact hW ▸ set_oth (.inl (by omega)) (set_oth (.inl (by omega)) (set_oth (.inl (by omega)) h1))
    rw [← hW] at hB5 ⊢
    clear hW hB4 u0 u1 u2 v0 z0 x0 x1 x2 y0 y1 y2 n0 m0 HA hg1 hb3 hB hb hB3
    have HA := Lib.hid (EA.as_errno a b c (w.heap.size + 1 + 1) _ W hg2 r0 s0)
    go_wp2_with fail
    refine HA.out.mono ?_
    rintro e w4 ⟨rfl, w5, hb5, rfl⟩
    have hB6 := (chain hB5 hb5).setCell (p := ⟨w.heap.size + 1 + 1, 0, none⟩) (by show w.heap.size ≤ w.heap.size + 1 + 1; omega) (.int .i64 c)
    obtain ⟨W2, hW2⟩ : ∃ W2, W2 = w5.setCell ⟨w.heap.size + 1 + 1, 0, none⟩ (.int .i64 c) := ⟨_, rfl⟩
    have i0 : W2.cell? ⟨w.heap.size + 1, 0, none⟩ = some (.int .i64 a) := hW2 ▸ set_oth (.inl (by omega)) (kc hb5 p0)
    have i1 : W2.cell? ⟨w.heap.size + 1, 1, none⟩ = some (.int .i64 b) := hW2 ▸ set_oth (.inl (by omega)) (kc hb5 p1)
    have i2 : W2.cell? ⟨w.heap.size + 1 + 1, 0, none⟩ = some (.int .i64 c) := hW2 ▸ World.cell?_setCell_same _ _ _ (kc hb5 r0)
    rw [← hW2] at hB6 ⊢
    clear hW2 hb5 HA p0 p1 r0 s0 hg2 hB5
    go_wp2
    go_quiet (fail)
    go_wp2
    go_ret3
    exact ⟨rfl, below_drewN hB6 _⟩
set_option maxHeartbeats 2000000 in
set_option maxRecDepth 100000 in
theorem vright_any {B : Nat} {v : Value} {F : Fl} (w : World) (hr : Regs w) (hg : EA.ErrG w) (hv : FlV B w v F) (hBB : B ≤ w.heap.size) (ok : FlOk F) :
    Calls Tryz.prog 25 #[v] w fun e w' => e = .returned (.bool (VM.right F)) ∧ Below w.heap.size w w' := by
  obtain ⟨vi, vt, vc, rfl, hm⟩ := hv
  have HM := Lib.hid hm
  have hB3 := below_al (Below.refl w.heap.size w) (.cells #[.string ⟨F.name.toArray⟩, vi, vt, .bool F.all, vc] 26)
  have H1 := Lib.hid (check_any _ (hr.below hB3) (hg.below hB3) ⟨vi, vt, vc, rfl, HM.out.below (hB3.mono hBB)⟩ (Nat.le_trans hBB hB3.size) ok)
  obtain ⟨⟨A0, c0, rfl, _⟩, ⟨A2, c2, rfl, _⟩, ⟨A1, c1, rfl, _⟩⟩ := hm
  have E := Lib.hid (show VM.right F = ((chk F).2.2 == 0) from rfl)
  unfold flv at *
  clear hr hg ok HM
  generalize chk F = t at *
  obtain ⟨a, b, c⟩ := t
  go_enter Tryz.func25, Tryz.ntmps25
  go_wp2_with fail
  refine H1.out.mono ?_
  rintro e w1 ⟨rfl, hb⟩
  have hB := chain hB3 hb
  go_wp2
  go_ret
  exact ⟨ret_bool E.out.symm, hB⟩
end Go.Proofs.YtkkjodjachbifaaGreatDoor
