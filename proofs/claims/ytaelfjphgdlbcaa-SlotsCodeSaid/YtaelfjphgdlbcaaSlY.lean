/-
  slots.having: a program with other threads.
-/
import Derived.Test.YtaelfjphgdlbcaaM06
import Derived.Test.YtaelfjphgdlbcaaM07
namespace Go.Proofs.Ytaelfjphgdlbcaa
open Go.RowKit
set_option linter.unusedVariables false
set_option linter.unusedSimpArgs false
open WordM (L)
open VM (Fl)
open SlM

/-- Block g is a box of these cells. -/
def BoxC (W : World) (g : Nat) (T : TypeId) (cs : Array Value) : Prop := W.heap[g]? = some (.cells cs T (0, 0))
theorem BoxC.lt {W : World} {g : Nat} {T : TypeId} {cs : Array Value} (h : BoxC W g T cs) : g < W.heap.size := (Array.getElem?_eq_some_iff.1 h).1
theorem BoxC.cell {W : World} {g : Nat} {T : TypeId} {cs : Array Value} (h : BoxC W g T cs) (i : Nat) (v : Value) (hv : cs[i]? = some v) : W.cell? ⟨g, i, none⟩ = some v := by simp [World.cell?, show W.heap[g]? = _ from h, hv]
theorem BoxC.frozen {W : World} {g : Nat} {T : TypeId} {cs : Array Value} (h : BoxC W g T cs) (i : Nat) : W.frozen? ⟨g, i, none⟩ = false := by simp [World.frozen?, show W.heap[g]? = _ from h]
theorem BoxC.below {W W' : World} {B g : Nat} {T : TypeId} {cs : Array Value} (h : BoxC W g T cs) (hb : Below B W W') (hg : g < B) : BoxC W' g T cs := (hb.block g hg).trans h
theorem BoxC.new (W : World) (T : TypeId) (cs : Array Value) : BoxC (W.alloc (.cells cs T)) W.heap.size T cs := World.alloc_heap_new W _
theorem BoxC.alloc {W : World} {g : Nat} {T : TypeId} {cs : Array Value} (h : BoxC W g T cs) (o : Obj) : BoxC (W.alloc o) g T cs := h.below (below_al (Below.refl _ W) o) h.lt
theorem BoxC.set {W : World} {g : Nat} {T : TypeId} {cs : Array Value} (h : BoxC W g T cs) (i : Nat) (v : Value) : BoxC (W.setCell ⟨g, i, none⟩ v) g T (cs.setIfInBounds i v) := heap_setCell_same W g i cs T v h
theorem BoxC.other {W : World} {g b : Nat} {T : TypeId} {cs : Array Value} (h : BoxC W g T cs) (hne : g ≠ b) (i : Nat) (v : Value) : BoxC (W.setCell ⟨b, i, none⟩ v) g T cs :=
  ((grown_set W b i v).block g h.lt (fun e => by injection e with e; exact hne e)).trans h
/-- W' is W but for what is new, and the blocks H. -/
structure Off (H : Nat → Prop) (W W' : World) : Prop where
  size : W.heap.size ≤ W'.heap.size
  block : ∀ k, k < W.heap.size → ¬ H k → W'.heap[k]? = W.heap[k]?
theorem Off.refl (H : Nat → Prop) (W : World) : Off H W W := ⟨Nat.le_refl _, fun _ _ _ => rfl⟩
theorem Off.below {H : Nat → Prop} {W W' : World} (h : Below W.heap.size W W') : Off H W W' := ⟨h.size, fun k hk _ => h.block k hk⟩
theorem Off.trans {H : Nat → Prop} {W W' W2 : World} (h : Off H W W') (k : Off H W' W2) : Off H W W2 :=
  ⟨Nat.le_trans h.size k.size, fun i hi hn => (k.block i (Nat.lt_of_lt_of_le hi h.size) hn).trans (h.block i hi hn)⟩
theorem Off.set {H : Nat → Prop} {W W' : World} (h : Off H W W') {g : Nat} (hg : H g) (i : Nat) (v : Value) : Off H W (W'.setCell ⟨g, i, none⟩ v) :=
  ⟨Nat.le_trans h.size (grown_set W' g i v).size, fun k hk hn => ((grown_set W' g i v).block k (Nat.lt_of_lt_of_le hk h.size) (fun e => by injection e with e; subst e; exact hn hg)).trans (h.block k hk hn)⟩
theorem own_off {H : Nat → Prop} {W W' : World} {base sz n : Nat} {T : TypeId} {v : Value} {xs : List Value} (h : W.ownsRow base T sz v n xs) (hO : Off H W W') (hH : ∀ k, H k → k < base) : W'.ownsRow base T sz v n xs := by
  refine ⟨h.1, ?_⟩
  rcases h.2 with ⟨h1, h2⟩ | ⟨g, cap, cur, h1, hbg, hg, h4⟩
  · exact .inl ⟨h1, h2⟩
  · exact .inr ⟨g, cap, cur, h1, hbg, (hO.block g (Array.getElem?_eq_some_iff.1 hg).1 (fun c => by have := hH g c; omega)).trans hg, h4⟩
theorem own5 {W : World} {base g : Nat} {T : TypeId} {sz n : Nat} {v : Value} {xs : List Value} (h : W.ownsRow base T sz v n xs) (hb : g < base) (v0 v1 v2 v3 v4 : Value) :
    (((((W.setCell ⟨g, 0, none⟩ v0).setCell ⟨g, 1, none⟩ v1).setCell ⟨g, 2, none⟩ v2).setCell ⟨g, 3, none⟩ v3).setCell ⟨g, 4, none⟩ v4).ownsRow base T sz v n xs :=
  ownsRow_setCell_below (ownsRow_setCell_below (ownsRow_setCell_below (ownsRow_setCell_below (ownsRow_setCell_below h (a := ⟨g, 0, none⟩) hb v0) (a := ⟨g, 1, none⟩) hb v1) (a := ⟨g, 2, none⟩) hb v2) (a := ⟨g, 3, none⟩) hb v3) (a := ⟨g, 4, none⟩) hb v4
theorem below5 {W0 W : World} {B g : Nat} (h : Below B W0 W) (hb : B ≤ g) (v0 v1 v2 v3 v4 : Value) :
    Below B W0 (((((W.setCell ⟨g, 0, none⟩ v0).setCell ⟨g, 1, none⟩ v1).setCell ⟨g, 2, none⟩ v2).setCell ⟨g, 3, none⟩ v3).setCell ⟨g, 4, none⟩ v4) :=
  ((((h.setCell (p := ⟨g, 0, none⟩) hb v0).setCell (p := ⟨g, 1, none⟩) hb v1).setCell (p := ⟨g, 2, none⟩) hb v2).setCell (p := ⟨g, 3, none⟩) hb v3).setCell (p := ⟨g, 4, none⟩) hb v4
theorem info_thr : (Try.prog.info? 58).map (fun i => (i.zero, i.size, i.bytes)) = some (some (.agg #[.slice none 0 0]), 1, 24) := by kernel_rfl
theorem made_thr (n : Nat) : (madeCells (Value.cells (.agg #[.slice none 0 0])) (n * 1)).toList = List.replicate n (.slice none 0 0) := by
  rw [Nat.mul_one]; exact toList_madeCells_one _ _
set_option maxHeartbeats 8000000 in
set_option maxRecDepth 100000 in
theorem having_any {B : Nat} {H : Nat → Prop} {v vl : Value} {F : Fl} {ts : List (List OpsM.Ln)} (w : World) (hv : FlV B w v F) (hvl : Ths B w vl ts) (hBB : B ≤ w.heap.size) (hl : ts.length ≤ 1000000) (hl1 : F.init.length ≤ 1000000) (hl2 : F.cond.length ≤ 1000000) (hH : ∀ k, H k → k < w.heap.size)
    (hQ : ∀ (b f : Nat) (c : Nat) (q : Nat) (hq : q < ts.length) (u : Value), vl = .slice (some ⟨b, f, none⟩) ts.length c → w.cell? ⟨b, f + q, none⟩ = some u → ∀ W', Off H w W' → Lns W'.heap.size W' u ts[q]) :
    Calls Try.prog 37 #[v, vl] w fun e w' => ∃ u, e = .returned u ∧ (∀ W', Off H w' W' → FlV W'.heap.size W' u (withT F ts)) ∧ Below w.heap.size w w' := by
  obtain ⟨vi, vt, vc, rfl, hm⟩ := hv
  have HM := Lib.hid hm
  have HVL := Lib.hid hvl
  have HHH := Lib.hid hH
  have HN1 := Lib.hid hl1
  have HN2 := Lib.hid hl2
  obtain ⟨⟨P0, d0, rfl, -⟩, ⟨P1, d1, rfl, -⟩, ⟨P2, d2, rfl, -⟩⟩ := hm
  obtain ⟨PL, cl, rfl, l1, l2, l3⟩ := hvl
  unfold maxLen at l2
  have HQ := Lib.hid (fun (b f q : Nat) (hq : q < ts.length) (u : Value) (e : PL = some ⟨b, f, none⟩) => hQ b f cl q hq u (by rw [e]))
  clear hQ hH
  obtain ⟨WW, hWW⟩ : ∃ W, W = (w.alloc (.cells #[.string ⟨F.name.toArray⟩, .slice P0 F.init.length d0, .slice P1 F.ths.length d1, .bool F.all, .slice P2 F.cond.length d2] 30)).alloc (.cells #[.string ⟨#[]⟩, .slice none 0 0, .slice none 0 0, .bool false, .slice none 0 0] 30) := ⟨_, rfl⟩
  have YB := Lib.hid (show BoxC WW w.heap.size 30 #[.string ⟨F.name.toArray⟩, .slice P0 F.init.length d0, .slice P1 F.ths.length d1, .bool F.all, .slice P2 F.cond.length d2] from by rw [hWW]; exact (BoxC.new w _ _).alloc _)
  have ZB := Lib.hid (show BoxC WW (w.heap.size + 1) 30 #[.string ⟨#[]⟩, .slice none 0 0, .slice none 0 0, .bool false, .slice none 0 0] from by
    rw [hWW]; have := BoxC.new (w.alloc (.cells #[.string ⟨F.name.toArray⟩, .slice P0 F.init.length d0, .slice P1 F.ths.length d1, .bool F.all, .slice P2 F.cond.length d2] 30)) 30 #[.string ⟨#[]⟩, .slice none 0 0, .slice none 0 0, .bool false, .slice none 0 0]
    rw [World.size_alloc] at this; exact this)
  have hBW := Lib.hid (show Below w.heap.size w WW from by rw [hWW]; exact below_al (below_al (Below.refl _ w) _) _)
  have hsW : WW.heap.size = w.heap.size + 1 + 1 := by rw [hWW]; simp
  have hgW : w.heap.size < WW.heap.size := by omega
  have HBX := Lib.hid (fun X (hX : Below WW.heap.size WW X) => show B ≤ X.heap.size from Nat.le_trans hBB (Nat.le_trans hBW.out.size hX.size))
  have HCI := Lib.hid (fun X (hX : Below WW.heap.size WW X) => (HM.out.1.below (hBW.out.mono hBB)).below (hX.mono (Nat.le_trans hBB hBW.out.size)))
  have HAI := Lib.hid (fun X (hX : Below WW.heap.size WW X) => (HM.out.2.2.below (hBW.out.mono hBB)).below (hX.mono (Nat.le_trans hBB hBW.out.size)))
  have HSW := Lib.hid hsW
  clear hsW
  unfold flv
  go_enter Try.func37, Try.ntmps37
  go_upto_region 1 with fail
  rw [← hWW]
  clear hWW
  go_cut [] (fun wx => ∃ ui uc, BoxC wx w.heap.size 30 #[.string ⟨F.name.toArray⟩, ui, .slice P1 F.ths.length d1, .bool F.all, uc] ∧ BoxC wx (w.heap.size + 1) 30 #[.string ⟨#[]⟩, .slice none 0 0, .slice none 0 0, .bool false, .slice none 0 0] ∧
    wx.ownsRow WW.heap.size 62 2 ui F.init.length (F.init.flatMap clC) ∧ wx.ownsRow WW.heap.size 64 3 uc F.cond.length (F.cond.flatMap amC) ∧ Below w.heap.size w wx)
  case first =>
    refine wp_region_held_drew (S := (fun _ => True)) (by kernel_rfl) trivial (fun hHeld => ?_)
    obtain ⟨X0, hX0⟩ : ∃ W, W = WW.drew := ⟨_, rfl⟩
    have HLX0 := Lib.hid (show Below WW.heap.size WW X0 from by rw [hX0]; exact below_drewN (Below.refl _ _) 1)
    rw [← hX0]
    clear hX0
    refine wpAnyH_take (i := 0) (v := ?_) rfl (by kernel_rfl) (by kernel_rfl) (by kernel_rfl) (fun _ _ _ h => h) (Or.inl ⟨by rfl, ?_⟩) (by assumption) ?_
    rotate_left
    · intro w hSw; (try dsimp only at hSw); go_simp; (try with_reducible rfl)
    (try simp only [Act.put, List.getElem_toArray, List.getElem_cons_zero, List.getElem_cons_succ, Array.getInternal_eq_getElem, List.setIfInBounds_toArray, List.set_cons_zero, List.set_cons_succ])
    refine wpAnyH_take (i := 3) (v := ?_) rfl (by kernel_rfl) (by kernel_rfl) (by kernel_rfl) (fun _ _ _ h => h) (Or.inl ⟨by rfl, ?_⟩) (by assumption) ?_
    rotate_left
    · intro w hSw; (try dsimp only at hSw); go_simp; (try with_reducible rfl)
    (try simp only [Act.put, List.getElem_toArray, List.getElem_cons_zero, List.getElem_cons_succ, Array.getInternal_eq_getElem, List.setIfInBounds_toArray, List.set_cons_zero, List.set_cons_succ])
    refine wpAnyH_ready (rs := [1, 4]) (by kernel_rfl) (by simp) ?_
    refine AllReadyH.cons rfl (fun K hK => ?_) (AllReadyH.cons rfl (fun K hK => ?_) (AllReadyH.nil))
    · -- 1 first
      have k1 := (YB.out.below HLX0.out YB.out.lt).cell 1 _ rfl
      go_simp
      refine hK.out _ _ trivial (fun hHeld => ?_)
      clear hK K
      (try simp only [Act.put, List.getElem_toArray, List.getElem_cons_zero, List.getElem_cons_succ, Array.getInternal_eq_getElem, List.setIfInBounds_toArray, List.set_cons_zero, List.set_cons_succ])
      clear k1
      refine wpAnyH_ready (rs := [2, 4]) (by kernel_rfl) (by simp) ?_
      refine AllReadyH.cons rfl (fun K hK => ?_) (AllReadyH.cons rfl (fun K hK => ?_) (AllReadyH.nil))
      · -- 2 first
        go_simp
        refine (clonec_any _ (HCI.out _ HLX0.out) (HBX.out _ HLX0.out) HN1.out).mono ?_
        rintro e wa ⟨u1, rfl, hu1, hba⟩
        obtain ⟨Au1, cu1, rfl⟩ := own_slice hu1
        have HLwa := Lib.hid (chain HLX0.out hba)
        have HU1 := Lib.hid (own_base hu1 HLX0.out.size)
        clear hba hu1
        refine hK.out _ _ trivial (fun hHeld => ?_)
        clear hK K
        (try simp only [Act.put, List.getElem_toArray, List.getElem_cons_zero, List.getElem_cons_succ, Array.getInternal_eq_getElem, List.setIfInBounds_toArray, List.set_cons_zero, List.set_cons_succ])
        refine wpAnyH_ready (rs := [4]) (by kernel_rfl) (by simp) ?_
        refine AllReadyH.cons rfl (fun K hK => ?_) AllReadyH.nil
        have k4 := (YB.out.below HLwa.out YB.out.lt).cell 4 _ rfl
        go_simp
        refine hK.out _ _ trivial (fun hHeld => ?_)
        clear hK K
        (try simp only [Act.put, List.getElem_toArray, List.getElem_cons_zero, List.getElem_cons_succ, Array.getInternal_eq_getElem, List.setIfInBounds_toArray, List.set_cons_zero, List.set_cons_succ])
        clear k4
        refine wpAnyH_take (i := 6) (v := ?_) rfl (by kernel_rfl) (by kernel_rfl) (by kernel_rfl) (fun _ _ _ h => h) (Or.inl ⟨by rfl, ?_⟩) (by assumption) ?_
        rotate_left
        · intro w hSw; (try dsimp only at hSw); go_simp; (try with_reducible rfl)
        (try simp only [Act.put, List.getElem_toArray, List.getElem_cons_zero, List.getElem_cons_succ, Array.getInternal_eq_getElem, List.setIfInBounds_toArray, List.set_cons_zero, List.set_cons_succ])
        refine wpAnyH_ready (rs := [5]) (by kernel_rfl) (by simp) ?_
        refine AllReadyH.cons rfl (fun K hK => ?_) AllReadyH.nil
        go_simp
        refine (clonea_any _ (HAI.out _ HLwa.out) (HBX.out _ HLwa.out) HN2.out).mono ?_
        rintro e wb ⟨u2, rfl, hu2, hba⟩
        obtain ⟨Au2, cu2, rfl⟩ := own_slice hu2
        have HLwb := Lib.hid (chain HLwa.out hba)
        have HU2 := Lib.hid (own_base hu2 HLwa.out.size)
        replace HU1 := Lib.hid (own_below HU1.out hba)
        clear hba hu2
        refine hK.out _ _ trivial (fun hHeld => ?_)
        clear hK K
        (try simp only [Act.put, List.getElem_toArray, List.getElem_cons_zero, List.getElem_cons_succ, Array.getInternal_eq_getElem, List.setIfInBounds_toArray, List.set_cons_zero, List.set_cons_succ])
        refine wpAnyH_ready (rs := [7]) (by kernel_rfl) (by simp) ?_
        refine AllReadyH.cons rfl (fun K hK => ?_) AllReadyH.nil
        have HYB := Lib.hid (YB.out.below HLwb.out YB.out.lt)
        have k1 := HYB.out.cell 1 _ rfl
        have f1 := HYB.out.frozen 1
        go_simp
        refine hK.out _ _ trivial (fun hHeld => ?_)
        clear hK K
        (try simp only [Act.put, List.getElem_toArray, List.getElem_cons_zero, List.getElem_cons_succ, Array.getInternal_eq_getElem, List.setIfInBounds_toArray, List.set_cons_zero, List.set_cons_succ])
        clear k1 f1
        have HYB2 := Lib.hid (HYB.out.set 1 (.slice Au1 F.init.length cu1))
        refine wpAnyH_take (i := 8) (v := ?_) rfl (by kernel_rfl) (by kernel_rfl) (by kernel_rfl) (fun _ _ _ h => h) (Or.inl ⟨by rfl, ?_⟩) (by assumption) ?_
        rotate_left
        · intro w hSw; (try dsimp only at hSw); go_simp; (try with_reducible rfl)
        (try simp only [Act.put, List.getElem_toArray, List.getElem_cons_zero, List.getElem_cons_succ, Array.getInternal_eq_getElem, List.setIfInBounds_toArray, List.set_cons_zero, List.set_cons_succ])
        refine wpAnyH_ready (rs := [9]) (by kernel_rfl) (by simp) ?_
        refine AllReadyH.cons rfl (fun K hK => ?_) AllReadyH.nil
        have k4 := HYB2.out.cell 4 _ rfl
        have f4 := HYB2.out.frozen 4
        go_simp
        refine hK.out _ _ trivial (fun hHeld => ?_)
        clear hK K
        (try simp only [Act.put, List.getElem_toArray, List.getElem_cons_zero, List.getElem_cons_succ, Array.getInternal_eq_getElem, List.setIfInBounds_toArray, List.set_cons_zero, List.set_cons_succ])
        clear k4 f4
        refine wpAnyH_done (by kernel_rfl) ?_ _
        have HYB3 := Lib.hid (HYB2.out.set 4 (.slice Au2 F.cond.length cu2))
        have HU1' := Lib.hid (ownsRow_setCell_below (ownsRow_setCell_below HU1.out (a := ⟨w.heap.size, 1, none⟩) (show w.heap.size < _ from hgW) (.slice Au1 F.init.length cu1)) (a := ⟨w.heap.size, 4, none⟩) (show w.heap.size < _ from hgW) (.slice Au2 F.cond.length cu2))
        have HU2' := Lib.hid (ownsRow_setCell_below (ownsRow_setCell_below HU2.out (a := ⟨w.heap.size, 1, none⟩) (show w.heap.size < _ from hgW) (.slice Au1 F.init.length cu1)) (a := ⟨w.heap.size, 4, none⟩) (show w.heap.size < _ from hgW) (.slice Au2 F.cond.length cu2))
        have HB3 := Lib.hid (((hBW.out.trans (HLwb.out.mono hBW.out.size)).setCell (p := ⟨w.heap.size, 1, none⟩) (Nat.le_refl _) (.slice Au1 F.init.length cu1)).setCell (p := ⟨w.heap.size, 4, none⟩) (Nat.le_refl _) (.slice Au2 F.cond.length cu2))
        have HZ3 := Lib.hid (((ZB.out.below HLwb.out ZB.out.lt).other (b := w.heap.size) (by omega) 1 (.slice Au1 F.init.length cu1)).other (b := w.heap.size) (by omega) 4 (.slice Au2 F.cond.length cu2))
        clear hHeld
        go_wp2_with fail
        go_meet
        exact ⟨_, _, HYB3.out, HZ3.out, HU1'.out, HU2'.out, HB3.out⟩
      · -- 4 first
        have k4 := (YB.out.below HLX0.out YB.out.lt).cell 4 _ rfl
        go_simp
        refine hK.out _ _ trivial (fun hHeld => ?_)
        clear hK K
        (try simp only [Act.put, List.getElem_toArray, List.getElem_cons_zero, List.getElem_cons_succ, Array.getInternal_eq_getElem, List.setIfInBounds_toArray, List.set_cons_zero, List.set_cons_succ])
        clear k4
        refine wpAnyH_ready (rs := [2]) (by kernel_rfl) (by simp) ?_
        refine AllReadyH.cons rfl (fun K hK => ?_) AllReadyH.nil
        go_simp
        refine (clonec_any _ (HCI.out _ HLX0.out) (HBX.out _ HLX0.out) HN1.out).mono ?_
        rintro e wa ⟨u1, rfl, hu1, hba⟩
        obtain ⟨Au1, cu1, rfl⟩ := own_slice hu1
        have HLwa := Lib.hid (chain HLX0.out hba)
        have HU1 := Lib.hid (own_base hu1 HLX0.out.size)
        clear hba hu1
        refine hK.out _ _ trivial (fun hHeld => ?_)
        clear hK K
        (try simp only [Act.put, List.getElem_toArray, List.getElem_cons_zero, List.getElem_cons_succ, Array.getInternal_eq_getElem, List.setIfInBounds_toArray, List.set_cons_zero, List.set_cons_succ])
        refine wpAnyH_take (i := 6) (v := ?_) rfl (by kernel_rfl) (by kernel_rfl) (by kernel_rfl) (fun _ _ _ h => h) (Or.inl ⟨by rfl, ?_⟩) (by assumption) ?_
        rotate_left
        · intro w hSw; (try dsimp only at hSw); go_simp; (try with_reducible rfl)
        (try simp only [Act.put, List.getElem_toArray, List.getElem_cons_zero, List.getElem_cons_succ, Array.getInternal_eq_getElem, List.setIfInBounds_toArray, List.set_cons_zero, List.set_cons_succ])
        refine wpAnyH_ready (rs := [5]) (by kernel_rfl) (by simp) ?_
        refine AllReadyH.cons rfl (fun K hK => ?_) AllReadyH.nil
        go_simp
        refine (clonea_any _ (HAI.out _ HLwa.out) (HBX.out _ HLwa.out) HN2.out).mono ?_
        rintro e wb ⟨u2, rfl, hu2, hba⟩
        obtain ⟨Au2, cu2, rfl⟩ := own_slice hu2
        have HLwb := Lib.hid (chain HLwa.out hba)
        have HU2 := Lib.hid (own_base hu2 HLwa.out.size)
        replace HU1 := Lib.hid (own_below HU1.out hba)
        clear hba hu2
        refine hK.out _ _ trivial (fun hHeld => ?_)
        clear hK K
        (try simp only [Act.put, List.getElem_toArray, List.getElem_cons_zero, List.getElem_cons_succ, Array.getInternal_eq_getElem, List.setIfInBounds_toArray, List.set_cons_zero, List.set_cons_succ])
        refine wpAnyH_ready (rs := [7]) (by kernel_rfl) (by simp) ?_
        refine AllReadyH.cons rfl (fun K hK => ?_) AllReadyH.nil
        have HYB := Lib.hid (YB.out.below HLwb.out YB.out.lt)
        have k1 := HYB.out.cell 1 _ rfl
        have f1 := HYB.out.frozen 1
        go_simp
        refine hK.out _ _ trivial (fun hHeld => ?_)
        clear hK K
        (try simp only [Act.put, List.getElem_toArray, List.getElem_cons_zero, List.getElem_cons_succ, Array.getInternal_eq_getElem, List.setIfInBounds_toArray, List.set_cons_zero, List.set_cons_succ])
        clear k1 f1
        have HYB2 := Lib.hid (HYB.out.set 1 (.slice Au1 F.init.length cu1))
        refine wpAnyH_take (i := 8) (v := ?_) rfl (by kernel_rfl) (by kernel_rfl) (by kernel_rfl) (fun _ _ _ h => h) (Or.inl ⟨by rfl, ?_⟩) (by assumption) ?_
        rotate_left
        · intro w hSw; (try dsimp only at hSw); go_simp; (try with_reducible rfl)
        (try simp only [Act.put, List.getElem_toArray, List.getElem_cons_zero, List.getElem_cons_succ, Array.getInternal_eq_getElem, List.setIfInBounds_toArray, List.set_cons_zero, List.set_cons_succ])
        refine wpAnyH_ready (rs := [9]) (by kernel_rfl) (by simp) ?_
        refine AllReadyH.cons rfl (fun K hK => ?_) AllReadyH.nil
        have k4 := HYB2.out.cell 4 _ rfl
        have f4 := HYB2.out.frozen 4
        go_simp
        refine hK.out _ _ trivial (fun hHeld => ?_)
        clear hK K
        (try simp only [Act.put, List.getElem_toArray, List.getElem_cons_zero, List.getElem_cons_succ, Array.getInternal_eq_getElem, List.setIfInBounds_toArray, List.set_cons_zero, List.set_cons_succ])
        clear k4 f4
        refine wpAnyH_done (by kernel_rfl) ?_ _
        have HYB3 := Lib.hid (HYB2.out.set 4 (.slice Au2 F.cond.length cu2))
        have HU1' := Lib.hid (ownsRow_setCell_below (ownsRow_setCell_below HU1.out (a := ⟨w.heap.size, 1, none⟩) (show w.heap.size < _ from hgW) (.slice Au1 F.init.length cu1)) (a := ⟨w.heap.size, 4, none⟩) (show w.heap.size < _ from hgW) (.slice Au2 F.cond.length cu2))
        have HU2' := Lib.hid (ownsRow_setCell_below (ownsRow_setCell_below HU2.out (a := ⟨w.heap.size, 1, none⟩) (show w.heap.size < _ from hgW) (.slice Au1 F.init.length cu1)) (a := ⟨w.heap.size, 4, none⟩) (show w.heap.size < _ from hgW) (.slice Au2 F.cond.length cu2))
        have HB3 := Lib.hid (((hBW.out.trans (HLwb.out.mono hBW.out.size)).setCell (p := ⟨w.heap.size, 1, none⟩) (Nat.le_refl _) (.slice Au1 F.init.length cu1)).setCell (p := ⟨w.heap.size, 4, none⟩) (Nat.le_refl _) (.slice Au2 F.cond.length cu2))
        have HZ3 := Lib.hid (((ZB.out.below HLwb.out ZB.out.lt).other (b := w.heap.size) (by omega) 1 (.slice Au1 F.init.length cu1)).other (b := w.heap.size) (by omega) 4 (.slice Au2 F.cond.length cu2))
        clear hHeld
        go_wp2_with fail
        go_meet
        exact ⟨_, _, HYB3.out, HZ3.out, HU1'.out, HU2'.out, HB3.out⟩
    · -- 4 first
      have k4 := (YB.out.below HLX0.out YB.out.lt).cell 4 _ rfl
      go_simp
      refine hK.out _ _ trivial (fun hHeld => ?_)
      clear hK K
      (try simp only [Act.put, List.getElem_toArray, List.getElem_cons_zero, List.getElem_cons_succ, Array.getInternal_eq_getElem, List.setIfInBounds_toArray, List.set_cons_zero, List.set_cons_succ])
      clear k4
      refine wpAnyH_ready (rs := [1]) (by kernel_rfl) (by simp) ?_
      refine AllReadyH.cons rfl (fun K hK => ?_) AllReadyH.nil
      have k1 := (YB.out.below HLX0.out YB.out.lt).cell 1 _ rfl
      go_simp
      refine hK.out _ _ trivial (fun hHeld => ?_)
      clear hK K
      (try simp only [Act.put, List.getElem_toArray, List.getElem_cons_zero, List.getElem_cons_succ, Array.getInternal_eq_getElem, List.setIfInBounds_toArray, List.set_cons_zero, List.set_cons_succ])
      clear k1
      refine wpAnyH_ready (rs := [2]) (by kernel_rfl) (by simp) ?_
      refine AllReadyH.cons rfl (fun K hK => ?_) AllReadyH.nil
      go_simp
      refine (clonec_any _ (HCI.out _ HLX0.out) (HBX.out _ HLX0.out) HN1.out).mono ?_
      rintro e wa ⟨u1, rfl, hu1, hba⟩
      obtain ⟨Au1, cu1, rfl⟩ := own_slice hu1
      have HLwa := Lib.hid (chain HLX0.out hba)
      have HU1 := Lib.hid (own_base hu1 HLX0.out.size)
      clear hba hu1
      refine hK.out _ _ trivial (fun hHeld => ?_)
      clear hK K
      (try simp only [Act.put, List.getElem_toArray, List.getElem_cons_zero, List.getElem_cons_succ, Array.getInternal_eq_getElem, List.setIfInBounds_toArray, List.set_cons_zero, List.set_cons_succ])
      refine wpAnyH_take (i := 6) (v := ?_) rfl (by kernel_rfl) (by kernel_rfl) (by kernel_rfl) (fun _ _ _ h => h) (Or.inl ⟨by rfl, ?_⟩) (by assumption) ?_
      rotate_left
      · intro w hSw; (try dsimp only at hSw); go_simp; (try with_reducible rfl)
      (try simp only [Act.put, List.getElem_toArray, List.getElem_cons_zero, List.getElem_cons_succ, Array.getInternal_eq_getElem, List.setIfInBounds_toArray, List.set_cons_zero, List.set_cons_succ])
      refine wpAnyH_ready (rs := [5]) (by kernel_rfl) (by simp) ?_
      refine AllReadyH.cons rfl (fun K hK => ?_) AllReadyH.nil
      go_simp
      refine (clonea_any _ (HAI.out _ HLwa.out) (HBX.out _ HLwa.out) HN2.out).mono ?_
      rintro e wb ⟨u2, rfl, hu2, hba⟩
      obtain ⟨Au2, cu2, rfl⟩ := own_slice hu2
      have HLwb := Lib.hid (chain HLwa.out hba)
      have HU2 := Lib.hid (own_base hu2 HLwa.out.size)
      replace HU1 := Lib.hid (own_below HU1.out hba)
      clear hba hu2
      refine hK.out _ _ trivial (fun hHeld => ?_)
      clear hK K
      (try simp only [Act.put, List.getElem_toArray, List.getElem_cons_zero, List.getElem_cons_succ, Array.getInternal_eq_getElem, List.setIfInBounds_toArray, List.set_cons_zero, List.set_cons_succ])
      refine wpAnyH_ready (rs := [7]) (by kernel_rfl) (by simp) ?_
      refine AllReadyH.cons rfl (fun K hK => ?_) AllReadyH.nil
      have HYB := Lib.hid (YB.out.below HLwb.out YB.out.lt)
      have k1 := HYB.out.cell 1 _ rfl
      have f1 := HYB.out.frozen 1
      go_simp
      refine hK.out _ _ trivial (fun hHeld => ?_)
      clear hK K
      (try simp only [Act.put, List.getElem_toArray, List.getElem_cons_zero, List.getElem_cons_succ, Array.getInternal_eq_getElem, List.setIfInBounds_toArray, List.set_cons_zero, List.set_cons_succ])
      clear k1 f1
      have HYB2 := Lib.hid (HYB.out.set 1 (.slice Au1 F.init.length cu1))
      refine wpAnyH_take (i := 8) (v := ?_) rfl (by kernel_rfl) (by kernel_rfl) (by kernel_rfl) (fun _ _ _ h => h) (Or.inl ⟨by rfl, ?_⟩) (by assumption) ?_
      rotate_left
      · intro w hSw; (try dsimp only at hSw); go_simp; (try with_reducible rfl)
      (try simp only [Act.put, List.getElem_toArray, List.getElem_cons_zero, List.getElem_cons_succ, Array.getInternal_eq_getElem, List.setIfInBounds_toArray, List.set_cons_zero, List.set_cons_succ])
      refine wpAnyH_ready (rs := [9]) (by kernel_rfl) (by simp) ?_
      refine AllReadyH.cons rfl (fun K hK => ?_) AllReadyH.nil
      have k4 := HYB2.out.cell 4 _ rfl
      have f4 := HYB2.out.frozen 4
      go_simp
      refine hK.out _ _ trivial (fun hHeld => ?_)
      clear hK K
      (try simp only [Act.put, List.getElem_toArray, List.getElem_cons_zero, List.getElem_cons_succ, Array.getInternal_eq_getElem, List.setIfInBounds_toArray, List.set_cons_zero, List.set_cons_succ])
      clear k4 f4
      refine wpAnyH_done (by kernel_rfl) ?_ _
      have HYB3 := Lib.hid (HYB2.out.set 4 (.slice Au2 F.cond.length cu2))
      have HU1' := Lib.hid (ownsRow_setCell_below (ownsRow_setCell_below HU1.out (a := ⟨w.heap.size, 1, none⟩) (show w.heap.size < _ from hgW) (.slice Au1 F.init.length cu1)) (a := ⟨w.heap.size, 4, none⟩) (show w.heap.size < _ from hgW) (.slice Au2 F.cond.length cu2))
      have HU2' := Lib.hid (ownsRow_setCell_below (ownsRow_setCell_below HU2.out (a := ⟨w.heap.size, 1, none⟩) (show w.heap.size < _ from hgW) (.slice Au1 F.init.length cu1)) (a := ⟨w.heap.size, 4, none⟩) (show w.heap.size < _ from hgW) (.slice Au2 F.cond.length cu2))
      have HB3 := Lib.hid (((hBW.out.trans (HLwb.out.mono hBW.out.size)).setCell (p := ⟨w.heap.size, 1, none⟩) (Nat.le_refl _) (.slice Au1 F.init.length cu1)).setCell (p := ⟨w.heap.size, 4, none⟩) (Nat.le_refl _) (.slice Au2 F.cond.length cu2))
      have HZ3 := Lib.hid (((ZB.out.below HLwb.out ZB.out.lt).other (b := w.heap.size) (by omega) 1 (.slice Au1 F.init.length cu1)).other (b := w.heap.size) (by omega) 4 (.slice Au2 F.cond.length cu2))
      clear hHeld
      go_wp2_with fail
      go_meet
      exact ⟨_, _, HYB3.out, HZ3.out, HU1'.out, HU2'.out, HB3.out⟩
  case rest =>
    obtain ⟨ui, uc, hYB, hZB, hui, huc, hBc⟩ := hcut
    obtain ⟨Au1, cu1, rfl⟩ := own_slice hui
    obtain ⟨Au2, cu2, rfl⟩ := own_slice huc
    have hszc : w.heap.size + 1 < wc.heap.size := hZB.lt
    obtain ⟨ii, hii, hiz, his, hib⟩ := info_parts info_thr
    obtain ⟨w2, hmk, hown2, hgr2⟩ := run_makeSlice_full (P := Try.prog) (w := wc) wc.heap.size 27 58 ii (.agg #[.slice none 0 0]) 1 Try.underlying27 hii hiz his .i64 .i64 ts.length (by omega) (by rw [hib]; omega) (by unfold maxLen; omega) (Nat.le_refl _)
    rw [made_thr] at hown2
    have hB2 : Below wc.heap.size wc w2 := ⟨hgr2.os, hgr2.tape, hgr2.output, hgr2.size, fun k hk => hgr2.block k hk (by simp)⟩
    have hWle : WW.heap.size ≤ wc.heap.size := by have := HSW.out; omega
    obtain ⟨gm, hgm⟩ : ∃ g, g = wc.heap.size := ⟨_, rfl⟩
    rw [← hgm] at hmk
    have HO2 := Lib.hid (show w2.ownsRow WW.heap.size 58 1 (.slice (some ⟨gm, 0, none⟩) ts.length ts.length) ts.length (List.replicate ts.length (.slice none 0 0)) from by rw [hgm]; exact own_base hown2 hWle)
    have hgm1 : w.heap.size + 1 < gm := by omega
    have hY2 := hYB.below hB2 hYB.lt
    have hZ2 := hZB.below hB2 hZB.lt
    have hU2 := own_below hui hB2
    have hV2 := own_below huc hB2
    have hB2c := hBc.trans (hB2.mono hBc.size)
    have y1 := hY2.cell 2 _ rfl
    have f1 := hY2.frozen 2
    obtain ⟨wd, hwd⟩ : ∃ W, W = w2.setCell ⟨w.heap.size, 2, none⟩ (.slice (some ⟨gm, 0, none⟩) ts.length ts.length) := ⟨_, rfl⟩
    have HYd := Lib.hid (show BoxC wd w.heap.size 30 #[.string ⟨F.name.toArray⟩, .slice Au1 F.init.length cu1, .slice (some ⟨gm, 0, none⟩) ts.length ts.length, .bool F.all, .slice Au2 F.cond.length cu2] from by rw [hwd]; exact hY2.set 2 _)
    have HZd := Lib.hid (show BoxC wd (w.heap.size + 1) 30 #[.string ⟨#[]⟩, .slice none 0 0, .slice none 0 0, .bool false, .slice none 0 0] from by rw [hwd]; exact hZ2.other (b := w.heap.size) (by omega) 2 _)
    have HUd := Lib.hid (show wd.ownsRow WW.heap.size 62 2 (.slice Au1 F.init.length cu1) F.init.length (F.init.flatMap clC) from by rw [hwd]; exact ownsRow_setCell_below hU2 (a := ⟨w.heap.size, 2, none⟩) (show w.heap.size < _ from hgW) _)
    have HVd := Lib.hid (show wd.ownsRow WW.heap.size 64 3 (.slice Au2 F.cond.length cu2) F.cond.length (F.cond.flatMap amC) from by rw [hwd]; exact ownsRow_setCell_below hV2 (a := ⟨w.heap.size, 2, none⟩) (show w.heap.size < _ from hgW) _)
    have HOd := Lib.hid (show wd.ownsRow WW.heap.size 58 1 (.slice (some ⟨gm, 0, none⟩) ts.length ts.length) ts.length (List.replicate ts.length (.slice none 0 0)) from by rw [hwd]; exact ownsRow_setCell_below HO2.out (a := ⟨w.heap.size, 2, none⟩) (show w.heap.size < _ from hgW) _)
    have HBd := Lib.hid (show Below w.heap.size w wd from by rw [hwd]; exact hB2c.setCell (p := ⟨w.heap.size, 2, none⟩) (Nat.le_refl _) _)
    have HLV := Lib.hid (fun X (hX : Below w.heap.size w X) (q : Nat) (hq : q < ts.length) (b f : Nat) (e : PL = some ⟨b, f, none⟩) => show b < w.heap.size ∧ ∃ u, X.cell? ⟨b, f + q, none⟩ = some u ∧ Lns B X u ts[q] from by
      obtain ⟨b', f', e', hb, hc⟩ := l3 (by omega)
      rw [e] at e'; injection e' with e'; injection e' with e1 e2; subst e1; subst e2
      obtain ⟨u, h1, h2⟩ := hc q hq
      exact ⟨by omega, u, (hX.cell (p := ⟨b, f + q, none⟩) (show b < _ by omega)).trans h1, h2.below (hX.mono hBB)⟩)
    have HPL := Lib.hid (fun (h : 0 < ts.length) => show ∃ b f, PL = some ⟨b, f, none⟩ from by obtain ⟨b, f, e, -⟩ := l3 h; exact ⟨b, f, e⟩)
    clear hgm hown2 hgr2 hB2 hYB hZB hui huc hBc hY2 hZ2 hU2 hV2 hB2c l3
    go_wp2
    rw [← hwd]
    clear hwd y1 f1
    go_loopw [21] (fun i wr => ∃ (j : Nat) (vs : List Value), j ≤ ts.length ∧ i = .int .i64 j ∧ wr.ownsRow WW.heap.size 58 1 (.slice (some ⟨gm, 0, none⟩) ts.length ts.length) ts.length vs ∧ (∀ q (hq : q < ts.length), q < j → ∃ u, vs[q]? = some u ∧ ∀ W', Off H w W' → Lns W'.heap.size W' u ts[q]) ∧
      BoxC wr w.heap.size 30 #[.string ⟨F.name.toArray⟩, .slice Au1 F.init.length cu1, .slice (some ⟨gm, 0, none⟩) ts.length ts.length, .bool F.all, .slice Au2 F.cond.length cu2] ∧ BoxC wr (w.heap.size + 1) 30 #[.string ⟨#[]⟩, .slice none 0 0, .slice none 0 0, .bool false, .slice none 0 0] ∧
      wr.ownsRow WW.heap.size 62 2 (.slice Au1 F.init.length cu1) F.init.length (F.init.flatMap clC) ∧ wr.ownsRow WW.heap.size 64 3 (.slice Au2 F.cond.length cu2) F.cond.length (F.cond.flatMap amC) ∧ Below w.heap.size w wr) (fun i _ => ts.length - (intOf i).toNat)
    case atStart => exact ⟨0, _, Nat.zero_le _, rfl, HOd.out, fun q hq h => absurd h (Nat.not_lt_zero q), HYd.out, HZd.out, HUd.out, HVd.out, HBd.out⟩
    case round =>
      obtain ⟨j, vs, hj, rfl, hown, hall, hYB, hZB, hui, huc, hB⟩ := hrel
      by_cases hlt : j < ts.length
      · have hp : 0 < ts.length := by omega
        obtain ⟨b1, f1, hPL⟩ := HPL.out hp
        obtain ⟨hb1, uu, hcu, hlu⟩ := HLV.out wr hB j hlt b1 f1 hPL
        obtain ⟨-, u0, hcu0, hlu0⟩ := HLV.out w (Below.refl _ _) j hlt b1 f1 hPL
        have hb1s : b1 < wr.heap.size := Nat.lt_of_lt_of_le hb1 hB.size
        have hcu' : wr.cell? ⟨b1, f1 + j, none⟩ = some u0 := (hB.cell (p := ⟨b1, f1 + j, none⟩) hb1).trans hcu0
        have HLU := Lib.hid (fun W' (hO : Off H w W') => HQ.out b1 f1 j hlt u0 hPL hcu0 W' hO)
        obtain ⟨A1, c1, rfl, -⟩ := hlu0
        clear hcu hlu hcu0
        have hjv : j < vs.length := by rw [hown.1]; omega
        have y2 := hYB.cell 2 _ rfl
        have c9 := hown.cellAt j (by omega)
        rw [List.getElem?_eq_getElem hjv] at c9
        have f9 := hown.frozenAt j
        have HA := Lib.hid hall
        have hst := hown.stored j (.slice A1 ts[j].length c1)
        have HO1 := Lib.hid hst.1
        have HU1 := Lib.hid (own_grown (by decide) hui hown hst.2)
        have HV1 := Lib.hid (own_grown (by decide) huc hown hst.2)
        have HY1 := Lib.hid (hYB.other (b := gm) (by omega) j (.slice A1 ts[j].length c1))
        have HZ1 := Lib.hid (hZB.other (b := gm) (by omega) j (.slice A1 ts[j].length c1))
        have HB1 := Lib.hid (hB.setCell (p := ⟨gm, j, none⟩) (show w.heap.size ≤ gm by omega) (.slice A1 ts[j].length c1))
        subst hPL
        clear hst hall hown hui huc hYB hZB
        go_wp2
        go_roundw
        case rel =>
          refine ⟨j + 1, vs.set j (.slice A1 ts[j].length c1), by omega, by go_num, HO1.out, fun q hq hqj => ?_, HY1.out, HZ1.out, HU1.out, HV1.out, HB1.out⟩
          by_cases e : q = j
          · subst e; exact ⟨_, by rw [List.getElem?_set_self hjv], HLU.out⟩
          · rw [List.getElem?_set_ne (Ne.symm e)]
            exact HA.out q hq (by omega)
        case measure => simp [intOf]; omega
      · obtain rfl : ts.length = j := by omega
        have hz : Try.prog.cellsOf 30 = 5 := by kernel_rfl
        have y0 := hYB.cell 0 _ rfl
        have y1 := hYB.cell 1 _ rfl
        have y2 := hYB.cell 2 _ rfl
        have y3 := hYB.cell 3 _ rfl
        have y4 := hYB.cell 4 _ rfl
        have z0 := hZB.cell 0 _ rfl
        have z1 := hZB.cell 1 _ rfl
        have z2 := hZB.cell 2 _ rfl
        have z3 := hZB.cell 3 _ rfl
        have z4 := hZB.cell 4 _ rfl
        have g0 := hZB.frozen 0
        have g1 := hZB.frozen 1
        have g2 := hZB.frozen 2
        have g3 := hZB.frozen 3
        have g4 := hZB.frozen 4
        go_wp2
        have hZ9 := ((((hZB.set 0 (.string ⟨F.name.toArray⟩)).set 1 (.slice Au1 F.init.length cu1)).set 2 (.slice (some ⟨gm, 0, none⟩) ts.length ts.length)).set 3 (.bool F.all)).set 4 (.slice Au2 F.cond.length cu2)
        have e0 := hZ9.cell 0 _ rfl
        have e1 := hZ9.cell 1 _ rfl
        have e2 := hZ9.cell 2 _ rfl
        have e3 := hZ9.cell 3 _ rfl
        have e4 := hZ9.cell 4 _ rfl
        have hgb : w.heap.size + 1 < WW.heap.size := by have := HSW.out; omega
        have hU9 := own5 hui hgb (.string ⟨F.name.toArray⟩) (.slice Au1 F.init.length cu1) (.slice (some ⟨gm, 0, none⟩) ts.length ts.length) (.bool F.all) (.slice Au2 F.cond.length cu2)
        have hV9 := own5 huc hgb (.string ⟨F.name.toArray⟩) (.slice Au1 F.init.length cu1) (.slice (some ⟨gm, 0, none⟩) ts.length ts.length) (.bool F.all) (.slice Au2 F.cond.length cu2)
        have hO9 := own5 hown hgb (.string ⟨F.name.toArray⟩) (.slice Au1 F.init.length cu1) (.slice (some ⟨gm, 0, none⟩) ts.length ts.length) (.bool F.all) (.slice Au2 F.cond.length cu2)
        have hB9 := below5 hB (show w.heap.size ≤ w.heap.size + 1 by omega) (.string ⟨F.name.toArray⟩) (.slice Au1 F.init.length cu1) (.slice (some ⟨gm, 0, none⟩) ts.length ts.length) (.bool F.all) (.slice Au2 F.cond.length cu2)
        clear y0 y1 y2 y3 y4 z0 z1 z2 z3 z4 g0 g1 g2 g3 g4 hZ9 hYB hZB
        generalize (((((wr.setCell ⟨w.heap.size + 1, 0, none⟩ (.string ⟨F.name.toArray⟩)).setCell ⟨w.heap.size + 1, 1, none⟩ (.slice Au1 F.init.length cu1)).setCell ⟨w.heap.size + 1, 2, none⟩ (.slice (some ⟨gm, 0, none⟩) ts.length ts.length)).setCell ⟨w.heap.size + 1, 3, none⟩ (.bool F.all)).setCell ⟨w.heap.size + 1, 4, none⟩ (.slice Au2 F.cond.length cu2)) = W9 at *
        refine bodyPost_ret (v := .agg #[.string ⟨F.name.toArray⟩, .slice Au1 F.init.length cu1, .slice (some ⟨gm, 0, none⟩) ts.length ts.length, .bool F.all, .slice Au2 F.cond.length cu2]) (by simp [results, Try.results37, go_sem, e0, e1, e2, e3, e4, hz]) rfl ?_
        have HHB : ∀ k, H k → k < WW.heap.size := fun k hk => by have := HHH.out k hk; have := HSW.out; omega
        exact ⟨_, rfl, fun W' hO => ⟨_, _, _, rfl, cls_own (own_off hU9 hO HHB) (Nat.le_refl _), ths_of_own (own_off hO9 hO HHB) (Nat.le_refl _) (fun q hq => by
          obtain ⟨u, h1, h2⟩ := hall q hq hq
          exact ⟨u, h1, h2 W' ((Off.below hB9).trans hO)⟩), ams_own (own_off hV9 hO HHB) (Nat.le_refl _)⟩, hB9⟩
end Go.Proofs.Ytaelfjphgdlbcaa
