/-
  THE DOCUMENT's Nums of layer 12: the numbers of a state.
-/
import Derived.Test.YtmpjcfehabnhgaaDoorK13
import Derived.Test.YtmpjcfehabnhgaaDoorK01
import Derived.Deep.RegionHeld3
import Derived.Deep.DeepCutAuto
namespace Go.Proofs.YtmpjcfehabnhgaaDoor
open Go.RowKit
set_option linter.unusedVariables false
set_option linter.unusedSimpArgs false
open BfM (Wr)
open ScM
open EnM

theorem int_src {B c : Nat} {W : World} {A : Option Addr} {m : List Int} (h : IntR B W (.slice A m.length c) m) : (A = none → m.length = 0 ∧ c = 0) ∧ ∀ ad, A = some ad → ∀ j u, (m.flatMap nuC)[j]? = some u → W.cell? (ad.add j) = some u := by
  obtain ⟨A9, c9, e, h1, h2, h0, h3⟩ := h
  injection e with e1 _ e2
  subst e1 e2
  exact ⟨h0, src_rw (c := c) nuC_len h0 h3 (Below.refl _ _)⟩
/-- A block that is too small for a row is none of it. -/
theorem lit_apart {X : World} {g base n : Nat} {T T2 : TypeId} {cs : Array Value} {v : Value} {xs : List Value} (hL : BoxC X g T cs) (ho : X.ownsRow base T2 1 v n xs) (hn : cs.size < n) : v.ownBlock ≠ some g := by
  intro e
  rcases ho.2 with ⟨rfl, _⟩ | ⟨g1, cap, cur, rfl, _, hh1, hnc, _, hcs, _⟩
  · cases e
  · injection e with e
    have e : g1 = g := e
    subst e
    rw [show X.heap[g1]? = _ from hL] at hh1; injection hh1 with hh1; injection hh1 with h1
    subst h1
    omega
theorem lit_keep {X Y : World} {g base n : Nat} {T T2 : TypeId} {cs : Array Value} {v : Value} {xs : List Value} (hL : BoxC X g T cs) (ho : X.ownsRow base T2 1 v n xs) (hn : cs.size < n) (hg : X.grownBy Y v.ownBlock) : BoxC Y g T cs :=
  (hg.block g hL.lt (fun e => lit_apart hL ho hn e.symm)).trans hL
theorem lit_news {X : World} {g : Nat} {T : TypeId} {cs : Array Value} (hL : BoxC X g T cs) : ∀ ad, some (⟨g, 0, none⟩ : Addr) = some ad → ∀ j u, cs.toList[j]? = some u → X.cell? (ad.add j) = some u := by
  intro ad e j u hu
  injection e with e
  rw [← e, Addr.add_lit, Nat.zero_add]
  exact hL.cell j u (by simpa using hu)
theorem own_lenD {b n : Nat} {W : World} {v : Value} {xs : List Int} (h : W.ownsRow b 3 1 v n (xs.flatMap nuC)) (hl : xs.length = n) : OwnI b W v xs := by
  subst hl; exact h
def RnRel (s : Sta) (n : Nat) (g1 : Nat) (vm vt : Value) (w : World) (v i : Value) (wr : World) : Prop :=
  ∃ k : Nat, k ≤ n ∧ i = .int .i64 k ∧ OwnI w.heap.size wr v (rowN s.mem ++ ((n : Int) :: (s.ths.take k).flatMap thN)) ∧ BoxC wr g1 25 #[vm, vt] ∧ Below w.heap.size w wr
def RnRel2 (ns : List Int) (b : List Wr) (g1 g5 : Nat) (cs5 : Array Value) (vm vt : Value) (w : World) (v i : Value) (wr : World) : Prop :=
  ∃ k : Nat, k ≤ b.length ∧ i = .int .i64 k ∧ OwnI w.heap.size wr v (ns ++ wrN (b.take k)) ∧ BoxC wr g1 25 #[vm, vt] ∧ BoxC wr g5 44 cs5 ∧ Below w.heap.size w wr
set_option maxHeartbeats 8000000 in
set_option maxRecDepth 100000 in
theorem rnums_any {B : Nat} {s : Sta} {v : Value} (w : World) (hv : StaV B w v s) (hBB : B ≤ w.heap.size) (hl : (numsS s).length ≤ 999999900) :
    Calls Tryd.prog 17 #[v] w fun e w' => ∃ u, e = .returned u ∧ OwnI w.heap.size w' u (numsS s) ∧ Below w.heap.size w w' := by
  obtain ⟨i0, hi, hz0, hz1, hz2⟩ := info_parts info_nu
  obtain ⟨vm, vt, rfl, hm, ht⟩ := hv
  have hl2 : s.mem.length + (s.ths.flatMap thN).length + 2 ≤ 999999900 := by
    have : (numsS s).length = s.mem.length + (s.ths.flatMap thN).length + 2 := by simp only [numsS, rowN, List.length_append, List.length_cons]; omega
    omega
  have hA := below_al (Below.refl w.heap.size w) (.cells #[vm, vt] 25)
  have hs1 : (w.alloc (.cells #[vm, vt] 25)).heap.size = w.heap.size + 1 := by simp
  have HX := Lib.hid (BoxC.new w 25 #[vm, vt])
  have HM := Lib.hid (fun W (hW : Below w.heap.size w W) => (hm.below (hW.mono hBB)).more (Nat.le_trans hBB hW.size))
  have HNS := Lib.hid (show numsS s = rowN s.mem ++ ((s.ths.length : Int) :: (s.ths.take s.ths.length).flatMap thN) from by rw [List.take_length]; rfl)
  obtain ⟨A1, c1, rfl, hm1, hm2, -⟩ := hm
  obtain ⟨A2, c2, rfl, ht1, ht2, -, ht3⟩ := ht
  unfold maxLen at hm2 ht2
  obtain ⟨W1, hW1⟩ : ∃ W, W = w.alloc (.cells #[.slice A1 s.mem.length c1, .slice A2 s.ths.length c2] 25) := ⟨_, rfl⟩
  rw [← hW1] at hA HX hs1
  have HO1 := Lib.hid (World.ownsRow_lit (base := w.heap.size) (e := 3) (size := 1) W1 #[.int .i64 (s.mem.length : Int)] 1 hA.size (by decide) rfl)
  have hal := below_al (Below.refl W1.heap.size W1) (.cells #[.int .i64 (s.mem.length : Int)] 3)
  have hB2 := hA.trans (hal.mono hA.size)
  have HMM := Lib.hid (int_src (HM.out _ hB2))
  have HX2 := Lib.hid (HX.out.alloc (.cells #[.int .i64 (s.mem.length : Int)] 3))
  have HSZ := Lib.hid hs1
  have HWW := Lib.hid hW1
  have hs2 := hA.size
  have hs3 := hB2.size
  have c0 := HX2.out.cell 0 _ rfl
  have c1' := HX2.out.cell 1 _ rfl
  have c00 := HX.out.cell 0 _ rfl
  have c01 := HX.out.cell 1 _ rfl
  obtain ⟨g1, hg1⟩ : ∃ g, g = w.heap.size := ⟨_, rfl⟩
  have HG := Lib.hid hg1
  have hg1l : w.heap.size ≤ g1 := by omega
  clear hA hal hW1 hs1 hg1
  go_enter Tryd.func17, Tryd.ntmps17
  go_upto_region 1 with fail
  rw [← HWW.out]
  go_wp2_with (first
    | (at_builtin; refine wpList_append_rw _ rfl _ _ 22 rfl w.heap.size 3 i0 (.int .i64 0) 1 8 Tryd.underlying22 hi hz0 hz1 hz2 rfl (by decide) _ 1 [.int .i64 (s.mem.length : Int)] rfl HO1.out A1 s.mem.length c1 (s.mem.flatMap nuC) rfl (fl_len nuC_len s.mem) HMM.out.1 HMM.out.2 (one_nu s.mem) (by unfold maxLen; omega) (by omega) hs3 ?_; intro v6 w6 hown6 hg6; have hB7 := below_append hB2 HO1.out (Nat.le_refl _) hs3 hg6; have HO6 := Lib.hid hown6; have HX6 := Lib.hid (HX2.out.grown (by decide) HO1.out hg6); obtain ⟨A6, c6, rfl⟩ := own_slice hown6; clear hown6 hg6 c0 c1' c00 c01; have c0 := HX6.out.cell 0 _ rfl; have c1' := HX6.out.cell 1 _ rfl)
    | (at_builtin; refine wpList_append_own _ rfl _ _ 22 rfl w.heap.size 3 i0 (.int .i64 0) 1 8 Tryd.underlying22 hi hz0 hz1 hz2 rfl (by decide) _ _ _ rfl (HO6.out.alloc _) ⟨w6.heap.size, 0, none⟩ 1 1 [.int .i64 (s.ths.length : Int)] rfl rfl (cell_one_new _ _ _) (by simp [Value.oneCell']) (by unfold maxLen; omega) (by omega) (by simp; have := hB7.size; omega) ?_; intro v7 w7 hown7 hg7 _; have hB8 := below_append (hB7.alloc hB7.size (.cells #[.int .i64 (s.ths.length : Int)] 3)) (HO6.out.alloc _) (Nat.le_refl _) (by simp; have := hB7.size; omega) hg7; have HO7 := Lib.hid hown7; have HX7 := Lib.hid ((HX6.out.alloc (.cells #[.int .i64 (s.ths.length : Int)] 3)).grown (by decide) (HO6.out.alloc _) hg7); obtain ⟨A7, c7, rfl⟩ := own_slice hown7; clear hown7 hg7 c0 c1'; have c0 := HX7.out.cell 0 _ rfl; have c1' := HX7.out.cell 1 _ rfl))
  have HST := Lib.hid (own_lenD (xs := rowN s.mem ++ ((s.ths.length : Int) :: (s.ths.take 0).flatMap thN)) (show w7.ownsRow w.heap.size 3 1 (.slice A7 (1 + s.mem.length + 1) c7) (1 + s.mem.length + 1) ((rowN s.mem ++ ((s.ths.length : Int) :: (s.ths.take 0).flatMap thN)).flatMap nuC) from by simpa [rowN, nuC] using HO7.out) (by simp [rowN]; omega))
  have HSTX := Lib.hid (show RnRel s s.ths.length g1 (.slice A1 s.mem.length c1) (.slice A2 s.ths.length c2) w (.slice A7 (1 + s.mem.length + 1) c7) (.int .i64 0) w7 from ⟨0, Nat.zero_le _, rfl, HST.out, by rw [HG.out]; exact HX7.out, hB8⟩)
  clear HST HO7 HX7 hB8 HO6 hB7 HX6 c0 c1' HMM HO1 HX2 hB2 hs3 HX HWW HSZ hs2
  rw [← HG.out]
  go_loopw [3, 4] (fun v i wr => RnRel s s.ths.length g1 (.slice A1 s.mem.length c1) (.slice A2 s.ths.length c2) w v i wr) (fun _ i _ => s.ths.length - (intOf i).toNat)
  case atStart => exact HSTX.out
  case round =>
    clear HSTX
    obtain ⟨k, hk, rfl, hown, hx, hB⟩ := hrel
    have c0 := hx.cell 0 _ rfl
    have c1' := hx.cell 1 _ rfl
    by_cases hlt : k < s.ths.length
    · obtain ⟨b1, f1, hA1, hb1, hc1⟩ := ht3 (by omega)
      subst hA1
      obtain ⟨vr, vb, d0, d1, d2, d3, hr, hb⟩ := hc1 k hlt
      replace d0 := ((hB.mono hBB).cell (p := ⟨b1, f1 + k * 4, none⟩) hb1).trans d0
      replace d1 := ((hB.mono hBB).cell (p := ⟨b1, f1 + k * 4 + 1, none⟩) hb1).trans d1
      replace d2 := ((hB.mono hBB).cell (p := ⟨b1, f1 + k * 4 + 2, none⟩) hb1).trans d2
      replace d3 := ((hB.mono hBB).cell (p := ⟨b1, f1 + k * 4 + 3, none⟩) hb1).trans d3
      have HTK := Lib.hid (ths_take s.ths k hlt)
      have hTL := ths_take_len s.ths k hlt
      obtain ⟨x, hxx⟩ : ∃ x, x = s.ths[k] := ⟨_, rfl⟩
      rw [← hxx] at d0 d2 hr hb HTK hTL
      clear hxx hc1 ht3
      rw [thN_len] at hTL
      have HRG := Lib.hid (fun X (hX : Below w.heap.size w X) => Rw.more (hr.below (hX.mono hBB)) (Nat.le_trans hBB hX.size))
      have HBG := Lib.hid (fun X (hX : Below w.heap.size w X) => Rw.more (hb.below (hX.mono hBB)) (Nat.le_trans hBB hX.size))
      obtain ⟨A3, c3, rfl, hr1, hr2, -⟩ := hr
      obtain ⟨A4, c4, rfl, hb1', hb2', -, hb3'⟩ := hb
      have hb3' := wr_at (c := c4) hb3'
      unfold maxLen at hr2 hb2'
      replace HRG := Lib.hid (fun X (hX : Below w.heap.size w X) => int_src (HRG.out X hX))
      obtain ⟨xa, xr, xe, xb⟩ := x
      dsimp only at d0 d1 d2 d3 hr1 hb1' hb3' HRG HBG HTK hTL
      obtain ⟨W2, hW2⟩ : ∃ W, W = wr.alloc (.cells #[.int .i64 xa, .slice A3 xr.length c3, .bool xe, .slice A4 xb.length c4] 44) := ⟨_, rfl⟩
      have hal := below_al (Below.refl wr.heap.size wr) (.cells #[.int .i64 xa, .slice A3 xr.length c3, .bool xe, .slice A4 xb.length c4] 44)
      obtain ⟨g5, hg5⟩ : ∃ g, g = wr.heap.size := ⟨_, rfl⟩
      have H5 := Lib.hid (show BoxC W2 g5 44 #[.int .i64 xa, .slice A3 xr.length c3, .bool xe, .slice A4 xb.length c4] from by rw [hW2, hg5]; exact BoxC.new wr _ _)
      rw [← hW2] at hal
      have hB9 := hB.trans (hal.mono hB.size)
      obtain ⟨ns, hns⟩ : ∃ l, l = rowN s.mem ++ ((s.ths.length : Int) :: (s.ths.take k).flatMap thN) := ⟨_, rfl⟩
      rw [← hns] at hown
      have hnl : ns.length = s.mem.length + ((s.ths.take k).flatMap thN).length + 2 := by rw [hns]; simp [rowN]; omega
      obtain ⟨A9, c9, rfl⟩ := own_slice hown
      have HO := Lib.hid (own_below hown hal)
      have HX := Lib.hid (hx.below hal hx.lt)
      have HS := Lib.hid hB9.size
      have HNS2 := Lib.hid hns
      have HWW2 := Lib.hid hW2
      have HGG5 := Lib.hid hg5
      have hns2 : 2 ≤ ns.length := by omega
      have hbd : ns.length + (4 + xr.length + 2 * xb.length) ≤ 999999990 := by omega
      have e0 := H5.out.cell 0 _ rfl
      have e1 := H5.out.cell 1 _ rfl
      have e2 := H5.out.cell 2 _ rfl
      have e3 := H5.out.cell 3 _ rfl
      obtain ⟨ns2, hns2'⟩ : ∃ l, l = ns ++ [xa, bN xe, (xr.length : Int)] ++ xr ++ [(xb.length : Int)] := ⟨_, rfl⟩
      have HN2 := Lib.hid hns2'
      have HNL2 := Lib.hid (show ns2.length = ns.length + 4 + xr.length from by rw [hns2']; simp; omega)
      clear hW2 hg5 hal hns hns2' hx hown hnl
      go_upto_region 7 with fail
      rw [← HWW2.out, ← HGG5.out]
      clear HWW2 d0 d1 d2 d3
      go_upto_if 34 with fail
      go_cut [6] (fun sv W => sv = .int .i64 (bN xe) ∧ W = W2)
      case first =>
        clear HO HX H5 HRG HBG
        cases xe
        · go_wp2_with fail
          go_meet
          exact ⟨rfl, rfl⟩
        · go_wp2_with fail
          go_meet
          exact ⟨rfl, rfl⟩
      case rest =>
      obtain ⟨rfl, hcW⟩ := hcut
      replace hcW := hcW.symm
      subst hcW
      go_upto_region 10 with fail
      go_cut [3] (fun sv W => OwnI w.heap.size W sv ns2 ∧ BoxC W g5 44 #[.int .i64 xa, .slice A3 xr.length c3, .bool xe, .slice A4 xb.length c4] ∧ BoxC W g1 25 #[.slice A1 s.mem.length c1, .slice (some ⟨b1, f1, none⟩) s.ths.length c2] ∧ Below w.heap.size w W)
      case first =>
        refine wp_region_held_drew (S := (fun w' => (w'.cell? ⟨g5, 0, none⟩ = some (.int .i64 xa) ∧ w'.cell? ⟨g5, 1, none⟩ = some (.slice A3 xr.length c3) ∧ w'.cell? ⟨g5, 3, none⟩ = some (.slice A4 xb.length c4)) ∧ Below w.heap.size w w')) (by kernel_rfl) ⟨⟨H5.out.cell 0 _ rfl, H5.out.cell 1 _ rfl, H5.out.cell 3 _ rfl⟩, (below_drewN hB9 1)⟩ (fun hHeld => ?_)
        obtain ⟨Xa, hXa⟩ : ∃ W, W = W2.drew := ⟨_, rfl⟩
        replace HO := Lib.hid (show Xa.ownsRow w.heap.size 3 1 (.slice A9 ns.length c9) ns.length (ns.flatMap nuC) from by rw [hXa]; exact HO.out)
        replace H5 := Lib.hid (show BoxC Xa g5 44 #[.int .i64 xa, .slice A3 xr.length c3, .bool xe, .slice A4 xb.length c4] from by rw [hXa]; exact H5.out)
        replace HX := Lib.hid (show BoxC Xa g1 25 #[.slice A1 s.mem.length c1, .slice (some ⟨b1, f1, none⟩) s.ths.length c2] from by rw [hXa]; exact HX.out)
        replace HS := Lib.hid (show w.heap.size ≤ Xa.heap.size from by rw [hXa]; exact HS.out)
        rw [← hXa] at hHeld ⊢
        clear hXa
        refine wpAnyH_take (i := 0) (v := ?_) rfl (by kernel_rfl) (by kernel_rfl) (by kernel_rfl) (fun _ _ _ h => h) (Or.inl ⟨by rfl, ?_⟩) (by assumption) ?_
        rotate_left
        · intro w hSw; (try dsimp only at hSw); go_simp; (try with_reducible rfl)
        (try simp only [Act.put, List.getElem_toArray, List.getElem_cons_zero, List.getElem_cons_succ, Array.getInternal_eq_getElem, List.setIfInBounds_toArray, List.set_cons_zero, List.set_cons_succ])
        refine wpAnyH_take (i := 1) (v := ?_) rfl (by kernel_rfl) (by kernel_rfl) (by kernel_rfl) (fun _ _ _ h => h) (Or.inl ⟨by rfl, ?_⟩) (by assumption) ?_
        rotate_left
        · intro w hSw; (try dsimp only at hSw); go_simp; (try with_reducible rfl)
        (try simp only [Act.put, List.getElem_toArray, List.getElem_cons_zero, List.getElem_cons_succ, Array.getInternal_eq_getElem, List.setIfInBounds_toArray, List.set_cons_zero, List.set_cons_succ])
        refine wpAnyH_take (i := 2) (v := ?_) rfl (by kernel_rfl) (by kernel_rfl) (by kernel_rfl) (fun _ _ _ h => h) (Or.inl ⟨by rfl, ?_⟩) (by assumption) ?_
        rotate_left
        · intro w hSw; (try dsimp only at hSw); go_simp; (try with_reducible rfl)
        (try simp only [Act.put, List.getElem_toArray, List.getElem_cons_zero, List.getElem_cons_succ, Array.getInternal_eq_getElem, List.setIfInBounds_toArray, List.set_cons_zero, List.set_cons_succ])
        refine wpAnyH_take (i := 3) (v := ?_) rfl (by kernel_rfl) (by kernel_rfl) (by kernel_rfl) (fun _ _ _ h => h) (Or.inl ⟨by rfl, ?_⟩) (by assumption) ?_
        rotate_left
        · intro w hSw; (try dsimp only at hSw); go_simp; (try with_reducible rfl)
        (try simp only [Act.put, List.getElem_toArray, List.getElem_cons_zero, List.getElem_cons_succ, Array.getInternal_eq_getElem, List.setIfInBounds_toArray, List.set_cons_zero, List.set_cons_succ])
        refine wpAnyH_take (i := 4) (v := ?_) rfl (by kernel_rfl) (by kernel_rfl) (by kernel_rfl) (fun _ _ _ h => h) (Or.inl ⟨by rfl, ?_⟩) (by assumption) ?_
        rotate_left
        · intro w hSw; (try dsimp only at hSw); go_simp; (try with_reducible rfl)
        (try simp only [Act.put, List.getElem_toArray, List.getElem_cons_zero, List.getElem_cons_succ, Array.getInternal_eq_getElem, List.setIfInBounds_toArray, List.set_cons_zero, List.set_cons_succ])
        refine wpAnyH_take (i := 5) (v := ?_) rfl (by kernel_rfl) (by kernel_rfl) (by kernel_rfl) (fun _ _ _ h => h) (Or.inl ⟨by rfl, ?_⟩) (by assumption) ?_
        rotate_left
        · intro w hSw; (try dsimp only at hSw); go_simp; (try with_reducible rfl)
        (try simp only [Act.put, List.getElem_toArray, List.getElem_cons_zero, List.getElem_cons_succ, Array.getInternal_eq_getElem, List.setIfInBounds_toArray, List.set_cons_zero, List.set_cons_succ])
        refine wpAnyH_take (i := 6) (v := ?_) rfl (by kernel_rfl) (by kernel_rfl) (by kernel_rfl) (fun _ _ _ h => h) (Or.inl ⟨by rfl, ?_⟩) (by assumption) ?_
        rotate_left
        · intro w hSw; (try dsimp only at hSw); go_simp; (try with_reducible rfl)
        (try simp only [Act.put, List.getElem_toArray, List.getElem_cons_zero, List.getElem_cons_succ, Array.getInternal_eq_getElem, List.setIfInBounds_toArray, List.set_cons_zero, List.set_cons_succ])
        refine wpAnyH_take (i := 9) (v := ?_) rfl (by kernel_rfl) (by kernel_rfl) (by kernel_rfl) (fun _ _ _ h => h) (Or.inl ⟨by rfl, ?_⟩) (by assumption) ?_
        rotate_left
        · intro w hSw; (try dsimp only at hSw); go_simp; (try with_reducible rfl)
        (try simp only [Act.put, List.getElem_toArray, List.getElem_cons_zero, List.getElem_cons_succ, Array.getInternal_eq_getElem, List.setIfInBounds_toArray, List.set_cons_zero, List.set_cons_succ])
        refine wpAnyH_take (i := 10) (v := ?_) rfl (by kernel_rfl) (by kernel_rfl) (by kernel_rfl) (fun _ _ _ h => h) (Or.inl ⟨by rfl, ?_⟩) (by assumption) ?_
        rotate_left
        · intro w hSw; (try dsimp only at hSw); go_simp; (try with_reducible rfl)
        (try simp only [Act.put, List.getElem_toArray, List.getElem_cons_zero, List.getElem_cons_succ, Array.getInternal_eq_getElem, List.setIfInBounds_toArray, List.set_cons_zero, List.set_cons_succ])
        refine wpAnyH_take (i := 12) (v := ?_) rfl (by kernel_rfl) (by kernel_rfl) (by kernel_rfl) (fun _ _ _ h => h) (Or.inl ⟨by rfl, ?_⟩) (by assumption) ?_
        rotate_left
        · intro w hSw; (try dsimp only at hSw); go_simp; (try with_reducible rfl)
        (try simp only [Act.put, List.getElem_toArray, List.getElem_cons_zero, List.getElem_cons_succ, Array.getInternal_eq_getElem, List.setIfInBounds_toArray, List.set_cons_zero, List.set_cons_succ])
        refine wpAnyH_take (i := 13) (v := ?_) rfl (by kernel_rfl) (by kernel_rfl) (by kernel_rfl) (fun _ _ _ h => h) (Or.inl ⟨by rfl, ?_⟩) (by assumption) ?_
        rotate_left
        · intro w hSw; (try dsimp only at hSw); go_simp; (try with_reducible rfl)
        (try simp only [Act.put, List.getElem_toArray, List.getElem_cons_zero, List.getElem_cons_succ, Array.getInternal_eq_getElem, List.setIfInBounds_toArray, List.set_cons_zero, List.set_cons_succ])
        refine wpAnyH_take (i := 14) (v := ?_) rfl (by kernel_rfl) (by kernel_rfl) (by kernel_rfl) (fun _ _ _ h => h) (Or.inl ⟨by rfl, ?_⟩) (by assumption) ?_
        rotate_left
        · intro w hSw; (try dsimp only at hSw); go_simp; (try with_reducible rfl)
        (try simp only [Act.put, List.getElem_toArray, List.getElem_cons_zero, List.getElem_cons_succ, Array.getInternal_eq_getElem, List.setIfInBounds_toArray, List.set_cons_zero, List.set_cons_succ])
        refine wpAnyH_ready (rs := [7, 15]) (by kernel_rfl) (by simp) ?_
        refine AllReadyH.cons rfl (fun K hK => ?_) (AllReadyH.cons rfl (fun K hK => ?_) (AllReadyH.nil))
        · -- 7 first
          go_simp
          refine hK.out _ _ ⟨⟨(H5.out.alloc (.cells #[.int .i64 xa, .int .i64 (bN xe), .int .i64 (xr.length : Int)] 3)).cell 0 _ rfl, (H5.out.alloc (.cells #[.int .i64 xa, .int .i64 (bN xe), .int .i64 (xr.length : Int)] 3)).cell 1 _ rfl, (H5.out.alloc (.cells #[.int .i64 xa, .int .i64 (bN xe), .int .i64 (xr.length : Int)] 3)).cell 3 _ rfl⟩, (hHeld.2.alloc HS.out (.cells #[.int .i64 xa, .int .i64 (bN xe), .int .i64 (xr.length : Int)] 3))⟩ (fun hHeld => ?_)
          clear hK K
          (try simp only [Act.put, List.getElem_toArray, List.getElem_cons_zero, List.getElem_cons_succ, Array.getInternal_eq_getElem, List.setIfInBounds_toArray, List.set_cons_zero, List.set_cons_succ])
          obtain ⟨X7, hX⟩ : ∃ W, W = Xa.alloc (.cells #[.int .i64 xa, .int .i64 (bN xe), .int .i64 (xr.length : Int)] 3) := ⟨_, rfl⟩
          have hal := below_al (Below.refl Xa.heap.size Xa) (.cells #[.int .i64 xa, .int .i64 (bN xe), .int .i64 (xr.length : Int)] 3)
          have HL7 := Lib.hid (show BoxC X7 Xa.heap.size 3 #[.int .i64 xa, .int .i64 (bN xe), .int .i64 (xr.length : Int)] from by rw [hX]; exact BoxC.new Xa _ _)
          rw [← hX] at hal hHeld ⊢
          replace HO := Lib.hid (own_below HO.out hal)
          replace H5 := Lib.hid (H5.out.below hal H5.out.lt)
          replace HX := Lib.hid (HX.out.below hal HX.out.lt)
          replace HS := Lib.hid (Nat.le_trans HS.out hal.size)
          clear hal hX
          refine wpAnyH_ready (rs := [8, 15]) (by kernel_rfl) (by simp) ?_
          refine AllReadyH.cons rfl (fun K hK => ?_) (AllReadyH.cons rfl (fun K hK => ?_) (AllReadyH.nil))
          · -- 8 first
            refine step_append_src (by rfl) _ _ _ (by rfl) w.heap.size 3 i0 (.int .i64 0) 1 8 Tryd.underlying22 hi hz0 hz1 hz2 (by rfl) (by decide) _ ns.length (ns.flatMap nuC) (by rfl) HO.out (some ⟨Xa.heap.size, 0, none⟩) 3 3 [.int .i64 xa, .int .i64 (bN xe), .int .i64 (xr.length : Int)] (by rfl) (by rfl) (fun c => (by cases c)) (lit_news HL7.out) (by simp [Value.oneCell']) (by unfold maxLen; omega) (by omega) HS.out (fun v8 X8 hown hg => ?_)
            have HB8 := Lib.hid (below_append hHeld.2 HO.out (Nat.le_refl _) HS.out hg)
            replace H5 := Lib.hid (H5.out.grown (by decide) HO.out hg)
            replace HX := Lib.hid (HX.out.grown (by decide) HO.out hg)
            replace HS := Lib.hid (Nat.le_trans HS.out hg.size)
            replace HO := Lib.hid hown
            clear hown hg
            refine hK.out _ _ ⟨⟨H5.out.cell 0 _ rfl, H5.out.cell 1 _ rfl, H5.out.cell 3 _ rfl⟩, HB8.out⟩ (fun hHeld => ?_)
            clear hK K
            (try simp only [Act.put, List.getElem_toArray, List.getElem_cons_zero, List.getElem_cons_succ, Array.getInternal_eq_getElem, List.setIfInBounds_toArray, List.set_cons_zero, List.set_cons_succ])
            obtain ⟨D8, e8, rfl⟩ := own_slice HO.out
            refine wpAnyH_ready (rs := [11, 15]) (by kernel_rfl) (by simp) ?_
            refine AllReadyH.cons rfl (fun K hK => ?_) (AllReadyH.cons rfl (fun K hK => ?_) (AllReadyH.nil))
            · -- 11 first
              refine step_append_src (by rfl) _ _ _ (by rfl) w.heap.size 3 i0 (.int .i64 0) 1 8 Tryd.underlying22 hi hz0 hz1 hz2 (by rfl) (by decide) _ (ns.length + 3) ((ns.flatMap nuC ++ [.int .i64 xa, .int .i64 (bN xe), .int .i64 (xr.length : Int)])) (by rfl) HO.out A3 xr.length c3 (xr.flatMap nuC) (by rfl) (fl_len nuC_len xr) (HRG.out X8 hHeld.2).1 (HRG.out X8 hHeld.2).2 (one_nu xr) (by unfold maxLen; omega) (by omega) HS.out (fun v11 X11 hown hg => ?_)
              have HB11 := Lib.hid (below_append hHeld.2 HO.out (Nat.le_refl _) HS.out hg)
              replace H5 := Lib.hid (H5.out.grown (by decide) HO.out hg)
              replace HX := Lib.hid (HX.out.grown (by decide) HO.out hg)
              replace HS := Lib.hid (Nat.le_trans HS.out hg.size)
              replace HO := Lib.hid hown
              clear hown hg
              refine hK.out _ _ ⟨⟨H5.out.cell 0 _ rfl, H5.out.cell 1 _ rfl, H5.out.cell 3 _ rfl⟩, HB11.out⟩ (fun hHeld => ?_)
              clear hK K
              (try simp only [Act.put, List.getElem_toArray, List.getElem_cons_zero, List.getElem_cons_succ, Array.getInternal_eq_getElem, List.setIfInBounds_toArray, List.set_cons_zero, List.set_cons_succ])
              obtain ⟨D11, e11, rfl⟩ := own_slice HO.out
              refine wpAnyH_ready (rs := [15]) (by kernel_rfl) (by simp) ?_
              refine AllReadyH.cons rfl (fun K hK => ?_) AllReadyH.nil
              go_simp
              refine hK.out _ _ ⟨⟨(H5.out.alloc (.cells #[.int .i64 (xb.length : Int)] 3)).cell 0 _ rfl, (H5.out.alloc (.cells #[.int .i64 (xb.length : Int)] 3)).cell 1 _ rfl, (H5.out.alloc (.cells #[.int .i64 (xb.length : Int)] 3)).cell 3 _ rfl⟩, (hHeld.2.alloc HS.out (.cells #[.int .i64 (xb.length : Int)] 3))⟩ (fun hHeld => ?_)
              clear hK K
              (try simp only [Act.put, List.getElem_toArray, List.getElem_cons_zero, List.getElem_cons_succ, Array.getInternal_eq_getElem, List.setIfInBounds_toArray, List.set_cons_zero, List.set_cons_succ])
              obtain ⟨X15, hX⟩ : ∃ W, W = X11.alloc (.cells #[.int .i64 (xb.length : Int)] 3) := ⟨_, rfl⟩
              have hal := below_al (Below.refl X11.heap.size X11) (.cells #[.int .i64 (xb.length : Int)] 3)
              have HL15 := Lib.hid (show BoxC X15 X11.heap.size 3 #[.int .i64 (xb.length : Int)] from by rw [hX]; exact BoxC.new X11 _ _)
              rw [← hX] at hal hHeld ⊢
              replace HO := Lib.hid (own_below HO.out hal)
              replace H5 := Lib.hid (H5.out.below hal H5.out.lt)
              replace HX := Lib.hid (HX.out.below hal HX.out.lt)
              replace HS := Lib.hid (Nat.le_trans HS.out hal.size)
              clear hal hX
              refine wpAnyH_ready (rs := [16]) (by kernel_rfl) (by simp) ?_
              refine AllReadyH.cons rfl (fun K hK => ?_) AllReadyH.nil
              refine step_append_src (by rfl) _ _ _ (by rfl) w.heap.size 3 i0 (.int .i64 0) 1 8 Tryd.underlying22 hi hz0 hz1 hz2 (by rfl) (by decide) _ ((ns.length + 3) + xr.length) (((ns.flatMap nuC ++ [.int .i64 xa, .int .i64 (bN xe), .int .i64 (xr.length : Int)]) ++ xr.flatMap nuC)) (by rfl) HO.out (some ⟨X11.heap.size, 0, none⟩) 1 1 [.int .i64 (xb.length : Int)] (by rfl) (by rfl) (fun c => (by cases c)) (lit_news HL15.out) (by simp [Value.oneCell']) (by unfold maxLen; omega) (by omega) HS.out (fun v16 X16 hown hg => ?_)
              have HB16 := Lib.hid (below_append hHeld.2 HO.out (Nat.le_refl _) HS.out hg)
              replace H5 := Lib.hid (H5.out.grown (by decide) HO.out hg)
              replace HX := Lib.hid (HX.out.grown (by decide) HO.out hg)
              replace HS := Lib.hid (Nat.le_trans HS.out hg.size)
              replace HO := Lib.hid hown
              clear hown hg
              refine hK.out _ _ ⟨⟨H5.out.cell 0 _ rfl, H5.out.cell 1 _ rfl, H5.out.cell 3 _ rfl⟩, HB16.out⟩ (fun hHeld => ?_)
              clear hK K
              (try simp only [Act.put, List.getElem_toArray, List.getElem_cons_zero, List.getElem_cons_succ, Array.getInternal_eq_getElem, List.setIfInBounds_toArray, List.set_cons_zero, List.set_cons_succ])
              obtain ⟨D16, e16, rfl⟩ := own_slice HO.out
              refine wpAnyH_ready (rs := [17]) (by kernel_rfl) (by simp) ?_
              refine AllReadyH.cons rfl (fun K hK => ?_) AllReadyH.nil
              go_simp
              refine hK.out _ _ hHeld (fun hHeld => ?_)
              clear hK K
              (try simp only [Act.put, List.getElem_toArray, List.getElem_cons_zero, List.getElem_cons_succ, Array.getInternal_eq_getElem, List.setIfInBounds_toArray, List.set_cons_zero, List.set_cons_succ])
              refine wpAnyH_done (by kernel_rfl) ?_ _
              have HBZ := Lib.hid hHeld.2
              clear hHeld
              go_wp2_with fail
              go_meet
              exact ⟨own_lenD (xs := ns2) (by rw [HN2.out]; simpa [nuC] using HO.out) (by have := HNL2.out; omega), H5.out, HX.out, HBZ.out⟩
            · -- 15 first
              go_simp
              refine hK.out _ _ ⟨⟨(H5.out.alloc (.cells #[.int .i64 (xb.length : Int)] 3)).cell 0 _ rfl, (H5.out.alloc (.cells #[.int .i64 (xb.length : Int)] 3)).cell 1 _ rfl, (H5.out.alloc (.cells #[.int .i64 (xb.length : Int)] 3)).cell 3 _ rfl⟩, (hHeld.2.alloc HS.out (.cells #[.int .i64 (xb.length : Int)] 3))⟩ (fun hHeld => ?_)
              clear hK K
              (try simp only [Act.put, List.getElem_toArray, List.getElem_cons_zero, List.getElem_cons_succ, Array.getInternal_eq_getElem, List.setIfInBounds_toArray, List.set_cons_zero, List.set_cons_succ])
              obtain ⟨X15, hX⟩ : ∃ W, W = X8.alloc (.cells #[.int .i64 (xb.length : Int)] 3) := ⟨_, rfl⟩
              have hal := below_al (Below.refl X8.heap.size X8) (.cells #[.int .i64 (xb.length : Int)] 3)
              have HL15 := Lib.hid (show BoxC X15 X8.heap.size 3 #[.int .i64 (xb.length : Int)] from by rw [hX]; exact BoxC.new X8 _ _)
              rw [← hX] at hal hHeld ⊢
              replace HO := Lib.hid (own_below HO.out hal)
              replace H5 := Lib.hid (H5.out.below hal H5.out.lt)
              replace HX := Lib.hid (HX.out.below hal HX.out.lt)
              replace HS := Lib.hid (Nat.le_trans HS.out hal.size)
              clear hal hX
              refine wpAnyH_ready (rs := [11]) (by kernel_rfl) (by simp) ?_
              refine AllReadyH.cons rfl (fun K hK => ?_) AllReadyH.nil
              refine step_append_src (by rfl) _ _ _ (by rfl) w.heap.size 3 i0 (.int .i64 0) 1 8 Tryd.underlying22 hi hz0 hz1 hz2 (by rfl) (by decide) _ (ns.length + 3) ((ns.flatMap nuC ++ [.int .i64 xa, .int .i64 (bN xe), .int .i64 (xr.length : Int)])) (by rfl) HO.out A3 xr.length c3 (xr.flatMap nuC) (by rfl) (fl_len nuC_len xr) (HRG.out X15 hHeld.2).1 (HRG.out X15 hHeld.2).2 (one_nu xr) (by unfold maxLen; omega) (by omega) HS.out (fun v11 X11 hown hg => ?_)
              have HB11 := Lib.hid (below_append hHeld.2 HO.out (Nat.le_refl _) HS.out hg)
              replace HL15 := Lib.hid (lit_keep HL15.out HO.out (by show 1 < _; omega) hg)
              replace H5 := Lib.hid (H5.out.grown (by decide) HO.out hg)
              replace HX := Lib.hid (HX.out.grown (by decide) HO.out hg)
              replace HS := Lib.hid (Nat.le_trans HS.out hg.size)
              replace HO := Lib.hid hown
              clear hown hg
              refine hK.out _ _ ⟨⟨H5.out.cell 0 _ rfl, H5.out.cell 1 _ rfl, H5.out.cell 3 _ rfl⟩, HB11.out⟩ (fun hHeld => ?_)
              clear hK K
              (try simp only [Act.put, List.getElem_toArray, List.getElem_cons_zero, List.getElem_cons_succ, Array.getInternal_eq_getElem, List.setIfInBounds_toArray, List.set_cons_zero, List.set_cons_succ])
              obtain ⟨D11, e11, rfl⟩ := own_slice HO.out
              refine wpAnyH_ready (rs := [16]) (by kernel_rfl) (by simp) ?_
              refine AllReadyH.cons rfl (fun K hK => ?_) AllReadyH.nil
              refine step_append_src (by rfl) _ _ _ (by rfl) w.heap.size 3 i0 (.int .i64 0) 1 8 Tryd.underlying22 hi hz0 hz1 hz2 (by rfl) (by decide) _ ((ns.length + 3) + xr.length) (((ns.flatMap nuC ++ [.int .i64 xa, .int .i64 (bN xe), .int .i64 (xr.length : Int)]) ++ xr.flatMap nuC)) (by rfl) HO.out (some ⟨X8.heap.size, 0, none⟩) 1 1 [.int .i64 (xb.length : Int)] (by rfl) (by rfl) (fun c => (by cases c)) (lit_news HL15.out) (by simp [Value.oneCell']) (by unfold maxLen; omega) (by omega) HS.out (fun v16 X16 hown hg => ?_)
              have HB16 := Lib.hid (below_append hHeld.2 HO.out (Nat.le_refl _) HS.out hg)
              replace H5 := Lib.hid (H5.out.grown (by decide) HO.out hg)
              replace HX := Lib.hid (HX.out.grown (by decide) HO.out hg)
              replace HS := Lib.hid (Nat.le_trans HS.out hg.size)
              replace HO := Lib.hid hown
              clear hown hg
              refine hK.out _ _ ⟨⟨H5.out.cell 0 _ rfl, H5.out.cell 1 _ rfl, H5.out.cell 3 _ rfl⟩, HB16.out⟩ (fun hHeld => ?_)
              clear hK K
              (try simp only [Act.put, List.getElem_toArray, List.getElem_cons_zero, List.getElem_cons_succ, Array.getInternal_eq_getElem, List.setIfInBounds_toArray, List.set_cons_zero, List.set_cons_succ])
              obtain ⟨D16, e16, rfl⟩ := own_slice HO.out
              refine wpAnyH_ready (rs := [17]) (by kernel_rfl) (by simp) ?_
              refine AllReadyH.cons rfl (fun K hK => ?_) AllReadyH.nil
              go_simp
              refine hK.out _ _ hHeld (fun hHeld => ?_)
              clear hK K
              (try simp only [Act.put, List.getElem_toArray, List.getElem_cons_zero, List.getElem_cons_succ, Array.getInternal_eq_getElem, List.setIfInBounds_toArray, List.set_cons_zero, List.set_cons_succ])
              refine wpAnyH_done (by kernel_rfl) ?_ _
              have HBZ := Lib.hid hHeld.2
              clear hHeld
              go_wp2_with fail
              go_meet
              exact ⟨own_lenD (xs := ns2) (by rw [HN2.out]; simpa [nuC] using HO.out) (by have := HNL2.out; omega), H5.out, HX.out, HBZ.out⟩
          · -- 15 first
            go_simp
            refine hK.out _ _ ⟨⟨(H5.out.alloc (.cells #[.int .i64 (xb.length : Int)] 3)).cell 0 _ rfl, (H5.out.alloc (.cells #[.int .i64 (xb.length : Int)] 3)).cell 1 _ rfl, (H5.out.alloc (.cells #[.int .i64 (xb.length : Int)] 3)).cell 3 _ rfl⟩, (hHeld.2.alloc HS.out (.cells #[.int .i64 (xb.length : Int)] 3))⟩ (fun hHeld => ?_)
            clear hK K
            (try simp only [Act.put, List.getElem_toArray, List.getElem_cons_zero, List.getElem_cons_succ, Array.getInternal_eq_getElem, List.setIfInBounds_toArray, List.set_cons_zero, List.set_cons_succ])
            obtain ⟨X15, hX⟩ : ∃ W, W = X7.alloc (.cells #[.int .i64 (xb.length : Int)] 3) := ⟨_, rfl⟩
            have hal := below_al (Below.refl X7.heap.size X7) (.cells #[.int .i64 (xb.length : Int)] 3)
            have HL15 := Lib.hid (show BoxC X15 X7.heap.size 3 #[.int .i64 (xb.length : Int)] from by rw [hX]; exact BoxC.new X7 _ _)
            rw [← hX] at hal hHeld ⊢
            replace HO := Lib.hid (own_below HO.out hal)
            replace H5 := Lib.hid (H5.out.below hal H5.out.lt)
            replace HX := Lib.hid (HX.out.below hal HX.out.lt)
            replace HS := Lib.hid (Nat.le_trans HS.out hal.size)
            replace HL7 := Lib.hid (HL7.out.below hal HL7.out.lt)
            clear hal hX
            refine wpAnyH_ready (rs := [8]) (by kernel_rfl) (by simp) ?_
            refine AllReadyH.cons rfl (fun K hK => ?_) AllReadyH.nil
            refine step_append_src (by rfl) _ _ _ (by rfl) w.heap.size 3 i0 (.int .i64 0) 1 8 Tryd.underlying22 hi hz0 hz1 hz2 (by rfl) (by decide) _ ns.length (ns.flatMap nuC) (by rfl) HO.out (some ⟨Xa.heap.size, 0, none⟩) 3 3 [.int .i64 xa, .int .i64 (bN xe), .int .i64 (xr.length : Int)] (by rfl) (by rfl) (fun c => (by cases c)) (lit_news HL7.out) (by simp [Value.oneCell']) (by unfold maxLen; omega) (by omega) HS.out (fun v8 X8 hown hg => ?_)
            have HB8 := Lib.hid (below_append hHeld.2 HO.out (Nat.le_refl _) HS.out hg)
            replace HL15 := Lib.hid (lit_keep HL15.out HO.out (by show 1 < _; omega) hg)
            replace H5 := Lib.hid (H5.out.grown (by decide) HO.out hg)
            replace HX := Lib.hid (HX.out.grown (by decide) HO.out hg)
            replace HS := Lib.hid (Nat.le_trans HS.out hg.size)
            replace HO := Lib.hid hown
            clear hown hg
            refine hK.out _ _ ⟨⟨H5.out.cell 0 _ rfl, H5.out.cell 1 _ rfl, H5.out.cell 3 _ rfl⟩, HB8.out⟩ (fun hHeld => ?_)
            clear hK K
            (try simp only [Act.put, List.getElem_toArray, List.getElem_cons_zero, List.getElem_cons_succ, Array.getInternal_eq_getElem, List.setIfInBounds_toArray, List.set_cons_zero, List.set_cons_succ])
            obtain ⟨D8, e8, rfl⟩ := own_slice HO.out
            refine wpAnyH_ready (rs := [11]) (by kernel_rfl) (by simp) ?_
            refine AllReadyH.cons rfl (fun K hK => ?_) AllReadyH.nil
            refine step_append_src (by rfl) _ _ _ (by rfl) w.heap.size 3 i0 (.int .i64 0) 1 8 Tryd.underlying22 hi hz0 hz1 hz2 (by rfl) (by decide) _ (ns.length + 3) ((ns.flatMap nuC ++ [.int .i64 xa, .int .i64 (bN xe), .int .i64 (xr.length : Int)])) (by rfl) HO.out A3 xr.length c3 (xr.flatMap nuC) (by rfl) (fl_len nuC_len xr) (HRG.out X8 hHeld.2).1 (HRG.out X8 hHeld.2).2 (one_nu xr) (by unfold maxLen; omega) (by omega) HS.out (fun v11 X11 hown hg => ?_)
            have HB11 := Lib.hid (below_append hHeld.2 HO.out (Nat.le_refl _) HS.out hg)
            replace HL15 := Lib.hid (lit_keep HL15.out HO.out (by show 1 < _; omega) hg)
            replace H5 := Lib.hid (H5.out.grown (by decide) HO.out hg)
            replace HX := Lib.hid (HX.out.grown (by decide) HO.out hg)
            replace HS := Lib.hid (Nat.le_trans HS.out hg.size)
            replace HO := Lib.hid hown
            clear hown hg
            refine hK.out _ _ ⟨⟨H5.out.cell 0 _ rfl, H5.out.cell 1 _ rfl, H5.out.cell 3 _ rfl⟩, HB11.out⟩ (fun hHeld => ?_)
            clear hK K
            (try simp only [Act.put, List.getElem_toArray, List.getElem_cons_zero, List.getElem_cons_succ, Array.getInternal_eq_getElem, List.setIfInBounds_toArray, List.set_cons_zero, List.set_cons_succ])
            obtain ⟨D11, e11, rfl⟩ := own_slice HO.out
            refine wpAnyH_ready (rs := [16]) (by kernel_rfl) (by simp) ?_
            refine AllReadyH.cons rfl (fun K hK => ?_) AllReadyH.nil
            refine step_append_src (by rfl) _ _ _ (by rfl) w.heap.size 3 i0 (.int .i64 0) 1 8 Tryd.underlying22 hi hz0 hz1 hz2 (by rfl) (by decide) _ ((ns.length + 3) + xr.length) (((ns.flatMap nuC ++ [.int .i64 xa, .int .i64 (bN xe), .int .i64 (xr.length : Int)]) ++ xr.flatMap nuC)) (by rfl) HO.out (some ⟨X7.heap.size, 0, none⟩) 1 1 [.int .i64 (xb.length : Int)] (by rfl) (by rfl) (fun c => (by cases c)) (lit_news HL15.out) (by simp [Value.oneCell']) (by unfold maxLen; omega) (by omega) HS.out (fun v16 X16 hown hg => ?_)
            have HB16 := Lib.hid (below_append hHeld.2 HO.out (Nat.le_refl _) HS.out hg)
            replace H5 := Lib.hid (H5.out.grown (by decide) HO.out hg)
            replace HX := Lib.hid (HX.out.grown (by decide) HO.out hg)
            replace HS := Lib.hid (Nat.le_trans HS.out hg.size)
            replace HO := Lib.hid hown
            clear hown hg
            refine hK.out _ _ ⟨⟨H5.out.cell 0 _ rfl, H5.out.cell 1 _ rfl, H5.out.cell 3 _ rfl⟩, HB16.out⟩ (fun hHeld => ?_)
            clear hK K
            (try simp only [Act.put, List.getElem_toArray, List.getElem_cons_zero, List.getElem_cons_succ, Array.getInternal_eq_getElem, List.setIfInBounds_toArray, List.set_cons_zero, List.set_cons_succ])
            obtain ⟨D16, e16, rfl⟩ := own_slice HO.out
            refine wpAnyH_ready (rs := [17]) (by kernel_rfl) (by simp) ?_
            refine AllReadyH.cons rfl (fun K hK => ?_) AllReadyH.nil
            go_simp
            refine hK.out _ _ hHeld (fun hHeld => ?_)
            clear hK K
            (try simp only [Act.put, List.getElem_toArray, List.getElem_cons_zero, List.getElem_cons_succ, Array.getInternal_eq_getElem, List.setIfInBounds_toArray, List.set_cons_zero, List.set_cons_succ])
            refine wpAnyH_done (by kernel_rfl) ?_ _
            have HBZ := Lib.hid hHeld.2
            clear hHeld
            go_wp2_with fail
            go_meet
            exact ⟨own_lenD (xs := ns2) (by rw [HN2.out]; simpa [nuC] using HO.out) (by have := HNL2.out; omega), H5.out, HX.out, HBZ.out⟩
        · -- 15 first
          go_simp
          refine hK.out _ _ ⟨⟨(H5.out.alloc (.cells #[.int .i64 (xb.length : Int)] 3)).cell 0 _ rfl, (H5.out.alloc (.cells #[.int .i64 (xb.length : Int)] 3)).cell 1 _ rfl, (H5.out.alloc (.cells #[.int .i64 (xb.length : Int)] 3)).cell 3 _ rfl⟩, (hHeld.2.alloc HS.out (.cells #[.int .i64 (xb.length : Int)] 3))⟩ (fun hHeld => ?_)
          clear hK K
          (try simp only [Act.put, List.getElem_toArray, List.getElem_cons_zero, List.getElem_cons_succ, Array.getInternal_eq_getElem, List.setIfInBounds_toArray, List.set_cons_zero, List.set_cons_succ])
          obtain ⟨X15, hX⟩ : ∃ W, W = Xa.alloc (.cells #[.int .i64 (xb.length : Int)] 3) := ⟨_, rfl⟩
          have hal := below_al (Below.refl Xa.heap.size Xa) (.cells #[.int .i64 (xb.length : Int)] 3)
          have HL15 := Lib.hid (show BoxC X15 Xa.heap.size 3 #[.int .i64 (xb.length : Int)] from by rw [hX]; exact BoxC.new Xa _ _)
          rw [← hX] at hal hHeld ⊢
          replace HO := Lib.hid (own_below HO.out hal)
          replace H5 := Lib.hid (H5.out.below hal H5.out.lt)
          replace HX := Lib.hid (HX.out.below hal HX.out.lt)
          replace HS := Lib.hid (Nat.le_trans HS.out hal.size)
          clear hal hX
          refine wpAnyH_ready (rs := [7]) (by kernel_rfl) (by simp) ?_
          refine AllReadyH.cons rfl (fun K hK => ?_) AllReadyH.nil
          go_simp
          refine hK.out _ _ ⟨⟨(H5.out.alloc (.cells #[.int .i64 xa, .int .i64 (bN xe), .int .i64 (xr.length : Int)] 3)).cell 0 _ rfl, (H5.out.alloc (.cells #[.int .i64 xa, .int .i64 (bN xe), .int .i64 (xr.length : Int)] 3)).cell 1 _ rfl, (H5.out.alloc (.cells #[.int .i64 xa, .int .i64 (bN xe), .int .i64 (xr.length : Int)] 3)).cell 3 _ rfl⟩, (hHeld.2.alloc HS.out (.cells #[.int .i64 xa, .int .i64 (bN xe), .int .i64 (xr.length : Int)] 3))⟩ (fun hHeld => ?_)
          clear hK K
          (try simp only [Act.put, List.getElem_toArray, List.getElem_cons_zero, List.getElem_cons_succ, Array.getInternal_eq_getElem, List.setIfInBounds_toArray, List.set_cons_zero, List.set_cons_succ])
          obtain ⟨X7, hX⟩ : ∃ W, W = X15.alloc (.cells #[.int .i64 xa, .int .i64 (bN xe), .int .i64 (xr.length : Int)] 3) := ⟨_, rfl⟩
          have hal := below_al (Below.refl X15.heap.size X15) (.cells #[.int .i64 xa, .int .i64 (bN xe), .int .i64 (xr.length : Int)] 3)
          have HL7 := Lib.hid (show BoxC X7 X15.heap.size 3 #[.int .i64 xa, .int .i64 (bN xe), .int .i64 (xr.length : Int)] from by rw [hX]; exact BoxC.new X15 _ _)
          rw [← hX] at hal hHeld ⊢
          replace HO := Lib.hid (own_below HO.out hal)
          replace H5 := Lib.hid (H5.out.below hal H5.out.lt)
          replace HX := Lib.hid (HX.out.below hal HX.out.lt)
          replace HS := Lib.hid (Nat.le_trans HS.out hal.size)
          replace HL15 := Lib.hid (HL15.out.below hal HL15.out.lt)
          clear hal hX
          refine wpAnyH_ready (rs := [8]) (by kernel_rfl) (by simp) ?_
          refine AllReadyH.cons rfl (fun K hK => ?_) AllReadyH.nil
          refine step_append_src (by rfl) _ _ _ (by rfl) w.heap.size 3 i0 (.int .i64 0) 1 8 Tryd.underlying22 hi hz0 hz1 hz2 (by rfl) (by decide) _ ns.length (ns.flatMap nuC) (by rfl) HO.out (some ⟨X15.heap.size, 0, none⟩) 3 3 [.int .i64 xa, .int .i64 (bN xe), .int .i64 (xr.length : Int)] (by rfl) (by rfl) (fun c => (by cases c)) (lit_news HL7.out) (by simp [Value.oneCell']) (by unfold maxLen; omega) (by omega) HS.out (fun v8 X8 hown hg => ?_)
          have HB8 := Lib.hid (below_append hHeld.2 HO.out (Nat.le_refl _) HS.out hg)
          replace HL15 := Lib.hid (lit_keep HL15.out HO.out (by show 1 < _; omega) hg)
          replace H5 := Lib.hid (H5.out.grown (by decide) HO.out hg)
          replace HX := Lib.hid (HX.out.grown (by decide) HO.out hg)
          replace HS := Lib.hid (Nat.le_trans HS.out hg.size)
          replace HO := Lib.hid hown
          clear hown hg
          refine hK.out _ _ ⟨⟨H5.out.cell 0 _ rfl, H5.out.cell 1 _ rfl, H5.out.cell 3 _ rfl⟩, HB8.out⟩ (fun hHeld => ?_)
          clear hK K
          (try simp only [Act.put, List.getElem_toArray, List.getElem_cons_zero, List.getElem_cons_succ, Array.getInternal_eq_getElem, List.setIfInBounds_toArray, List.set_cons_zero, List.set_cons_succ])
          obtain ⟨D8, e8, rfl⟩ := own_slice HO.out
          refine wpAnyH_ready (rs := [11]) (by kernel_rfl) (by simp) ?_
          refine AllReadyH.cons rfl (fun K hK => ?_) AllReadyH.nil
          refine step_append_src (by rfl) _ _ _ (by rfl) w.heap.size 3 i0 (.int .i64 0) 1 8 Tryd.underlying22 hi hz0 hz1 hz2 (by rfl) (by decide) _ (ns.length + 3) ((ns.flatMap nuC ++ [.int .i64 xa, .int .i64 (bN xe), .int .i64 (xr.length : Int)])) (by rfl) HO.out A3 xr.length c3 (xr.flatMap nuC) (by rfl) (fl_len nuC_len xr) (HRG.out X8 hHeld.2).1 (HRG.out X8 hHeld.2).2 (one_nu xr) (by unfold maxLen; omega) (by omega) HS.out (fun v11 X11 hown hg => ?_)
          have HB11 := Lib.hid (below_append hHeld.2 HO.out (Nat.le_refl _) HS.out hg)
          replace HL15 := Lib.hid (lit_keep HL15.out HO.out (by show 1 < _; omega) hg)
          replace H5 := Lib.hid (H5.out.grown (by decide) HO.out hg)
          replace HX := Lib.hid (HX.out.grown (by decide) HO.out hg)
          replace HS := Lib.hid (Nat.le_trans HS.out hg.size)
          replace HO := Lib.hid hown
          clear hown hg
          refine hK.out _ _ ⟨⟨H5.out.cell 0 _ rfl, H5.out.cell 1 _ rfl, H5.out.cell 3 _ rfl⟩, HB11.out⟩ (fun hHeld => ?_)
          clear hK K
          (try simp only [Act.put, List.getElem_toArray, List.getElem_cons_zero, List.getElem_cons_succ, Array.getInternal_eq_getElem, List.setIfInBounds_toArray, List.set_cons_zero, List.set_cons_succ])
          obtain ⟨D11, e11, rfl⟩ := own_slice HO.out
          refine wpAnyH_ready (rs := [16]) (by kernel_rfl) (by simp) ?_
          refine AllReadyH.cons rfl (fun K hK => ?_) AllReadyH.nil
          refine step_append_src (by rfl) _ _ _ (by rfl) w.heap.size 3 i0 (.int .i64 0) 1 8 Tryd.underlying22 hi hz0 hz1 hz2 (by rfl) (by decide) _ ((ns.length + 3) + xr.length) (((ns.flatMap nuC ++ [.int .i64 xa, .int .i64 (bN xe), .int .i64 (xr.length : Int)]) ++ xr.flatMap nuC)) (by rfl) HO.out (some ⟨Xa.heap.size, 0, none⟩) 1 1 [.int .i64 (xb.length : Int)] (by rfl) (by rfl) (fun c => (by cases c)) (lit_news HL15.out) (by simp [Value.oneCell']) (by unfold maxLen; omega) (by omega) HS.out (fun v16 X16 hown hg => ?_)
          have HB16 := Lib.hid (below_append hHeld.2 HO.out (Nat.le_refl _) HS.out hg)
          replace H5 := Lib.hid (H5.out.grown (by decide) HO.out hg)
          replace HX := Lib.hid (HX.out.grown (by decide) HO.out hg)
          replace HS := Lib.hid (Nat.le_trans HS.out hg.size)
          replace HO := Lib.hid hown
          clear hown hg
          refine hK.out _ _ ⟨⟨H5.out.cell 0 _ rfl, H5.out.cell 1 _ rfl, H5.out.cell 3 _ rfl⟩, HB16.out⟩ (fun hHeld => ?_)
          clear hK K
          (try simp only [Act.put, List.getElem_toArray, List.getElem_cons_zero, List.getElem_cons_succ, Array.getInternal_eq_getElem, List.setIfInBounds_toArray, List.set_cons_zero, List.set_cons_succ])
          obtain ⟨D16, e16, rfl⟩ := own_slice HO.out
          refine wpAnyH_ready (rs := [17]) (by kernel_rfl) (by simp) ?_
          refine AllReadyH.cons rfl (fun K hK => ?_) AllReadyH.nil
          go_simp
          refine hK.out _ _ hHeld (fun hHeld => ?_)
          clear hK K
          (try simp only [Act.put, List.getElem_toArray, List.getElem_cons_zero, List.getElem_cons_succ, Array.getInternal_eq_getElem, List.setIfInBounds_toArray, List.set_cons_zero, List.set_cons_succ])
          refine wpAnyH_done (by kernel_rfl) ?_ _
          have HBZ := Lib.hid hHeld.2
          clear hHeld
          go_wp2_with fail
          go_meet
          exact ⟨own_lenD (xs := ns2) (by rw [HN2.out]; simpa [nuC] using HO.out) (by have := HNL2.out; omega), H5.out, HX.out, HBZ.out⟩
      case rest =>
      obtain ⟨hown, h5, hx, hBc⟩ := hcut
      clear HO HX H5 HS HRG e0 e1 e2 e3 hB9
      have HST := Lib.hid (show RnRel2 ns2 xb g1 g5 #[.int .i64 xa, .slice A3 xr.length c3, .bool xe, .slice A4 xb.length c4] (.slice A1 s.mem.length c1) (.slice (some ⟨b1, f1, none⟩) s.ths.length c2) w u3 (.int .i64 0) wc from ⟨0, Nat.zero_le _, rfl, by simpa [wrN] using hown, hx, h5, hBc⟩)
      clear hown h5 hx hBc HBG
      go_wp2
      go_loopw [3, 7] (fun v i wr => RnRel2 ns2 xb g1 g5 #[.int .i64 xa, .slice A3 xr.length c3, .bool xe, .slice A4 xb.length c4] (.slice A1 s.mem.length c1) (.slice (some ⟨b1, f1, none⟩) s.ths.length c2) w v i wr) (fun _ i _ => xb.length - (intOf i).toNat)
      case atStart => exact HST.out
      case round =>
        clear HST
        obtain ⟨q, hq, rfl, hown, hx, h5, hBc⟩ := hrel
        have e3 := h5.cell 3 _ rfl
        by_cases hql : q < xb.length
        · obtain ⟨b4, f4, hA4, hb4, hc4⟩ := hb3' (by omega)
          subst hA4
          obtain ⟨p0, p1⟩ := hc4 q hql
          replace p0 := ((hBc.mono hBB).cell (p := ⟨b4, f4 + q * 2, none⟩) hb4).trans p0
          replace p1 := ((hBc.mono hBB).cell (p := ⟨b4, f4 + q * 2 + 1, none⟩) hb4).trans p1
          have HWT := Lib.hid (wrN_take xb q hql)
          have hwl := wrN_take_len xb q hq
          obtain ⟨y, hy⟩ : ∃ y, y = xb[q] := ⟨_, rfl⟩
          rw [← hy] at p0 p1 HWT
          obtain ⟨m2, hm2'⟩ : ∃ m, m = ns2 ++ wrN (xb.take q) := ⟨_, rfl⟩
          have hml : m2.length ≤ 999999992 := by have := HNL2.out; rw [hm2', List.length_append]; omega
          rw [← hm2'] at hown
          have HM2 := Lib.hid hm2'
          obtain ⟨A9', c9', rfl⟩ := own_slice hown
          have HO := Lib.hid hown
          have H5 := Lib.hid h5
          have HX := Lib.hid hx
          have HS := Lib.hid hBc.size
          clear hy hc4 hb3' hm2' hown h5 hx hwl
          obtain ⟨yl, yn⟩ := y
          dsimp only at p0 p1 HWT
          go_upto_region 14 with fail
          refine wp_region_held_drew (S := (fun w' => (w'.cell? ⟨g5, 3, none⟩ = some (.slice (some ⟨b4, f4, none⟩) xb.length c4) ∧ w'.cell? ⟨b4, f4 + q * 2, none⟩ = some (.int .i64 yl) ∧ w'.cell? ⟨b4, f4 + q * 2 + 1, none⟩ = some (.int .i64 yn)) ∧ Below w.heap.size w w')) (by kernel_rfl) ⟨⟨e3, p0, p1⟩, below_drewN hBc 1⟩ (fun hHeld => ?_)
          obtain ⟨Xa, hXa⟩ : ∃ W, W = wr.drew := ⟨_, rfl⟩
          replace HO := Lib.hid (show Xa.ownsRow w.heap.size 3 1 (.slice A9' m2.length c9') m2.length (m2.flatMap nuC) from by rw [hXa]; exact HO.out)
          replace H5 := Lib.hid (show BoxC Xa g5 44 #[.int .i64 xa, .slice A3 xr.length c3, .bool xe, .slice (some ⟨b4, f4, none⟩) xb.length c4] from by rw [hXa]; exact H5.out)
          replace HX := Lib.hid (show BoxC Xa g1 25 #[.slice A1 s.mem.length c1, .slice (some ⟨b1, f1, none⟩) s.ths.length c2] from by rw [hXa]; exact HX.out)
          replace HS := Lib.hid (show w.heap.size ≤ Xa.heap.size from by rw [hXa]; exact HS.out)
          rw [← hXa] at hHeld ⊢
          clear hXa
          refine wpAnyH_take (i := 0) (v := ?_) rfl (by kernel_rfl) (by kernel_rfl) (by kernel_rfl) (fun _ _ _ h => h) (Or.inl ⟨by rfl, ?_⟩) (by assumption) ?_
          rotate_left
          · intro w hSw; (try dsimp only at hSw); go_simp; (try with_reducible rfl)
          (try simp only [Act.put, List.getElem_toArray, List.getElem_cons_zero, List.getElem_cons_succ, Array.getInternal_eq_getElem, List.setIfInBounds_toArray, List.set_cons_zero, List.set_cons_succ])
          refine wpAnyH_take (i := 1) (v := ?_) rfl (by kernel_rfl) (by kernel_rfl) (by kernel_rfl) (fun _ _ _ h => h) (Or.inl ⟨by rfl, ?_⟩) (by assumption) ?_
          rotate_left
          · intro w hSw; (try dsimp only at hSw); go_simp; (try with_reducible rfl)
          (try simp only [Act.put, List.getElem_toArray, List.getElem_cons_zero, List.getElem_cons_succ, Array.getInternal_eq_getElem, List.setIfInBounds_toArray, List.set_cons_zero, List.set_cons_succ])
          refine wpAnyH_take (i := 2) (v := ?_) rfl (by kernel_rfl) (by kernel_rfl) (by kernel_rfl) (fun _ _ _ h => h) (Or.inl ⟨by rfl, ?_⟩) (by assumption) ?_
          rotate_left
          · intro w hSw; (try dsimp only at hSw); go_simp; (try with_reducible rfl)
          (try simp only [Act.put, List.getElem_toArray, List.getElem_cons_zero, List.getElem_cons_succ, Array.getInternal_eq_getElem, List.setIfInBounds_toArray, List.set_cons_zero, List.set_cons_succ])
          refine wpAnyH_take (i := 3) (v := ?_) rfl (by kernel_rfl) (by kernel_rfl) (by kernel_rfl) (fun _ _ _ h => h) (Or.inl ⟨by rfl, ?_⟩) (by assumption) ?_
          rotate_left
          · intro w hSw; (try dsimp only at hSw); go_simp; (try with_reducible rfl)
          (try simp only [Act.put, List.getElem_toArray, List.getElem_cons_zero, List.getElem_cons_succ, Array.getInternal_eq_getElem, List.setIfInBounds_toArray, List.set_cons_zero, List.set_cons_succ])
          refine wpAnyH_take (i := 4) (v := ?_) rfl (by kernel_rfl) (by kernel_rfl) (by kernel_rfl) (fun _ _ _ h => h) (Or.inl ⟨by rfl, ?_⟩) (by assumption) ?_
          rotate_left
          · intro w hSw; (try dsimp only at hSw); go_simp; (try with_reducible rfl)
          (try simp only [Act.put, List.getElem_toArray, List.getElem_cons_zero, List.getElem_cons_succ, Array.getInternal_eq_getElem, List.setIfInBounds_toArray, List.set_cons_zero, List.set_cons_succ])
          refine wpAnyH_take (i := 5) (v := ?_) rfl (by kernel_rfl) (by kernel_rfl) (by kernel_rfl) (fun _ _ _ h => h) (Or.inl ⟨by rfl, ?_⟩) (by assumption) ?_
          rotate_left
          · intro w hSw; (try dsimp only at hSw); go_simp; (try with_reducible rfl)
          (try simp only [Act.put, List.getElem_toArray, List.getElem_cons_zero, List.getElem_cons_succ, Array.getInternal_eq_getElem, List.setIfInBounds_toArray, List.set_cons_zero, List.set_cons_succ])
          refine wpAnyH_take (i := 6) (v := ?_) rfl (by kernel_rfl) (by kernel_rfl) (by kernel_rfl) (fun _ _ _ h => h) (Or.inl ⟨by rfl, ?_⟩) (by assumption) ?_
          rotate_left
          · intro w hSw; (try dsimp only at hSw); go_simp; (try with_reducible rfl)
          (try simp only [Act.put, List.getElem_toArray, List.getElem_cons_zero, List.getElem_cons_succ, Array.getInternal_eq_getElem, List.setIfInBounds_toArray, List.set_cons_zero, List.set_cons_succ])
          refine wpAnyH_take (i := 7) (v := ?_) rfl (by kernel_rfl) (by kernel_rfl) (by kernel_rfl) (fun _ _ _ h => h) (Or.inl ⟨by rfl, ?_⟩) (by assumption) ?_
          rotate_left
          · intro w hSw; (try dsimp only at hSw); go_simp; (try with_reducible rfl)
          (try simp only [Act.put, List.getElem_toArray, List.getElem_cons_zero, List.getElem_cons_succ, Array.getInternal_eq_getElem, List.setIfInBounds_toArray, List.set_cons_zero, List.set_cons_succ])
          refine wpAnyH_take (i := 8) (v := ?_) rfl (by kernel_rfl) (by kernel_rfl) (by kernel_rfl) (fun _ _ _ h => h) (Or.inl ⟨by rfl, ?_⟩) (by assumption) ?_
          rotate_left
          · intro w hSw; (try dsimp only at hSw); go_simp; (try with_reducible rfl)
          (try simp only [Act.put, List.getElem_toArray, List.getElem_cons_zero, List.getElem_cons_succ, Array.getInternal_eq_getElem, List.setIfInBounds_toArray, List.set_cons_zero, List.set_cons_succ])
          refine wpAnyH_take (i := 9) (v := ?_) rfl (by kernel_rfl) (by kernel_rfl) (by kernel_rfl) (fun _ _ _ h => h) (Or.inl ⟨by rfl, ?_⟩) (by assumption) ?_
          rotate_left
          · intro w hSw; (try dsimp only at hSw); go_simp; (try with_reducible rfl)
          (try simp only [Act.put, List.getElem_toArray, List.getElem_cons_zero, List.getElem_cons_succ, Array.getInternal_eq_getElem, List.setIfInBounds_toArray, List.set_cons_zero, List.set_cons_succ])
          refine wpAnyH_take (i := 10) (v := ?_) rfl (by kernel_rfl) (by kernel_rfl) (by kernel_rfl) (fun _ _ _ h => h) (Or.inl ⟨by rfl, ?_⟩) (by assumption) ?_
          rotate_left
          · intro w hSw; (try dsimp only at hSw); go_simp; (try with_reducible rfl)
          (try simp only [Act.put, List.getElem_toArray, List.getElem_cons_zero, List.getElem_cons_succ, Array.getInternal_eq_getElem, List.setIfInBounds_toArray, List.set_cons_zero, List.set_cons_succ])
          refine wpAnyH_take (i := 11) (v := ?_) rfl (by kernel_rfl) (by kernel_rfl) (by kernel_rfl) (fun _ _ _ h => h) (Or.inl ⟨by rfl, ?_⟩) (by assumption) ?_
          rotate_left
          · intro w hSw; (try dsimp only at hSw); go_simp; (try with_reducible rfl)
          (try simp only [Act.put, List.getElem_toArray, List.getElem_cons_zero, List.getElem_cons_succ, Array.getInternal_eq_getElem, List.setIfInBounds_toArray, List.set_cons_zero, List.set_cons_succ])
          refine wpAnyH_take (i := 12) (v := ?_) rfl (by kernel_rfl) (by kernel_rfl) (by kernel_rfl) (fun _ _ _ h => h) (Or.inl ⟨by rfl, ?_⟩) (by assumption) ?_
          rotate_left
          · intro w hSw; (try dsimp only at hSw); go_simp; (try with_reducible rfl)
          (try simp only [Act.put, List.getElem_toArray, List.getElem_cons_zero, List.getElem_cons_succ, Array.getInternal_eq_getElem, List.setIfInBounds_toArray, List.set_cons_zero, List.set_cons_succ])
          refine wpAnyH_ready (rs := [13]) (by kernel_rfl) (by simp) ?_
          refine AllReadyH.cons rfl (fun K hK => ?_) AllReadyH.nil
          go_simp
          have hal := below_al (Below.refl Xa.heap.size Xa) (.cells #[.int .i64 yl, .int .i64 yn] 3)
          refine hK.out _ _ ⟨⟨(H5.out.alloc (.cells #[.int .i64 yl, .int .i64 yn] 3)).cell 3 _ rfl, (((hal.mono HS.out).mono hBB).cell (p := ⟨b4, f4 + q * 2, none⟩) hb4).trans hHeld.1.2.1, (((hal.mono HS.out).mono hBB).cell (p := ⟨b4, f4 + q * 2 + 1, none⟩) hb4).trans hHeld.1.2.2⟩, (hHeld.2.alloc HS.out (.cells #[.int .i64 yl, .int .i64 yn] 3))⟩ (fun hHeld => ?_)
          clear hK K
          (try simp only [Act.put, List.getElem_toArray, List.getElem_cons_zero, List.getElem_cons_succ, Array.getInternal_eq_getElem, List.setIfInBounds_toArray, List.set_cons_zero, List.set_cons_succ])
          obtain ⟨X13, hX⟩ : ∃ W, W = Xa.alloc (.cells #[.int .i64 yl, .int .i64 yn] 3) := ⟨_, rfl⟩
          have HL13 := Lib.hid (show BoxC X13 Xa.heap.size 3 #[.int .i64 yl, .int .i64 yn] from by rw [hX]; exact BoxC.new Xa _ _)
          rw [← hX] at hal hHeld ⊢
          replace HO := Lib.hid (own_below HO.out hal)
          replace H5 := Lib.hid (H5.out.below hal H5.out.lt)
          replace HX := Lib.hid (HX.out.below hal HX.out.lt)
          replace HS := Lib.hid (Nat.le_trans HS.out hal.size)
          clear hal hX
          refine wpAnyH_ready (rs := [14]) (by kernel_rfl) (by simp) ?_
          refine AllReadyH.cons rfl (fun K hK => ?_) AllReadyH.nil
          refine step_append_src (by rfl) _ _ _ (by rfl) w.heap.size 3 i0 (.int .i64 0) 1 8 Tryd.underlying22 hi hz0 hz1 hz2 (by rfl) (by decide) _ m2.length (m2.flatMap nuC) (by rfl) HO.out (some ⟨Xa.heap.size, 0, none⟩) 2 2 [.int .i64 yl, .int .i64 yn] (by rfl) (by rfl) (fun c => (by cases c)) (lit_news HL13.out) (by simp [Value.oneCell']) (by unfold maxLen; omega) (by omega) HS.out (fun v14 X14 hown hg => ?_)
          have HB14 := Lib.hid (below_append hHeld.2 HO.out (Nat.le_refl _) HS.out hg)
          have HG14 := Lib.hid (below_append (Below.refl w.heap.size X13) HO.out (Nat.le_refl _) HS.out hg)
          replace H5 := Lib.hid (H5.out.grown (by decide) HO.out hg)
          replace HX := Lib.hid (HX.out.grown (by decide) HO.out hg)
          replace HO := Lib.hid hown
          clear hown hg
          refine hK.out _ _ ⟨⟨H5.out.cell 3 _ rfl, ((HG14.out.mono hBB).cell (p := ⟨b4, f4 + q * 2, none⟩) hb4).trans hHeld.1.2.1, ((HG14.out.mono hBB).cell (p := ⟨b4, f4 + q * 2 + 1, none⟩) hb4).trans hHeld.1.2.2⟩, HB14.out⟩ (fun hHeld => ?_)
          clear hK K
          (try simp only [Act.put, List.getElem_toArray, List.getElem_cons_zero, List.getElem_cons_succ, Array.getInternal_eq_getElem, List.setIfInBounds_toArray, List.set_cons_zero, List.set_cons_succ])
          obtain ⟨D14, e14, rfl⟩ := own_slice HO.out
          refine wpAnyH_ready (rs := [15]) (by kernel_rfl) (by simp) ?_
          refine AllReadyH.cons rfl (fun K hK => ?_) AllReadyH.nil
          go_simp
          refine hK.out _ _ hHeld (fun hHeld => ?_)
          clear hK K
          (try simp only [Act.put, List.getElem_toArray, List.getElem_cons_zero, List.getElem_cons_succ, Array.getInternal_eq_getElem, List.setIfInBounds_toArray, List.set_cons_zero, List.set_cons_succ])
          refine wpAnyH_done (by kernel_rfl) ?_ _
          have HBZ := Lib.hid hHeld.2
          clear hHeld
          have HE := Lib.hid (show RnRel2 ns2 xb g1 g5 #[.int .i64 xa, .slice A3 xr.length c3, .bool xe, .slice (some ⟨b4, f4, none⟩) xb.length c4] (.slice A1 s.mem.length c1) (.slice (some ⟨b1, f1, none⟩) s.ths.length c2) w (.slice D14 (m2.length + 2) e14) (.int .i64 ((q : Int) + 1)) X14 from ⟨q + 1, by omega, by go_num, own_lenD (xs := ns2 ++ wrN (xb.take (q + 1))) (by rw [HWT.out, ← List.append_assoc, ← HM2.out]; simpa [nuC] using HO.out) (by rw [HWT.out, ← List.append_assoc, ← HM2.out]; simp), HX.out, H5.out, HBZ.out⟩)
          clear HO HX H5 HBZ e3 p0 p1 HS HL13
          go_wp2
          go_roundw
          case rel => exact HE.out
          case measure => simp [intOf]; omega
        · obtain rfl : xb.length = q := by omega
          have HE := Lib.hid (show RnRel s s.ths.length g1 (.slice A1 s.mem.length c1) (.slice (some ⟨b1, f1, none⟩) s.ths.length c2) w _ (.int .i64 ((k : Int) + 1)) _ from ⟨k + 1, by omega, by go_num, (by
            have h1 := hown
            rw [List.take_length] at h1
            have h2 : ns2 ++ wrN xb = rowN s.mem ++ ((s.ths.length : Int) :: (s.ths.take (k + 1)).flatMap thN) := by
              rw [HTK.out, HN2.out, HNS2.out]; simp [thN, rowN, bN]
            rw [h2] at h1; exact h1), hx, hBc⟩)
          clear hown h5 hx hBc
          go_wp2
          go_roundw
          case rel => exact HE.out
          case measure => simp [intOf]; omega
    · obtain rfl : s.ths.length = k := by omega
      rw [← HNS.out] at hown
      clear ht3
      go_wp2
      go_ret
      exact ⟨_, rfl, hown, hB⟩
end Go.Proofs.YtmpjcfehabnhgaaDoor
