/-
  OpsWords, as a walk over any world that holds the registers: it returns true.
-/
import Derived.Test.YtlfngcekbffngaaDoorLawL
import Derived.Test.YtlfngcekbffngaaDoorLawWM
import Derived.Test.YtlfngcekbffngaaDoorRWords
import Derived.Test.YtlfngcekbffngaaDoorApp
import Derived.Deep.DeepCutAuto
import Derived.Deep.RegionHeld3
namespace Go.Proofs.YtlfngcekbffngaaDoor
open Go.RowKit
set_option linter.unusedVariables false
set_option linter.unusedSimpArgs false
open WordM (L)

/-- What the loop over the words keeps. -/
def OwRel (B n : Nat) (wk : World) (i : Value) (wr : World) : Prop := ∃ k : Nat, k ≤ n ∧ i = .int .i64 k ∧ Below B wk wr
theorem one_str {base T : Nat} {w : World} {v : Value} {x : L} {X : ByteArray} (hX : X = ⟨x.toArray⟩) (h : w.ownsRow base T 1 v 1 (svs [x])) :
    ∃ b f c, v = .slice (some ⟨b, f, none⟩) 1 c ∧ b < w.heap.size ∧ w.cell? ⟨b, f, none⟩ = some (.string X) := by
  obtain ⟨A, c, rfl, _, _, h3⟩ := strs_own (ls := [x]) h
  obtain ⟨b, f, rfl, hb, hc⟩ := h3 (by simp)
  exact ⟨b, f, c, rfl, hb, by have := hc 0 (by simp); rw [hX]; exact this⟩
theorem keep_w {wk W w' : World} {b f B : Nat} {x : Value} (hb : Below W.heap.size W w') (h : W.cell? ⟨b, f, none⟩ = some x ∧ Below B wk W) (hs : B ≤ wk.heap.size) : w'.cell? ⟨b, f, none⟩ = some x ∧ Below B wk w' :=
  ⟨kc hb h.1, h.2.trans (hb.mono (Nat.le_trans hs h.2.size))⟩
theorem one_cells (ws : List L) : ∀ x ∈ svs ws, x.oneCell' = true := by
  intro x hx
  obtain ⟨l, _, rfl⟩ := List.mem_map.1 hx
  rfl
set_option maxHeartbeats 4000000 in
set_option maxRecDepth 100000 in
theorem owords_main (op n : Int) (r o b s : ByteArray) (w : World) (hr : Regs w) (hn : NumM.inR n)
    (hgl : (decide (1000 < r.size) || (decide (1000 < o.size) || decide (1000 < b.size))) = false) (hs : s.size ≤ 1000) (hri : OpsM.right op r.data.toList o.data.toList b.data.toList n = true) :
    Calls Tryd.prog 8 #[lnv op r o b n, .string s] w fun e w' => e = .returned (.bool true) ∧ Below w.heap.size w w' := by
  have HR := Lib.hid hr
  have HH := Lib.hid (fun W h => head_any W h)
  have HL := fun W => greatline_any op n r o b W
  have hB := Below.refl w.heap.size w
  clear hr
  have z := great_line_no hgl
  rw [hgl] at HL
  have q2 : decide ((1000 : Int) < (s.size : Int)) = false := decide_eq_false (by omega)
  have HR1 := fun W h => right_any op n r o b W h
  rw [hri] at HR1
  have HW := fun W h => lwords_any op n r o b W h hn (by omega) (by omega)
  rw [Lib.size_eq, Lib.size_eq, Lib.size_eq] at z
  have hsm := OpsM.words_small (op := op) hn z.1 z.2.1 z.2.2
  have hsi := OpsM.words_single (l := ⟨op, r.data.toList, o.data.toList, b.data.toList, n⟩) hri hn
  have hl1 := OpsM.words_pos_len op r.data.toList o.data.toList b.data.toList n hri
  have hl3 := OpsM.words_len_any op r.data.toList o.data.toList b.data.toList n
  unfold OpsM.wordsL at hsi
  generalize OpsM.words op r.data.toList o.data.toList b.data.toList n = ws at *
  have HL' := Lib.hid HL
  have HR1' := Lib.hid HR1
  have HW' := Lib.hid HW
  have HSM := Lib.hid hsm
  have HSI := Lib.hid hsi
  clear hgl z HL HR1 HW hsm hsi hri
  unfold lnv at HL' HR1' HW'
  show Calls Tryd.prog 8 #[.agg #[.int .i64 op, .string r, .string o, .string b, .int .i64 n], .string s] w _
  go_enter Tryd.func8, Tryd.ntmps8
  go_wp2_with fail
  refine (HH.out _ (HR.out.below (below_al hB _))).mono ?_
  rintro e wk1 ⟨rfl, hb⟩
  have Hl := Lib.hid ((LnBox.at (g := w.heap.size) (by first | rfl | simp) op n r o b 23).below hb)
  replace hB := chain (below_al hB _) hb
  obtain ⟨l0, l1, l2, l3, l4⟩ := Hl.out
  have zl := lt_of_cell l0
  go_wp2_with fail
  refine (HL'.out _).mono ?_
  rintro e wk2 ⟨rfl, hb⟩
  clear zl l0 l1 l2 l3 l4
  replace Hl := Lib.hid (Hl.out.below hb)
  replace hB := chain hB hb
  obtain ⟨l0, l1, l2, l3, l4⟩ := Hl.out
  have zl := lt_of_cell l0
  go_wp2_with fail
  refine (HR1'.out _ (HR.out.below hB)).mono ?_
  rintro e wk3 ⟨rfl, hb⟩
  clear zl l0 l1 l2 l3 l4
  replace Hl := Lib.hid (Hl.out.below hb)
  replace hB := chain hB hb
  obtain ⟨l0, l1, l2, l3, l4⟩ := Hl.out
  have zl := lt_of_cell l0
  go_wp2_with fail
  refine (HW'.out _ (HR.out.below hB)).mono ?_
  rintro e wk4 ⟨u, rfl, how, hb⟩
  clear zl l0 l1 l2 l3 l4
  replace hB := chain hB hb
  obtain ⟨A, c, rfl, hc1, hc2, hc3⟩ := strs_own how
  have HOW := Lib.hid how
  clear how Hl
  unfold maxLen at hc2
  go_wp2


  go_loopw [7] (fun i wr => OwRel wk4.heap.size ws.length wk4 i wr) (fun i _ => ws.length - (intOf i).toNat)
  case atStart => exact ⟨0, Nat.zero_le _, rfl, Below.refl _ _⟩
  case round =>
    obtain ⟨k, hk, rfl, hBr⟩ := hrel
    by_cases hlt : k < ws.length
    · obtain ⟨b1, f1, rfl, hb1, hcl⟩ := hc3 (by omega)
      obtain ⟨X, hX⟩ : ∃ X : ByteArray, X = ⟨(ws[k]).toArray⟩ := ⟨_, rfl⟩
      have hXd : X.data.toList = ws[k] := by rw [hX]
      have hXs : X.size ≤ 100000 := by
        have := HSM.out ws[k] (List.getElem_mem _)
        rw [Lib.size_eq, hXd]; omega
      have HD := fun W => rwords_any X W hXs
      rw [hXd, HSI.out ws[k] (List.getElem_mem _)] at HD
      have HD' := Lib.hid HD
      have hc := (hBr.cell (p := ⟨b1, f1 + k, none⟩) hb1).trans (hcl k hlt)
      rw [show sv ws[k] = .string X by rw [hX]; rfl] at hc
      have HX := Lib.hid hX
      clear HD hXs hXd hX hcl hc3
      go_upto_region 4 with (fail)
      refine wp_region_held_drew (S := (fun w' => w'.cell? ⟨b1, f1 + k, none⟩ = some (.string X) ∧ Below wk4.heap.size wk4 w')) (by kernel_rfl) ⟨hc, below_drewN hBr 1⟩ (fun hHeld => ?_)
      refine wpAnyH_take (i := 0) (v := ?_) rfl (by kernel_rfl) (by kernel_rfl) (by kernel_rfl) (fun _ _ _ h => h) (Or.inl ⟨by rfl, ?_⟩) (by assumption) ?_
      rotate_left
      · intro w hSw; (try dsimp only at hSw); go_simp; (try with_reducible rfl)
      (try simp only [Act.put, List.getElem_toArray, List.getElem_cons_zero, List.getElem_cons_succ, Array.getInternal_eq_getElem, List.setIfInBounds_toArray, List.set_cons_zero, List.set_cons_succ])
      refine wpAnyH_take (i := 1) (v := ?_) rfl (by kernel_rfl) (by kernel_rfl) (by kernel_rfl) (fun _ _ _ h => h) (Or.inl ⟨by rfl, ?_⟩) (by assumption) ?_
      rotate_left
      · intro w hSw; (try dsimp only at hSw); go_simp; (try with_reducible rfl)
      (try simp only [Act.put, List.getElem_toArray, List.getElem_cons_zero, List.getElem_cons_succ, Array.getInternal_eq_getElem, List.setIfInBounds_toArray, List.set_cons_zero, List.set_cons_succ])
      refine wpAnyH_take (i := 2) (v := ?_) rfl (by kernel_rfl) (by kernel_rfl) (by kernel_rfl) (fun _ _ _ h => h) (Or.inl ⟨by rfl, ?_⟩) (by assumption) ?_
      rotate_left
      · intro w hSw; (try dsimp only at hSw); go_simp; (try with_reducible rfl)
      (try simp only [Act.put, List.getElem_toArray, List.getElem_cons_zero, List.getElem_cons_succ, Array.getInternal_eq_getElem, List.setIfInBounds_toArray, List.set_cons_zero, List.set_cons_succ])
      refine wpAnyH_take (i := 3) (v := ?_) rfl (by kernel_rfl) (by kernel_rfl) (by kernel_rfl) (fun _ _ _ h => h) (Or.inl ⟨by rfl, ?_⟩) (by assumption) ?_
      rotate_left
      · intro w hSw; (try dsimp only at hSw); go_simp; (try with_reducible rfl)
      (try simp only [Act.put, List.getElem_toArray, List.getElem_cons_zero, List.getElem_cons_succ, Array.getInternal_eq_getElem, List.setIfInBounds_toArray, List.set_cons_zero, List.set_cons_succ])
      refine wpAnyH_ready (rs := [4]) (by kernel_rfl) (by simp) ?_
      refine AllReadyH.cons rfl (fun K hK => ?_) AllReadyH.nil
      go_simp
      go_at_call 25
      refine (HD'.out _).mono ?_
      rintro e w' ⟨u1, rfl, ho1, hb⟩
      obtain ⟨b2, f2, c2, rfl, hb2, hc2⟩ := one_str HX.out ho1
      clear ho1
      refine hK.out _ _ (keep_w hb hHeld (Nat.le_refl _)) (fun hHeld => ?_)
      clear hK K
      (try simp only [Act.put, List.getElem_toArray, List.getElem_cons_zero, List.getElem_cons_succ, Array.getInternal_eq_getElem, List.setIfInBounds_toArray, List.set_cons_zero, List.set_cons_succ])
      refine wpAnyH_take (i := 5) (v := ?_) rfl (by kernel_rfl) (by kernel_rfl) (by kernel_rfl) (fun _ _ _ h => h) (Or.inl ⟨by rfl, ?_⟩) (by assumption) ?_
      rotate_left
      · intro w hSw; (try dsimp only at hSw); go_simp; (try with_reducible rfl)
      (try simp only [Act.put, List.getElem_toArray, List.getElem_cons_zero, List.getElem_cons_succ, Array.getInternal_eq_getElem, List.setIfInBounds_toArray, List.set_cons_zero, List.set_cons_succ])
      refine wpAnyH_take (i := 6) (v := ?_) rfl (by kernel_rfl) (by kernel_rfl) (by kernel_rfl) (fun _ _ _ h => h) (Or.inl ⟨by rfl, ?_⟩) (by assumption) ?_
      rotate_left
      · intro w hSw; (try dsimp only at hSw); go_simp; (try with_reducible rfl)
      (try simp only [Act.put, List.getElem_toArray, List.getElem_cons_zero, List.getElem_cons_succ, Array.getInternal_eq_getElem, List.setIfInBounds_toArray, List.set_cons_zero, List.set_cons_succ])
      refine wpAnyH_take (i := 7) (v := ?_) rfl (by kernel_rfl) (by kernel_rfl) (by kernel_rfl) (fun _ _ _ h => h) (Or.inl ⟨by rfl, ?_⟩) (by assumption) ?_
      rotate_left
      · intro w hSw; (try dsimp only at hSw); go_simp; (try with_reducible rfl)
      (try simp only [Act.put, List.getElem_toArray, List.getElem_cons_zero, List.getElem_cons_succ, Array.getInternal_eq_getElem, List.setIfInBounds_toArray, List.set_cons_zero, List.set_cons_succ])
      refine wpAnyH_take (i := 8) (v := ?_) rfl (by kernel_rfl) (by kernel_rfl) (by kernel_rfl) (fun _ _ _ h => h) (Or.inl ⟨by rfl, ?_⟩) (by assumption) ?_
      rotate_left
      · intro w hSw; (try dsimp only at hSw); go_simp; (try with_reducible rfl)
      (try simp only [Act.put, List.getElem_toArray, List.getElem_cons_zero, List.getElem_cons_succ, Array.getInternal_eq_getElem, List.setIfInBounds_toArray, List.set_cons_zero, List.set_cons_succ])
      refine wpAnyH_take (i := 9) (v := ?_) rfl (by kernel_rfl) (by kernel_rfl) (by kernel_rfl) (fun _ _ _ h => h) (Or.inl ⟨by rfl, ?_⟩) (by assumption) ?_
      rotate_left
      · intro w hSw; (try dsimp only at hSw); go_simp; (try with_reducible rfl)
      (try simp only [Act.put, List.getElem_toArray, List.getElem_cons_zero, List.getElem_cons_succ, Array.getInternal_eq_getElem, List.setIfInBounds_toArray, List.set_cons_zero, List.set_cons_succ])
      refine wpAnyH_take (i := 10) (v := ?_) rfl (by kernel_rfl) (by kernel_rfl) (by kernel_rfl) (fun _ _ _ h => h) (Or.inl ⟨by rfl, ?_⟩) (by assumption) ?_
      rotate_left
      · intro w hSw; (try dsimp only at hSw); go_simp; (try with_reducible rfl)
      (try simp only [Act.put, List.getElem_toArray, List.getElem_cons_zero, List.getElem_cons_succ, Array.getInternal_eq_getElem, List.setIfInBounds_toArray, List.set_cons_zero, List.set_cons_succ])
      refine wpAnyH_take (i := 11) (v := ?_) rfl (by kernel_rfl) (by kernel_rfl) (by kernel_rfl) (fun _ _ _ h => h) (Or.inl ⟨by rfl, ?_⟩) (by assumption) ?_
      rotate_left
      · intro w hSw; (try dsimp only at hSw); go_simp; (try with_reducible rfl)
      (try simp only [Act.put, List.getElem_toArray, List.getElem_cons_zero, List.getElem_cons_succ, Array.getInternal_eq_getElem, List.setIfInBounds_toArray, List.set_cons_zero, List.set_cons_succ])
      refine wpAnyH_take (i := 16) (v := ?_) rfl (by kernel_rfl) (by kernel_rfl) (by kernel_rfl) (fun _ _ _ h => h) (Or.inl ⟨by rfl, ?_⟩) (by assumption) ?_
      rotate_left
      · intro w hSw; (try dsimp only at hSw); go_simp; (try with_reducible rfl)
      (try simp only [Act.put, List.getElem_toArray, List.getElem_cons_zero, List.getElem_cons_succ, Array.getInternal_eq_getElem, List.setIfInBounds_toArray, List.set_cons_zero, List.set_cons_succ])
      refine wpAnyH_take (i := 17) (v := ?_) rfl (by kernel_rfl) (by kernel_rfl) (by kernel_rfl) (fun _ _ _ h => h) (Or.inl ⟨by rfl, ?_⟩) (by assumption) ?_
      rotate_left
      · intro w hSw; (try dsimp only at hSw); go_simp; (try with_reducible rfl)
      (try simp only [Act.put, List.getElem_toArray, List.getElem_cons_zero, List.getElem_cons_succ, Array.getInternal_eq_getElem, List.setIfInBounds_toArray, List.set_cons_zero, List.set_cons_succ])
      refine wpAnyH_take (i := 18) (v := ?_) rfl (by kernel_rfl) (by kernel_rfl) (by kernel_rfl) (fun _ _ _ h => h) (Or.inl ⟨by rfl, ?_⟩) (by assumption) ?_
      rotate_left
      · intro w hSw; (try dsimp only at hSw); go_simp; (try with_reducible rfl)
      (try simp only [Act.put, List.getElem_toArray, List.getElem_cons_zero, List.getElem_cons_succ, Array.getInternal_eq_getElem, List.setIfInBounds_toArray, List.set_cons_zero, List.set_cons_succ])
      refine wpAnyH_take (i := 19) (v := ?_) rfl (by kernel_rfl) (by kernel_rfl) (by kernel_rfl) (fun _ _ _ h => h) (Or.inl ⟨by rfl, ?_⟩) (by assumption) ?_
      rotate_left
      · intro w hSw; (try dsimp only at hSw); go_simp; (try with_reducible rfl)
      (try simp only [Act.put, List.getElem_toArray, List.getElem_cons_zero, List.getElem_cons_succ, Array.getInternal_eq_getElem, List.setIfInBounds_toArray, List.set_cons_zero, List.set_cons_succ])
      refine wpAnyH_take (i := 20) (v := ?_) rfl (by kernel_rfl) (by kernel_rfl) (by kernel_rfl) (fun _ _ _ h => h) (Or.inl ⟨by rfl, ?_⟩) (by assumption) ?_
      rotate_left
      · intro w hSw; (try dsimp only at hSw); go_simp; (try with_reducible rfl)
      (try simp only [Act.put, List.getElem_toArray, List.getElem_cons_zero, List.getElem_cons_succ, Array.getInternal_eq_getElem, List.setIfInBounds_toArray, List.set_cons_zero, List.set_cons_succ])
      refine wpAnyH_ready (rs := [12]) (by kernel_rfl) (by simp) ?_
      refine AllReadyH.cons rfl (fun K hK => ?_) AllReadyH.nil
      go_simp
      go_at_call 25
      refine (HD'.out _).mono ?_
      rintro e w' ⟨u1, rfl, ho1, hb⟩
      obtain ⟨b2, f2, c2, rfl, hb2, hc2⟩ := one_str HX.out ho1
      clear ho1
      refine hK.out _ _ (keep_w hb hHeld (Nat.le_refl _)) (fun hHeld => ?_)
      clear hK K
      (try simp only [Act.put, List.getElem_toArray, List.getElem_cons_zero, List.getElem_cons_succ, Array.getInternal_eq_getElem, List.setIfInBounds_toArray, List.set_cons_zero, List.set_cons_succ])
      refine wpAnyH_take (i := 13) (v := ?_) rfl (by kernel_rfl) (by kernel_rfl) (by kernel_rfl) (fun _ _ _ h => h) (Or.inl ⟨by rfl, ?_⟩) (by assumption) ?_
      rotate_left
      · intro w hSw; (try dsimp only at hSw); go_simp; (try with_reducible rfl)
      (try simp only [Act.put, List.getElem_toArray, List.getElem_cons_zero, List.getElem_cons_succ, Array.getInternal_eq_getElem, List.setIfInBounds_toArray, List.set_cons_zero, List.set_cons_succ])
      refine wpAnyH_ready (rs := [14]) (by kernel_rfl) (by simp) ?_
      refine AllReadyH.cons rfl (fun K hK => ?_) AllReadyH.nil
      go_simp
      refine hK.out _ _ hHeld (fun hHeld => ?_)
      clear hK K
      (try simp only [Act.put, List.getElem_toArray, List.getElem_cons_zero, List.getElem_cons_succ, Array.getInternal_eq_getElem, List.setIfInBounds_toArray, List.set_cons_zero, List.set_cons_succ])
      refine wpAnyH_take (i := 15) (v := ?_) rfl (by kernel_rfl) (by kernel_rfl) (by kernel_rfl) (fun _ _ _ h => h) (Or.inl ⟨by rfl, ?_⟩) (by assumption) ?_
      rotate_left
      · intro w hSw; (try dsimp only at hSw); go_simp; (try with_reducible rfl)
      (try simp only [Act.put, List.getElem_toArray, List.getElem_cons_zero, List.getElem_cons_succ, Array.getInternal_eq_getElem, List.setIfInBounds_toArray, List.set_cons_zero, List.set_cons_succ])
      refine wpAnyH_take (i := 21) (v := ?_) rfl (by kernel_rfl) (by kernel_rfl) (by kernel_rfl) (fun _ _ _ h => h) (Or.inl ⟨by rfl, ?_⟩) (by assumption) ?_
      rotate_left
      · intro w hSw; (try dsimp only at hSw); go_simp; (try with_reducible rfl)
      (try simp only [Act.put, List.getElem_toArray, List.getElem_cons_zero, List.getElem_cons_succ, Array.getInternal_eq_getElem, List.setIfInBounds_toArray, List.set_cons_zero, List.set_cons_succ])
      refine wpAnyH_take (i := 22) (v := ?_) rfl (by kernel_rfl) (by kernel_rfl) (by kernel_rfl) (fun _ _ _ h => h) (Or.inl ⟨by rfl, ?_⟩) (by assumption) ?_
      rotate_left
      · intro w hSw; (try dsimp only at hSw); go_simp; (try with_reducible rfl)
      (try simp only [Act.put, List.getElem_toArray, List.getElem_cons_zero, List.getElem_cons_succ, Array.getInternal_eq_getElem, List.setIfInBounds_toArray, List.set_cons_zero, List.set_cons_succ])
      refine wpAnyH_done (by kernel_rfl) ?_ _
      go_wp2
      go_roundw
      case rel => exact ⟨k + 1, by omega, by go_num, hHeld.2⟩
      case measure => simp [intOf]; omega
    · obtain rfl : ws.length = k := by omega
      obtain ⟨b1, f1, rfl, hb1, hcl⟩ := hc3 (by omega)
      clear hcl hc3
      have how := own_below HOW.out hBr
      obtain ⟨i0, hi, hz0, hz1, hz2⟩ := info_parts info_string
      have hol := World.ownsRow_lit (base := wr.heap.size) (e := 9) (size := 1) wr #[] 0 (Nat.le_refl _) (by unfold maxLen; omega) rfl
      obtain ⟨v1, w1, hrun, hown1, hg1⟩ := run_append_two (P := Tryd.prog) (wr.alloc (.cells #[] 9)) wr.heap.size wk3.heap.size 24 24 9 i0 (.string ⟨#[]⟩) 1 16 Tryd.underlying24 hi hz0 hz1 hz2 rfl (by decide) _ _ _ hol _ _ _ (how.alloc _) (one_cells ws) (by unfold maxLen; omega) (by omega) (by simp)
      have hB1 : Below w.heap.size w w1 := below_append (below_al (chain hB hBr) _) hol (chain hB hBr).size (below_al (chain hB hBr) _).size hg1
      have Hrun := Lib.hid hrun
      clear hrun
      have HO1 := Lib.hid hown1
      clear hown1
      go_wp2_with (first | (at_builtin; refine wpList_append_run rfl _ _ 24 rfl _ _ _ rfl rfl Hrun.out ?_) | (at_builtin; refine wpList_append_own _ rfl _ _ 24 rfl wr.heap.size 9 i0 (.string ⟨#[]⟩) 1 16 Tryd.underlying24 hi hz0 hz1 hz2 rfl (by decide) _ _ _ rfl (HO1.out.alloc _) ⟨w1.heap.size, 0, none⟩ 1 1 [.string s] rfl rfl (cell_one_new _ _ _) (by simp [Value.oneCell']) (by unfold maxLen; omega) (by omega) (by have := hg1.size; simp at this; simp; omega) ?_; intro v2 w2 hown2 hg2 _))
      have hB2 : Below w.heap.size w w2 := below_append (below_al hB1 _) (HO1.out.alloc _) (chain hB hBr).size (below_al hB1 _).size hg2
      have hS2 : Strs w2.heap.size w2 v2 (ws ++ [s.data.toList]) := strs_own (base := wr.heap.size) (by simpa [svs_snoc, sv_data] using hown2)
      clear hown2 hg2
      have HGT := opget_any w2 (HR.out.below hB2) hS2 (Nat.le_refl _) (by
        intro l hl
        rcases List.mem_append.1 hl with h | h
        · have := HSM.out l h; omega
        · obtain rfl : l = s.data.toList := by simpa using h
          rw [← Lib.size_eq]; omega)
      have hg4 := OpsM.get_four ws s.data.toList
      have hgs := OpsM.get_spec (ws ++ [s.data.toList])
      have a1 : decide ((1 : Int) ≤ (ws.length : Int)) = true := decide_eq_true (by omega)
      have a3 : decide ((ws.length : Int) ≤ 3) = true := decide_eq_true (by omega)
      generalize OpsM.get (ws ++ [s.data.toList]) = g at *
      generalize OpsM.made (ws ++ [s.data.toList]) = y at *
      have HG4 := Lib.hid hg4
      clear hg4
      have HRy := fun W h => rightw_any y W h
      unfold lnw at HGT
      unfold lnw lnv at HRy
      rcases hgs with ⟨hy, _, rfl⟩ | ⟨rfl, _⟩
      · rw [hy] at HRy
        have HRy' := Lib.hid HRy
        have hlt3 : ws.length < 3 := by
          rcases Nat.lt_or_ge ws.length 3 with h | h
          · exact h
          · have := HG4.out (by omega)
            exact absurd (congrArg Prod.snd this) (by simp)
        have a4 : decide ((ws.length : Int) < 3) = true := decide_eq_true (by omega)
        clear HRy hy HG4
        refine HGT.mono ?_
        rintro e w3 ⟨rfl, hb3⟩
        have hB3 := chain hB2 hb3
        unfold lnv
        go_wp2_with fail
        refine (HRy'.out _ (HR.out.below (below_al hB3 _))).mono ?_
        rintro e w4 ⟨rfl, hb4⟩
        have hB4 := chain (below_al hB3 _) hb4
        go_wp2
        go_ret
        exact ⟨rfl, hB4⟩
      · clear HRy HG4
        by_cases hlt3 : ws.length < 3
        · have a4 : decide ((ws.length : Int) < 3) = true := decide_eq_true (by omega)
          refine HGT.mono ?_
          rintro e w3 ⟨rfl, hb3⟩
          have hB3 := chain hB2 hb3
          unfold lnv
          go_wp2
          go_ret
          exact ⟨rfl, below_al hB3 _⟩
        · have a4 : decide ((ws.length : Int) < 3) = false := decide_eq_false (by omega)
          refine HGT.mono ?_
          rintro e w3 ⟨rfl, hb3⟩
          have hB3 := chain hB2 hb3
          unfold lnv
          go_wp2
          go_ret
          exact ⟨rfl, below_al hB3 _⟩
end Go.Proofs.YtlfngcekbffngaaDoor
