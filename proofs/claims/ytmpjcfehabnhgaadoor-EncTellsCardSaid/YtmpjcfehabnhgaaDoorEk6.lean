/-
  EncTells, over any world: numbers, keys, and what is got from them, are the document's.
-/
import Derived.Test.YtmpjcfehabnhgaaDoorEk1
import Derived.Test.YtmpjcfehabnhgaaDoorEk3
import Derived.Test.YtmpjcfehabnhgaaDoorEnJ
namespace Go.Proofs.YtmpjcfehabnhgaaDoor
open Go.RowKit Go.Shelf
set_option linter.unusedVariables false
set_option linter.unusedSimpArgs false
open WordM (L)
open BfM (Wr)
open ScM
open EnM

set_option maxHeartbeats 8000000 in
set_option maxRecDepth 100000 in
theorem enctells_any {a0 : Addr} {v u : Value} {s : Sta} {l : List Int} (k : ByteArray) (w : World) (hE : ErG w.heap.size a0 w) (hv : StaV w.heap.size w v s) (hi : StaIn s) (hu : IntR w.heap.size w u l) (hj : ∀ n ∈ l, NumM.inR n) :
    Calls Tryd.prog 3 #[v, u, .string k] w fun e w' => e = .returned (.bool true) ∧ Below w.heap.size w w' := by
  obtain ⟨vm, vt, rfl, hm, ht⟩ := hv
  have hA := below_al (Below.refl w.heap.size w) (.cells #[vm, vt] 25)
  have HB := Lib.hid (BoxC.new w 25 #[vm, vt])
  have HV := Lib.hid (fun W (hW : Below w.heap.size w W) => show StaV W.heap.size W (.agg #[vm, vt]) s from StaV.more (StaV.below ⟨vm, vt, rfl, hm, ht⟩ hW) hW.size)
  have HL := Lib.hid (fun W (hW : Below w.heap.size w W) => Rw.more (hu.below hW) hW.size)
  have HH := Lib.hid (ehead_any _ ((hE.below hA).more hA.size))
  have HA := Lib.hid hA
  obtain ⟨A1, c1, rfl, -⟩ := hm
  obtain ⟨A2, c2, rfl, -⟩ := ht
  obtain ⟨A3, c3, rfl, hl1, hl2, -⟩ := hu
  unfold maxLen at hl2
  have HII := Lib.hid hi
  have HE := Lib.hid (fun W (hW : Below w.heap.size w W) => (hE.below hW).more hW.size)
  clear hA hE hi hj
  go_enter Tryd.func3, Tryd.ntmps3
  go_wp2_with (go_at_call 9; refine HH.out.mono ?_)
  rintro e w1 ⟨rfl, hb⟩
  have hB1 := HA.out.trans (hb.mono HA.out.size)
  have HX1 := Lib.hid (HB.out.below hb HB.out.lt)
  have HWD := Lib.hid (wide_any w1 (HV.out w1 hB1) (Nat.le_refl _))
  clear hb HB HH HA
  have y0 := HX1.out.cell 0 _ rfl
  have y1 := HX1.out.cell 1 _ rfl
  go_wp2_with (go_at_call 10; refine HWD.out.mono ?_)
  rintro e w2 ⟨b, rfl, hwd, hb⟩
  have hB2 := hB1.trans (hb.mono hB1.size)
  have HX2 := Lib.hid (HX1.out.below hb HX1.out.lt)
  clear y0 y1 hb hB1 HX1 HWD
  cases b with
  | true =>
    clear hwd
    go_wp2
    go_ret
    exact ⟨rfl, hB2⟩
  | false =>
  have HWS := Lib.hid (hwd rfl)
  clear hwd
  by_cases ha : 300 < l.length
  · have d1 : decide ((l.length : Int) > 300) = true := decide_eq_true (by omega)
    have d2 : decide (300 < (l.length : Int)) = true := decide_eq_true (by omega)
    have d3 : decide (300 < l.length) = true := decide_eq_true ha
    go_wp2
    go_ret
    exact ⟨rfl, hB2⟩
  have d1 : decide ((l.length : Int) > 300) = false := decide_eq_false (by omega)
  have d2 : decide (300 < (l.length : Int)) = false := decide_eq_false (by omega)
  have d3 : decide (300 < l.length) = false := decide_eq_false ha
  by_cases hk : 1500 < k.size
  · have e1 : decide ((k.size : Int) > 1500) = true := decide_eq_true (by omega)
    have e2 : decide (1500 < (k.size : Int)) = true := decide_eq_true (by omega)
    have e3 : decide (1500 < k.size) = true := decide_eq_true hk
    go_wp2
    go_ret
    exact ⟨rfl, hB2⟩
  have e1 : decide ((k.size : Int) > 1500) = false := decide_eq_false (by omega)
  have e2 : decide (1500 < (k.size : Int)) = false := decide_eq_false (by omega)
  have e3 : decide (1500 < k.size) = false := decide_eq_false hk
  have HC := Lib.hid (of_any w2 (HE.out w2 hB2) (HL.out w2 hB2) (by omega))
  have HCb := Lib.hid (fun W (hW : Below w.heap.size w W) => rof_any W (HL.out W hW) (by omega))
  have HCc := Lib.hid (fun W (hW : Below w.heap.size w W) => read_any k W (HE.out W hW) (by omega))
  have HCd := Lib.hid (fun W (hW : Below w.heap.size w W) => rread_any k W (by omega))
  have HIN := Lib.hid (wide_in HII.out HWS.out)
  have HLN := Lib.hid (wide_len HWS.out)
  have hla : l.length ≤ 300 := by omega
  clear ha hk HE HII HWS HL
  generalize ofN l = o1 at *
  generalize readK k.data.toList = o2 at *
  go_wp2_with (go_at_call 11; refine HC.out.mono ?_)
  rintro e wv4 ⟨x, rfl, hx, hb⟩
  have hBv4 := hB2.trans (hb.mono hB2.size)
  replace HX2 := Lib.hid (HX2.out.below hb HX2.out.lt)
  have hv0 := hx.read (Nat.le_refl _)
  obtain ⟨A8, n8, c8, A9, n9, c9, rfl⟩ := hx.slices
  have hal := below_al (Below.refl wv4.heap.size wv4) (.cells #[.slice A8 n8 c8, .slice A9 n9 c9] 25)
  replace HX2 := Lib.hid (HX2.out.below hal HX2.out.lt)
  have HY4 := Lib.hid (BoxC.new wv4 25 #[.slice A8 n8 c8, .slice A9 n9 c9])
  have HS4 := Lib.hid (StaV.more (hv0.below hal) hal.size)
  have hBw4 := hBv4.trans (hal.mono hBv4.size)
  obtain ⟨W4, hWW⟩ : ∃ W, W = wv4.alloc (.cells #[.slice A8 n8 c8, .slice A9 n9 c9] 25) := ⟨_, rfl⟩
  obtain ⟨g4, hgg⟩ : ∃ g, g = wv4.heap.size := ⟨_, rfl⟩
  rw [← hWW] at HX2 HY4 HS4 hBw4
  rw [← hgg] at HY4
  have HWW := Lib.hid hWW
  have HGG := Lib.hid hgg
  obtain ⟨b1, hb1⟩ : ∃ b, b = o1.isSome := ⟨_, rfl⟩
  rw [← hb1]
  have HB1 := Lib.hid hb1
  clear hb1
  replace HC := Lib.hid (HCb.out W4 hBw4)
  clear hWW hgg hb hB2 hBv4 hv0 hx hal HCb
  go_upto_region 5 with fail
  rw [← HWW.out, ← HGG.out]
  clear HWW HGG
  go_wp2_with (go_at_call 12; refine HC.out.mono ?_)
  rintro e wv5 ⟨x, rfl, hx, hb⟩
  have hBv5 := hBw4.trans (hb.mono hBw4.size)
  replace HX2 := Lib.hid (HX2.out.below hb HX2.out.lt)
  replace HY4 := Lib.hid (HY4.out.below hb HY4.out.lt)
  replace HS4 := Lib.hid (StaV.more (HS4.out.below hb) hb.size)
  have hv0 := hx.read (Nat.le_refl _)
  obtain ⟨A10, n10, c10, A11, n11, c11, rfl⟩ := hx.slices
  have hal := below_al (Below.refl wv5.heap.size wv5) (.cells #[.slice A10 n10 c10, .slice A11 n11 c11] 25)
  replace HX2 := Lib.hid (HX2.out.below hal HX2.out.lt)
  replace HY4 := Lib.hid (HY4.out.below hal HY4.out.lt)
  replace HS4 := Lib.hid (StaV.more (HS4.out.below hal) hal.size)
  have HY5 := Lib.hid (BoxC.new wv5 25 #[.slice A10 n10 c10, .slice A11 n11 c11])
  have HS5 := Lib.hid (StaV.more (hv0.below hal) hal.size)
  have hBw5 := hBv5.trans (hal.mono hBv5.size)
  obtain ⟨W5, hWW⟩ : ∃ W, W = wv5.alloc (.cells #[.slice A10 n10 c10, .slice A11 n11 c11] 25) := ⟨_, rfl⟩
  obtain ⟨g5, hgg⟩ : ∃ g, g = wv5.heap.size := ⟨_, rfl⟩
  rw [← hWW] at HX2 HY4 HS4 HY5 HS5 hBw5
  rw [← hgg] at HY5
  have HWW := Lib.hid hWW
  have HGG := Lib.hid hgg
  rw [← HB1.out]
  clear HB1
  replace HC := Lib.hid (HCc.out W5 hBw5)
  clear hWW hgg hb hBw4 hBv5 hv0 hx hal HCc
  go_upto_region 6 with fail
  rw [← HWW.out, ← HGG.out]
  clear HWW HGG
  go_wp2_with (go_at_call 13; refine HC.out.mono ?_)
  rintro e wv6 ⟨x, rfl, hx, hb⟩
  have hBv6 := hBw5.trans (hb.mono hBw5.size)
  replace HX2 := Lib.hid (HX2.out.below hb HX2.out.lt)
  replace HY4 := Lib.hid (HY4.out.below hb HY4.out.lt)
  replace HY5 := Lib.hid (HY5.out.below hb HY5.out.lt)
  replace HS4 := Lib.hid (StaV.more (HS4.out.below hb) hb.size)
  replace HS5 := Lib.hid (StaV.more (HS5.out.below hb) hb.size)
  have hv0 := hx.read (Nat.le_refl _)
  obtain ⟨A12, n12, c12, A13, n13, c13, rfl⟩ := hx.slices
  have hal := below_al (Below.refl wv6.heap.size wv6) (.cells #[.slice A12 n12 c12, .slice A13 n13 c13] 25)
  replace HX2 := Lib.hid (HX2.out.below hal HX2.out.lt)
  replace HY4 := Lib.hid (HY4.out.below hal HY4.out.lt)
  replace HY5 := Lib.hid (HY5.out.below hal HY5.out.lt)
  replace HS4 := Lib.hid (StaV.more (HS4.out.below hal) hal.size)
  replace HS5 := Lib.hid (StaV.more (HS5.out.below hal) hal.size)
  have HY6 := Lib.hid (BoxC.new wv6 25 #[.slice A12 n12 c12, .slice A13 n13 c13])
  have HS6 := Lib.hid (StaV.more (hv0.below hal) hal.size)
  have hBw6 := hBv6.trans (hal.mono hBv6.size)
  obtain ⟨W6, hWW⟩ : ∃ W, W = wv6.alloc (.cells #[.slice A12 n12 c12, .slice A13 n13 c13] 25) := ⟨_, rfl⟩
  obtain ⟨g6, hgg⟩ : ∃ g, g = wv6.heap.size := ⟨_, rfl⟩
  rw [← hWW] at HX2 HY4 HY5 HS4 HS5 HY6 HS6 hBw6
  rw [← hgg] at HY6
  have HWW := Lib.hid hWW
  have HGG := Lib.hid hgg
  obtain ⟨b2, hb2⟩ : ∃ b, b = o2.isSome := ⟨_, rfl⟩
  rw [← hb2]
  have HB2 := Lib.hid hb2
  clear hb2
  replace HC := Lib.hid (HCd.out W6 hBw6)
  clear hWW hgg hb hBw5 hBv6 hv0 hx hal HCd
  go_upto_region 7 with fail
  rw [← HWW.out, ← HGG.out]
  clear HWW HGG
  go_wp2_with (go_at_call 14; refine HC.out.mono ?_)
  rintro e wv7 ⟨x, rfl, hx, hb⟩
  have hBv7 := hBw6.trans (hb.mono hBw6.size)
  replace HX2 := Lib.hid (HX2.out.below hb HX2.out.lt)
  replace HY4 := Lib.hid (HY4.out.below hb HY4.out.lt)
  replace HY5 := Lib.hid (HY5.out.below hb HY5.out.lt)
  replace HY6 := Lib.hid (HY6.out.below hb HY6.out.lt)
  replace HS4 := Lib.hid (StaV.more (HS4.out.below hb) hb.size)
  replace HS5 := Lib.hid (StaV.more (HS5.out.below hb) hb.size)
  replace HS6 := Lib.hid (StaV.more (HS6.out.below hb) hb.size)
  have hv0 := hx.read (Nat.le_refl _)
  obtain ⟨A14, n14, c14, A15, n15, c15, rfl⟩ := hx.slices
  have hal := below_al (Below.refl wv7.heap.size wv7) (.cells #[.slice A14 n14 c14, .slice A15 n15 c15] 25)
  replace HX2 := Lib.hid (HX2.out.below hal HX2.out.lt)
  replace HY4 := Lib.hid (HY4.out.below hal HY4.out.lt)
  replace HY5 := Lib.hid (HY5.out.below hal HY5.out.lt)
  replace HY6 := Lib.hid (HY6.out.below hal HY6.out.lt)
  replace HS4 := Lib.hid (StaV.more (HS4.out.below hal) hal.size)
  replace HS5 := Lib.hid (StaV.more (HS5.out.below hal) hal.size)
  replace HS6 := Lib.hid (StaV.more (HS6.out.below hal) hal.size)
  have HY7 := Lib.hid (BoxC.new wv7 25 #[.slice A14 n14 c14, .slice A15 n15 c15])
  have HS7 := Lib.hid (StaV.more (hv0.below hal) hal.size)
  have hBw7 := hBv7.trans (hal.mono hBv7.size)
  obtain ⟨W7, hWW⟩ : ∃ W, W = wv7.alloc (.cells #[.slice A14 n14 c14, .slice A15 n15 c15] 25) := ⟨_, rfl⟩
  obtain ⟨g7, hgg⟩ : ∃ g, g = wv7.heap.size := ⟨_, rfl⟩
  rw [← hWW] at HX2 HY4 HY5 HY6 HS4 HS5 HS6 HY7 HS7 hBw7
  rw [← hgg] at HY7
  have HWW := Lib.hid hWW
  have HGG := Lib.hid hgg
  rw [← HB2.out]
  clear HB2
  clear hWW hgg hb hBw6 hBv7 hv0 hx hal HC
  go_upto_region 8 with fail
  rw [← HWW.out, ← HGG.out]
  clear HWW HGG
  have HN1 := Lib.hid (fun W (hW : Below W7.heap.size W7 W) => nums_any W (HV.out W (hBw7.trans (hW.mono hBw7.size))) (Nat.le_refl _) (by have := HLN.out; omega))
  have HN2 := Lib.hid (fun W (hW : Below W7.heap.size W7 W) => rnums_any W (HV.out W (hBw7.trans (hW.mono hBw7.size))) (Nat.le_refl _) (by have := HLN.out; omega))
  have HK1 := Lib.hid (fun W (hW : Below W7.heap.size W7 W) => key_any W (HV.out W (hBw7.trans (hW.mono hBw7.size))) (Nat.le_refl _) HIN.out (by have := HLN.out; omega))
  have HK2 := Lib.hid (fun W (hW : Below W7.heap.size W7 W) => rkey_any W (HV.out W (hBw7.trans (hW.mono hBw7.size))) (Nat.le_refl _) HIN.out (by have := HLN.out; omega))
  have HSA := Lib.hid (fun W (hW : Below W7.heap.size W7 W) => stsame_any W (HS4.out.below hW) (HS5.out.below hW) hW.size)
  have HSB := Lib.hid (fun W (hW : Below W7.heap.size W7 W) => stsame_any W (HS6.out.below hW) (HS7.out.below hW) hW.size)
  have qb1 : (b1 == b1) = true := beq_self_eq_true b1
  have qb2 : (b2 == b2) = true := beq_self_eq_true b2
  have x0 := HX2.out.cell 0 _ rfl
  have x1 := HX2.out.cell 1 _ rfl
  have x2 := HY4.out.cell 0 _ rfl
  have x3 := HY4.out.cell 1 _ rfl
  have x4 := HY5.out.cell 0 _ rfl
  have x5 := HY5.out.cell 1 _ rfl
  have x6 := HY6.out.cell 0 _ rfl
  have x7 := HY6.out.cell 1 _ rfl
  have x8 := HY7.out.cell 0 _ rfl
  have x9 := HY7.out.cell 1 _ rfl
  generalize keyS s = ks at *
  generalize numsS s = ls at *
  clear HV HS4 HS5 HS6 HS7 HX2 HY4 HY5 HY6 HY7
  refine wp_region_held_drew (S := (fun w' => (w'.cell? ⟨w.heap.size, 0, none⟩ = some (.slice A1 s.mem.length c1) ∧ w'.cell? ⟨w.heap.size, 1, none⟩ = some (.slice A2 s.ths.length c2) ∧ w'.cell? ⟨g4, 0, none⟩ = some (.slice A8 n8 c8) ∧ w'.cell? ⟨g4, 1, none⟩ = some (.slice A9 n9 c9) ∧ w'.cell? ⟨g5, 0, none⟩ = some (.slice A10 n10 c10) ∧ w'.cell? ⟨g5, 1, none⟩ = some (.slice A11 n11 c11) ∧ w'.cell? ⟨g6, 0, none⟩ = some (.slice A12 n12 c12) ∧ w'.cell? ⟨g6, 1, none⟩ = some (.slice A13 n13 c13) ∧ w'.cell? ⟨g7, 0, none⟩ = some (.slice A14 n14 c14) ∧ w'.cell? ⟨g7, 1, none⟩ = some (.slice A15 n15 c15)) ∧ Below W7.heap.size W7 w')) (by kernel_rfl) ⟨⟨x0, x1, x2, x3, x4, x5, x6, x7, x8, x9⟩, below_drewN (Below.refl _ _) 1⟩ (fun hHeld => ?_)
  refine wpAnyH_take (i := 0) (v := ?_) rfl (by kernel_rfl) (by kernel_rfl) (by kernel_rfl) (fun _ _ _ h => h) (Or.inl ⟨by rfl, ?_⟩) (by assumption) ?_
  rotate_left
  · intro w hSw; (try dsimp only at hSw); go_simp; (try with_reducible rfl)
  (try simp only [Act.put, List.getElem_toArray, List.getElem_cons_zero, List.getElem_cons_succ, Array.getInternal_eq_getElem, List.setIfInBounds_toArray, List.set_cons_zero, List.set_cons_succ])
  refine wpAnyH_take (i := 1) (v := ?_) rfl (by kernel_rfl) (by kernel_rfl) (by kernel_rfl) (fun _ _ _ h => h) (Or.inl ⟨by rfl, ?_⟩) (by assumption) ?_
  rotate_left
  · intro w hSw; (try dsimp only at hSw); go_simp; (try with_reducible rfl)
  (try simp only [Act.put, List.getElem_toArray, List.getElem_cons_zero, List.getElem_cons_succ, Array.getInternal_eq_getElem, List.setIfInBounds_toArray, List.set_cons_zero, List.set_cons_succ])
  refine wpAnyH_take (i := 2) (v := ?_) rfl (by kernel_rfl) (by kernel_rfl) (by kernel_rfl) (fun _ _ _ h => h) (Or.inl ⟨by rfl, ?_⟩) (by assumption) ?_
  rotate_left
  · intro w hSw; (try dsimp only at hSw); go_simp; (try with_reducible rfl)
  (try simp only [Act.put, List.getElem_toArray, List.getElem_cons_zero, List.getElem_cons_succ, Array.getInternal_eq_getElem, List.setIfInBounds_toArray, List.set_cons_zero, List.set_cons_succ])
  refine wpAnyH_take (i := 4) (v := ?_) rfl (by kernel_rfl) (by kernel_rfl) (by kernel_rfl) (fun _ _ _ h => h) (Or.inl ⟨by rfl, ?_⟩) (by assumption) ?_
  rotate_left
  · intro w hSw; (try dsimp only at hSw); go_simp; (try with_reducible rfl)
  (try simp only [Act.put, List.getElem_toArray, List.getElem_cons_zero, List.getElem_cons_succ, Array.getInternal_eq_getElem, List.setIfInBounds_toArray, List.set_cons_zero, List.set_cons_succ])
  refine wpAnyH_ready (rs := [3]) (by kernel_rfl) (by simp) ?_
  refine AllReadyH.cons rfl (fun K hK => ?_) AllReadyH.nil
  go_simp
  refine (HN1.out _ hHeld.2).mono ?_
  rintro e wa ⟨u1, rfl, hu1, hba⟩
  obtain ⟨B1, d1, rfl⟩ := own_slice hu1
  obtain ⟨q0, q1, q2, q3, q4, q5, q6, q7, q8, q9⟩ := hHeld.1
  refine hK.out _ _ ⟨⟨kc hba q0, kc hba q1, kc hba q2, kc hba q3, kc hba q4, kc hba q5, kc hba q6, kc hba q7, kc hba q8, kc hba q9⟩, chain hHeld.2 hba⟩ (fun hHeld => ?_)
  clear q0 q1 q2 q3 q4 q5 q6 q7 q8 q9
  clear hK K
  (try simp only [Act.put, List.getElem_toArray, List.getElem_cons_zero, List.getElem_cons_succ, Array.getInternal_eq_getElem, List.setIfInBounds_toArray, List.set_cons_zero, List.set_cons_succ])
  clear hba
  refine wpAnyH_ready (rs := [5]) (by kernel_rfl) (by simp) ?_
  refine AllReadyH.cons rfl (fun K hK => ?_) AllReadyH.nil
  go_simp
  refine (HN2.out _ hHeld.2).mono ?_
  rintro e wb ⟨u2, rfl, hu2, hba⟩
  replace hu1 := own_below hu1 hba
  obtain ⟨B2, d2, rfl⟩ := own_slice hu2
  obtain ⟨q0, q1, q2, q3, q4, q5, q6, q7, q8, q9⟩ := hHeld.1
  refine hK.out _ _ ⟨⟨kc hba q0, kc hba q1, kc hba q2, kc hba q3, kc hba q4, kc hba q5, kc hba q6, kc hba q7, kc hba q8, kc hba q9⟩, chain hHeld.2 hba⟩ (fun hHeld => ?_)
  clear q0 q1 q2 q3 q4 q5 q6 q7 q8 q9
  clear hK K
  (try simp only [Act.put, List.getElem_toArray, List.getElem_cons_zero, List.getElem_cons_succ, Array.getInternal_eq_getElem, List.setIfInBounds_toArray, List.set_cons_zero, List.set_cons_succ])
  clear hba
  refine wpAnyH_ready (rs := [6]) (by kernel_rfl) (by simp) ?_
  refine AllReadyH.cons rfl (fun K hK => ?_) AllReadyH.nil
  go_simp
  refine (nsame_any _ (Rw.own (one := nuC) (B := wb.heap.size) hu1 (Nat.le_refl _)) (Rw.own (one := nuC) (B := wb.heap.size) hu2 (Nat.le_refl _)) (Nat.le_refl _)).mono ?_
  rintro e wc ⟨rfl, hba⟩
  obtain ⟨q0, q1, q2, q3, q4, q5, q6, q7, q8, q9⟩ := hHeld.1
  refine hK.out _ _ ⟨⟨kc hba q0, kc hba q1, kc hba q2, kc hba q3, kc hba q4, kc hba q5, kc hba q6, kc hba q7, kc hba q8, kc hba q9⟩, chain hHeld.2 hba⟩ (fun hHeld => ?_)
  clear q0 q1 q2 q3 q4 q5 q6 q7 q8 q9
  clear hK K
  (try simp only [Act.put, List.getElem_toArray, List.getElem_cons_zero, List.getElem_cons_succ, Array.getInternal_eq_getElem, List.setIfInBounds_toArray, List.set_cons_zero, List.set_cons_succ])
  clear hba hu1 hu2
  refine wpAnyH_take (i := 7) (v := ?_) rfl (by kernel_rfl) (by kernel_rfl) (by kernel_rfl) (fun _ _ _ h => h) (Or.inl ⟨by rfl, ?_⟩) (by assumption) ?_
  rotate_left
  · intro w hSw; (try dsimp only at hSw); go_simp; (try with_reducible rfl)
  (try simp only [Act.put, List.getElem_toArray, List.getElem_cons_zero, List.getElem_cons_succ, Array.getInternal_eq_getElem, List.setIfInBounds_toArray, List.set_cons_zero, List.set_cons_succ])
  refine wpAnyH_take (i := 8) (v := ?_) rfl (by kernel_rfl) (by kernel_rfl) (by kernel_rfl) (fun _ _ _ h => h) (Or.inl ⟨by rfl, ?_⟩) (by assumption) ?_
  rotate_left
  · intro w hSw; (try dsimp only at hSw); go_simp; (try with_reducible rfl)
  (try simp only [Act.put, List.getElem_toArray, List.getElem_cons_zero, List.getElem_cons_succ, Array.getInternal_eq_getElem, List.setIfInBounds_toArray, List.set_cons_zero, List.set_cons_succ])
  refine wpAnyH_take (i := 9) (v := ?_) rfl (by kernel_rfl) (by kernel_rfl) (by kernel_rfl) (fun _ _ _ h => h) (Or.inl ⟨by rfl, ?_⟩) (by assumption) ?_
  rotate_left
  · intro w hSw; (try dsimp only at hSw); go_simp; (try with_reducible rfl)
  (try simp only [Act.put, List.getElem_toArray, List.getElem_cons_zero, List.getElem_cons_succ, Array.getInternal_eq_getElem, List.setIfInBounds_toArray, List.set_cons_zero, List.set_cons_succ])
  refine wpAnyH_take (i := 11) (v := ?_) rfl (by kernel_rfl) (by kernel_rfl) (by kernel_rfl) (fun _ _ _ h => h) (Or.inl ⟨by rfl, ?_⟩) (by assumption) ?_
  rotate_left
  · intro w hSw; (try dsimp only at hSw); go_simp; (try with_reducible rfl)
  (try simp only [Act.put, List.getElem_toArray, List.getElem_cons_zero, List.getElem_cons_succ, Array.getInternal_eq_getElem, List.setIfInBounds_toArray, List.set_cons_zero, List.set_cons_succ])
  refine wpAnyH_ready (rs := [10]) (by kernel_rfl) (by simp) ?_
  refine AllReadyH.cons rfl (fun K hK => ?_) AllReadyH.nil
  go_simp
  refine (HK1.out _ hHeld.2).mono ?_
  rintro e wd ⟨rfl, hba⟩
  obtain ⟨q0, q1, q2, q3, q4, q5, q6, q7, q8, q9⟩ := hHeld.1
  refine hK.out _ _ ⟨⟨kc hba q0, kc hba q1, kc hba q2, kc hba q3, kc hba q4, kc hba q5, kc hba q6, kc hba q7, kc hba q8, kc hba q9⟩, chain hHeld.2 hba⟩ (fun hHeld => ?_)
  clear q0 q1 q2 q3 q4 q5 q6 q7 q8 q9
  clear hK K
  (try simp only [Act.put, List.getElem_toArray, List.getElem_cons_zero, List.getElem_cons_succ, Array.getInternal_eq_getElem, List.setIfInBounds_toArray, List.set_cons_zero, List.set_cons_succ])
  clear hba
  refine wpAnyH_ready (rs := [12]) (by kernel_rfl) (by simp) ?_
  refine AllReadyH.cons rfl (fun K hK => ?_) AllReadyH.nil
  go_simp
  refine (HK2.out _ hHeld.2).mono ?_
  rintro e we ⟨rfl, hba⟩
  obtain ⟨q0, q1, q2, q3, q4, q5, q6, q7, q8, q9⟩ := hHeld.1
  refine hK.out _ _ ⟨⟨kc hba q0, kc hba q1, kc hba q2, kc hba q3, kc hba q4, kc hba q5, kc hba q6, kc hba q7, kc hba q8, kc hba q9⟩, chain hHeld.2 hba⟩ (fun hHeld => ?_)
  clear q0 q1 q2 q3 q4 q5 q6 q7 q8 q9
  clear hK K
  (try simp only [Act.put, List.getElem_toArray, List.getElem_cons_zero, List.getElem_cons_succ, Array.getInternal_eq_getElem, List.setIfInBounds_toArray, List.set_cons_zero, List.set_cons_succ])
  clear hba
  refine wpAnyH_take (i := 13) (v := ?_) rfl (by kernel_rfl) (by kernel_rfl) (by kernel_rfl) (fun _ _ _ h => h) (Or.inl ⟨by rfl, ?_⟩) (by assumption) ?_
  rotate_left
  · intro w hSw; (try dsimp only at hSw); go_simp; (try with_reducible rfl)
  (try simp only [Act.put, List.getElem_toArray, List.getElem_cons_zero, List.getElem_cons_succ, Array.getInternal_eq_getElem, List.setIfInBounds_toArray, List.set_cons_zero, List.set_cons_succ])
  refine wpAnyH_take (i := 14) (v := ?_) rfl (by kernel_rfl) (by kernel_rfl) (by kernel_rfl) (fun _ _ _ h => h) (Or.inl ⟨by rfl, ?_⟩) (by assumption) ?_
  rotate_left
  · intro w hSw; (try dsimp only at hSw); go_simp; (try with_reducible rfl)
  (try simp only [Act.put, List.getElem_toArray, List.getElem_cons_zero, List.getElem_cons_succ, Array.getInternal_eq_getElem, List.setIfInBounds_toArray, List.set_cons_zero, List.set_cons_succ])
  refine wpAnyH_take (i := 15) (v := ?_) rfl (by kernel_rfl) (by kernel_rfl) (by kernel_rfl) (fun _ _ _ h => h) (Or.inl ⟨by rfl, ?_⟩) (by assumption) ?_
  rotate_left
  · intro w hSw; (try dsimp only at hSw); go_simp; (try with_reducible rfl)
  (try simp only [Act.put, List.getElem_toArray, List.getElem_cons_zero, List.getElem_cons_succ, Array.getInternal_eq_getElem, List.setIfInBounds_toArray, List.set_cons_zero, List.set_cons_succ])
  refine wpAnyH_take (i := 16) (v := ?_) rfl (by kernel_rfl) (by kernel_rfl) (by kernel_rfl) (fun _ _ _ h => h) (Or.inl ⟨by rfl, ?_⟩) (by assumption) ?_
  rotate_left
  · intro w hSw; (try dsimp only at hSw); go_simp; (try with_reducible rfl)
  (try simp only [Act.put, List.getElem_toArray, List.getElem_cons_zero, List.getElem_cons_succ, Array.getInternal_eq_getElem, List.setIfInBounds_toArray, List.set_cons_zero, List.set_cons_succ])
  refine wpAnyH_take (i := 17) (v := ?_) rfl (by kernel_rfl) (by kernel_rfl) (by kernel_rfl) (fun _ _ _ h => h) (Or.inl ⟨by rfl, ?_⟩) (by assumption) ?_
  rotate_left
  · intro w hSw; (try dsimp only at hSw); go_simp; (try with_reducible rfl)
  (try simp only [Act.put, List.getElem_toArray, List.getElem_cons_zero, List.getElem_cons_succ, Array.getInternal_eq_getElem, List.setIfInBounds_toArray, List.set_cons_zero, List.set_cons_succ])
  refine wpAnyH_ready (rs := [18]) (by kernel_rfl) (by simp) ?_
  refine AllReadyH.cons rfl (fun K hK => ?_) AllReadyH.nil
  go_simp
  refine (HSA.out _ hHeld.2).mono ?_
  rintro e wf ⟨rfl, hba⟩
  obtain ⟨q0, q1, q2, q3, q4, q5, q6, q7, q8, q9⟩ := hHeld.1
  refine hK.out _ _ ⟨⟨kc hba q0, kc hba q1, kc hba q2, kc hba q3, kc hba q4, kc hba q5, kc hba q6, kc hba q7, kc hba q8, kc hba q9⟩, chain hHeld.2 hba⟩ (fun hHeld => ?_)
  clear q0 q1 q2 q3 q4 q5 q6 q7 q8 q9
  clear hK K
  (try simp only [Act.put, List.getElem_toArray, List.getElem_cons_zero, List.getElem_cons_succ, Array.getInternal_eq_getElem, List.setIfInBounds_toArray, List.set_cons_zero, List.set_cons_succ])
  clear hba
  refine wpAnyH_take (i := 19) (v := ?_) rfl (by kernel_rfl) (by kernel_rfl) (by kernel_rfl) (fun _ _ _ h => h) (Or.inl ⟨by rfl, ?_⟩) (by assumption) ?_
  rotate_left
  · intro w hSw; (try dsimp only at hSw); go_simp; (try with_reducible rfl)
  (try simp only [Act.put, List.getElem_toArray, List.getElem_cons_zero, List.getElem_cons_succ, Array.getInternal_eq_getElem, List.setIfInBounds_toArray, List.set_cons_zero, List.set_cons_succ])
  refine wpAnyH_take (i := 20) (v := ?_) rfl (by kernel_rfl) (by kernel_rfl) (by kernel_rfl) (fun _ _ _ h => h) (Or.inl ⟨by rfl, ?_⟩) (by assumption) ?_
  rotate_left
  · intro w hSw; (try dsimp only at hSw); go_simp; (try with_reducible rfl)
  (try simp only [Act.put, List.getElem_toArray, List.getElem_cons_zero, List.getElem_cons_succ, Array.getInternal_eq_getElem, List.setIfInBounds_toArray, List.set_cons_zero, List.set_cons_succ])
  refine wpAnyH_take (i := 21) (v := ?_) rfl (by kernel_rfl) (by kernel_rfl) (by kernel_rfl) (fun _ _ _ h => h) (Or.inl ⟨by rfl, ?_⟩) (by assumption) ?_
  rotate_left
  · intro w hSw; (try dsimp only at hSw); go_simp; (try with_reducible rfl)
  (try simp only [Act.put, List.getElem_toArray, List.getElem_cons_zero, List.getElem_cons_succ, Array.getInternal_eq_getElem, List.setIfInBounds_toArray, List.set_cons_zero, List.set_cons_succ])
  refine wpAnyH_take (i := 22) (v := ?_) rfl (by kernel_rfl) (by kernel_rfl) (by kernel_rfl) (fun _ _ _ h => h) (Or.inl ⟨by rfl, ?_⟩) (by assumption) ?_
  rotate_left
  · intro w hSw; (try dsimp only at hSw); go_simp; (try with_reducible rfl)
  (try simp only [Act.put, List.getElem_toArray, List.getElem_cons_zero, List.getElem_cons_succ, Array.getInternal_eq_getElem, List.setIfInBounds_toArray, List.set_cons_zero, List.set_cons_succ])
  refine wpAnyH_take (i := 23) (v := ?_) rfl (by kernel_rfl) (by kernel_rfl) (by kernel_rfl) (fun _ _ _ h => h) (Or.inl ⟨by rfl, ?_⟩) (by assumption) ?_
  rotate_left
  · intro w hSw; (try dsimp only at hSw); go_simp; (try with_reducible rfl)
  (try simp only [Act.put, List.getElem_toArray, List.getElem_cons_zero, List.getElem_cons_succ, Array.getInternal_eq_getElem, List.setIfInBounds_toArray, List.set_cons_zero, List.set_cons_succ])
  refine wpAnyH_take (i := 24) (v := ?_) rfl (by kernel_rfl) (by kernel_rfl) (by kernel_rfl) (fun _ _ _ h => h) (Or.inl ⟨by rfl, ?_⟩) (by assumption) ?_
  rotate_left
  · intro w hSw; (try dsimp only at hSw); go_simp; (try with_reducible rfl)
  (try simp only [Act.put, List.getElem_toArray, List.getElem_cons_zero, List.getElem_cons_succ, Array.getInternal_eq_getElem, List.setIfInBounds_toArray, List.set_cons_zero, List.set_cons_succ])
  refine wpAnyH_take (i := 25) (v := ?_) rfl (by kernel_rfl) (by kernel_rfl) (by kernel_rfl) (fun _ _ _ h => h) (Or.inl ⟨by rfl, ?_⟩) (by assumption) ?_
  rotate_left
  · intro w hSw; (try dsimp only at hSw); go_simp; (try with_reducible rfl)
  (try simp only [Act.put, List.getElem_toArray, List.getElem_cons_zero, List.getElem_cons_succ, Array.getInternal_eq_getElem, List.setIfInBounds_toArray, List.set_cons_zero, List.set_cons_succ])
  refine wpAnyH_take (i := 26) (v := ?_) rfl (by kernel_rfl) (by kernel_rfl) (by kernel_rfl) (fun _ _ _ h => h) (Or.inl ⟨by rfl, ?_⟩) (by assumption) ?_
  rotate_left
  · intro w hSw; (try dsimp only at hSw); go_simp; (try with_reducible rfl)
  (try simp only [Act.put, List.getElem_toArray, List.getElem_cons_zero, List.getElem_cons_succ, Array.getInternal_eq_getElem, List.setIfInBounds_toArray, List.set_cons_zero, List.set_cons_succ])
  refine wpAnyH_take (i := 27) (v := ?_) rfl (by kernel_rfl) (by kernel_rfl) (by kernel_rfl) (fun _ _ _ h => h) (Or.inl ⟨by rfl, ?_⟩) (by assumption) ?_
  rotate_left
  · intro w hSw; (try dsimp only at hSw); go_simp; (try with_reducible rfl)
  (try simp only [Act.put, List.getElem_toArray, List.getElem_cons_zero, List.getElem_cons_succ, Array.getInternal_eq_getElem, List.setIfInBounds_toArray, List.set_cons_zero, List.set_cons_succ])
  refine wpAnyH_ready (rs := [28]) (by kernel_rfl) (by simp) ?_
  refine AllReadyH.cons rfl (fun K hK => ?_) AllReadyH.nil
  go_simp
  refine (HSB.out _ hHeld.2).mono ?_
  rintro e wg ⟨rfl, hba⟩
  obtain ⟨q0, q1, q2, q3, q4, q5, q6, q7, q8, q9⟩ := hHeld.1
  refine hK.out _ _ ⟨⟨kc hba q0, kc hba q1, kc hba q2, kc hba q3, kc hba q4, kc hba q5, kc hba q6, kc hba q7, kc hba q8, kc hba q9⟩, chain hHeld.2 hba⟩ (fun hHeld => ?_)
  clear q0 q1 q2 q3 q4 q5 q6 q7 q8 q9
  clear hK K
  (try simp only [Act.put, List.getElem_toArray, List.getElem_cons_zero, List.getElem_cons_succ, Array.getInternal_eq_getElem, List.setIfInBounds_toArray, List.set_cons_zero, List.set_cons_succ])
  clear hba
  refine wpAnyH_take (i := 29) (v := ?_) rfl (by kernel_rfl) (by kernel_rfl) (by kernel_rfl) (fun _ _ _ h => h) (Or.inl ⟨by rfl, ?_⟩) (by assumption) ?_
  rotate_left
  · intro w hSw; (try dsimp only at hSw); go_simp; (try with_reducible rfl)
  (try simp only [Act.put, List.getElem_toArray, List.getElem_cons_zero, List.getElem_cons_succ, Array.getInternal_eq_getElem, List.setIfInBounds_toArray, List.set_cons_zero, List.set_cons_succ])
  refine wpAnyH_take (i := 30) (v := ?_) rfl (by kernel_rfl) (by kernel_rfl) (by kernel_rfl) (fun _ _ _ h => h) (Or.inl ⟨by rfl, ?_⟩) (by assumption) ?_
  rotate_left
  · intro w hSw; (try dsimp only at hSw); go_simp; (try with_reducible rfl)
  (try simp only [Act.put, List.getElem_toArray, List.getElem_cons_zero, List.getElem_cons_succ, Array.getInternal_eq_getElem, List.setIfInBounds_toArray, List.set_cons_zero, List.set_cons_succ])
  refine wpAnyH_take (i := 31) (v := ?_) rfl (by kernel_rfl) (by kernel_rfl) (by kernel_rfl) (fun _ _ _ h => h) (Or.inl ⟨by rfl, ?_⟩) (by assumption) ?_
  rotate_left
  · intro w hSw; (try dsimp only at hSw); go_simp; (try with_reducible rfl)
  (try simp only [Act.put, List.getElem_toArray, List.getElem_cons_zero, List.getElem_cons_succ, Array.getInternal_eq_getElem, List.setIfInBounds_toArray, List.set_cons_zero, List.set_cons_succ])
  refine wpAnyH_take (i := 32) (v := ?_) rfl (by kernel_rfl) (by kernel_rfl) (by kernel_rfl) (fun _ _ _ h => h) (Or.inl ⟨by rfl, ?_⟩) (by assumption) ?_
  rotate_left
  · intro w hSw; (try dsimp only at hSw); go_simp; (try with_reducible rfl)
  (try simp only [Act.put, List.getElem_toArray, List.getElem_cons_zero, List.getElem_cons_succ, Array.getInternal_eq_getElem, List.setIfInBounds_toArray, List.set_cons_zero, List.set_cons_succ])
  refine wpAnyH_take (i := 33) (v := ?_) rfl (by kernel_rfl) (by kernel_rfl) (by kernel_rfl) (fun _ _ _ h => h) (Or.inl ⟨by rfl, ?_⟩) (by assumption) ?_
  rotate_left
  · intro w hSw; (try dsimp only at hSw); go_simp; (try with_reducible rfl)
  (try simp only [Act.put, List.getElem_toArray, List.getElem_cons_zero, List.getElem_cons_succ, Array.getInternal_eq_getElem, List.setIfInBounds_toArray, List.set_cons_zero, List.set_cons_succ])
  refine wpAnyH_take (i := 34) (v := ?_) rfl (by kernel_rfl) (by kernel_rfl) (by kernel_rfl) (fun _ _ _ h => h) (Or.inl ⟨by rfl, ?_⟩) (by assumption) ?_
  rotate_left
  · intro w hSw; (try dsimp only at hSw); go_simp; (try with_reducible rfl)
  (try simp only [Act.put, List.getElem_toArray, List.getElem_cons_zero, List.getElem_cons_succ, Array.getInternal_eq_getElem, List.setIfInBounds_toArray, List.set_cons_zero, List.set_cons_succ])
  refine wpAnyH_take (i := 35) (v := ?_) rfl (by kernel_rfl) (by kernel_rfl) (by kernel_rfl) (fun _ _ _ h => h) (Or.inl ⟨by rfl, ?_⟩) (by assumption) ?_
  rotate_left
  · intro w hSw; (try dsimp only at hSw); go_simp; (try with_reducible rfl)
  (try simp only [Act.put, List.getElem_toArray, List.getElem_cons_zero, List.getElem_cons_succ, Array.getInternal_eq_getElem, List.setIfInBounds_toArray, List.set_cons_zero, List.set_cons_succ])
  refine wpAnyH_done (by kernel_rfl) ?_ _
  have hBE := hBw7.trans (hHeld.2.mono hBw7.size)
  clear hHeld
  go_wp2
  go_ret
  exact ⟨rfl, hBE⟩
end Go.Proofs.YtmpjcfehabnhgaaDoor
