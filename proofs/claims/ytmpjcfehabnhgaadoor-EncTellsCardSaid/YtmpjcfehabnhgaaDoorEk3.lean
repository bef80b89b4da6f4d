/-
  EncPrints, over any world: numbers, and texts, that are a state's are those of what is got; else nothing is.
-/
import Derived.Test.YtmpjcfehabnhgaaDoorEk1
namespace Go.Proofs.YtmpjcfehabnhgaaDoor
open Go.RowKit Go.Shelf
set_option linter.unusedVariables false
set_option linter.unusedSimpArgs false
open WordM (L)
open BfM (Wr)
open ScM
open EnM

theorem readK_of {k : L} {s : Sta} (h : readK k = some s) : ofN (numsK k) = some s := by
  unfold readK at h
  split at h
  · rename_i s' hs
    split at h
    · injection h with h; subst h; exact hs
    · cases h
  · cases h
theorem numsK_len (k : L) : (numsK k).length ≤ k.length := by unfold numsK; rw [List.length_map]; exact words_len k
set_option maxHeartbeats 8000000 in
set_option maxRecDepth 100000 in
theorem encprints_any {a0 : Addr} {v : Value} {l : List Int} (k : ByteArray) (w : World) (hE : ErG w.heap.size a0 w) (hv : IntR w.heap.size w v l) (hi : ∀ n ∈ l, NumM.inR n) :
    Calls Tryd.prog 5 #[v, .string k] w fun e w' => e = .returned (.bool true) ∧ Below w.heap.size w w' := by
  have HV := Lib.hid (fun W (hW : Below w.heap.size w W) => Rw.more (hv.below hW) hW.size)
  have HH := Lib.hid (ehead_any _ hE)
  have HE := Lib.hid (fun W (hW : Below w.heap.size w W) => (hE.below hW).more hW.size)
  obtain ⟨A1, c1, rfl, hl1, hl2, -⟩ := hv
  unfold maxLen at hl2
  clear hE
  go_enter Tryd.func5, Tryd.ntmps5
  go_wp2_with (go_at_call 9; refine HH.out.mono ?_)
  rintro e w1 ⟨rfl, hB1⟩
  by_cases ha : 300 < l.length
  · have d1 : decide ((l.length : Int) > 300) = true := decide_eq_true (by omega)
    have d2 : decide (300 < (l.length : Int)) = true := decide_eq_true (by omega)
    have d3 : decide (300 < l.length) = true := decide_eq_true ha
    go_wp2
    go_ret
    exact ⟨rfl, hB1⟩
  have d1 : decide ((l.length : Int) > 300) = false := decide_eq_false (by omega)
  have d2 : decide (300 < (l.length : Int)) = false := decide_eq_false (by omega)
  have d3 : decide (300 < l.length) = false := decide_eq_false ha
  by_cases hk : 1500 < k.size
  · have e1 : decide ((k.size : Int) > 1500) = true := decide_eq_true (by omega)
    have e2 : decide (1500 < (k.size : Int)) = true := decide_eq_true (by omega)
    have e3 : decide (1500 < k.size) = true := decide_eq_true hk
    go_wp2
    go_ret
    exact ⟨rfl, hB1⟩
  have e1 : decide ((k.size : Int) > 1500) = false := decide_eq_false (by omega)
  have e2 : decide (1500 < (k.size : Int)) = false := decide_eq_false (by omega)
  have e3 : decide (1500 < k.size) = false := decide_eq_false hk
  have HC := Lib.hid (of_any w1 (HE.out w1 hB1) (HV.out w1 hB1) (by omega))
  have HRD := Lib.hid (fun W (hW : Below w.heap.size w W) => read_any k W (HE.out W hW) (by omega))
  have HO1 := Lib.hid (fun s (h : ofN l = some s) => show numsS s = l from (ofN_inv h).symm)
  have HR1 := Lib.hid (fun s (h : readK k.data.toList = some s) => show keyS s = k.data.toList ∧ (∀ n ∈ numsS s, NumM.inR n) ∧ (numsS s).length ≤ 1500 from by
    have h2 := readK_of h
    refine ⟨readK_inv h, ofN_in h2, ?_⟩
    have h3 := ofN_len h2
    have h4 := numsK_len k.data.toList
    rw [← Lib.size_eq] at h4
    omega)
  have hla : l.length ≤ 300 := by omega
  clear ha hk HE HH
  generalize ofN l = o1 at *
  generalize readK k.data.toList = o2 at *
  go_wp2_with (go_at_call 11; refine HC.out.mono ?_)
  rintro e w3 ⟨x, rfl, hx, hb⟩
  have hB3 := hB1.trans (hb.mono hB1.size)
  have hv3 := hx.read (Nat.le_refl _)
  obtain ⟨A4, n4, c4, A5, n5, c5, rfl⟩ := hx.slices
  have hal := below_al (Below.refl w3.heap.size w3) (.cells #[.slice A4 n4 c4, .slice A5 n5 c5] 25)
  have HX4 := Lib.hid (BoxC.new w3 25 #[.slice A4 n4 c4, .slice A5 n5 c5])
  have HU4 := Lib.hid (StaV.more (hv3.below hal) hal.size)
  have hB4 := hB3.trans (hal.mono hB3.size)
  obtain ⟨W4, hW4⟩ : ∃ W, W = w3.alloc (.cells #[.slice A4 n4 c4, .slice A5 n5 c5] 25) := ⟨_, rfl⟩
  obtain ⟨g4, hg4⟩ : ∃ g, g = w3.heap.size := ⟨_, rfl⟩
  rw [← hW4] at HX4 HU4 hB4
  rw [← hg4] at HX4
  have HWW := Lib.hid hW4
  have HGG := Lib.hid hg4
  have HC := Lib.hid (HRD.out W4 hB4)
  clear hW4 hg4 hb hB1 hB3 hv3 hx hal HRD
  obtain ⟨b1, hb1⟩ : ∃ b, b = o1.isSome := ⟨_, rfl⟩
  rw [← hb1]
  have HB1 := Lib.hid hb1
  clear hb1
  go_upto_region 5 with fail
  rw [← HWW.out, ← HGG.out]
  clear HWW HGG
  go_wp2_with (go_at_call 13; refine HC.out.mono ?_)
  rintro e w5 ⟨x, rfl, hx, hb⟩
  have hB5 := hB4.trans (hb.mono hB4.size)
  have HX5 := Lib.hid (HX4.out.below hb HX4.out.lt)
  have HU5 := Lib.hid (StaV.more (HU4.out.below hb) hb.size)
  have hv5 := hx.read (Nat.le_refl _)
  obtain ⟨A6, n6, c6, A7, n7, c7, rfl⟩ := hx.slices
  have hal := below_al (Below.refl w5.heap.size w5) (.cells #[.slice A6 n6 c6, .slice A7 n7 c7] 25)
  have HX6 := Lib.hid (HX5.out.below hal HX5.out.lt)
  have HU6 := Lib.hid (StaV.more (HU5.out.below hal) hal.size)
  have HY6 := Lib.hid (BoxC.new w5 25 #[.slice A6 n6 c6, .slice A7 n7 c7])
  have HV6 := Lib.hid (StaV.more (hv5.below hal) hal.size)
  have hB6 := hB5.trans (hal.mono hB5.size)
  obtain ⟨W6, hW6⟩ : ∃ W, W = w5.alloc (.cells #[.slice A6 n6 c6, .slice A7 n7 c7] 25) := ⟨_, rfl⟩
  obtain ⟨g6, hg6⟩ : ∃ g, g = w5.heap.size := ⟨_, rfl⟩
  rw [← hW6] at HX6 HU6 HY6 HV6 hB6
  rw [← hg6] at HY6
  have HWW := Lib.hid hW6
  have HGG := Lib.hid hg6
  clear hW6 hg6 hb hB4 hB5 hv5 hx hal HC HX4 HX5 HU4 HU5
  obtain ⟨b2, hb2⟩ : ∃ b, b = o2.isSome := ⟨_, rfl⟩
  rw [← hb2]
  have HB2 := Lib.hid hb2
  clear hb2
  go_upto_region 6 with fail
  rw [← HWW.out, ← HGG.out]
  clear HWW HGG
  cases o1 with
  | none =>
   cases o2 with
   | none =>
    replace HU6 : Hid (StaV W6.heap.size W6 (.agg #[.slice A4 n4 c4, .slice A5 n5 c5]) ⟨[], []⟩) := HU6
    replace HV6 : Hid (StaV W6.heap.size W6 (.agg #[.slice A6 n6 c6, .slice A7 n7 c7]) ⟨[], []⟩) := HV6
    obtain rfl : b1 = false := HB1.out
    obtain rfl : b2 = false := HB2.out
    clear HO1 HR1 HB1 HB2
    have HC := Lib.hid (stsame_any W6 HU6.out ((reps_zero 0 W6).read (Nat.le_refl _)) (Nat.le_refl _))
    have x0 := HX6.out.cell 0 _ rfl
    have x1 := HX6.out.cell 1 _ rfl
    have z0 := HY6.out.cell 0 _ rfl
    have z1 := HY6.out.cell 1 _ rfl
    go_wp2_with (go_at_call 20; refine HC.out.mono ?_)
    rintro e w7 ⟨rfl, hb⟩
    have hB7 := hB6.trans (hb.mono hB6.size)
    have HX7 := Lib.hid (HX6.out.below hb HX6.out.lt)
    have HY7 := Lib.hid (HY6.out.below hb HY6.out.lt)
    have HU7 := Lib.hid (StaV.more (HU6.out.below hb) hb.size)
    have HV7 := Lib.hid (StaV.more (HV6.out.below hb) hb.size)
    clear x0 x1 z0 z1 hb HX6 HY6 HU6 HV6 HC hB6
    have HC := Lib.hid (stsame_any w7 HV7.out ((reps_zero 0 w7).read (Nat.le_refl _)) (Nat.le_refl _))
    have x0 := HX7.out.cell 0 _ rfl
    have x1 := HX7.out.cell 1 _ rfl
    have z0 := HY7.out.cell 0 _ rfl
    have z1 := HY7.out.cell 1 _ rfl
    go_wp2_with (go_at_call 20; refine HC.out.mono ?_)
    rintro e w8 ⟨rfl, hb⟩
    have hB8 := hB7.trans (hb.mono hB7.size)
    have HX8 := Lib.hid (HX7.out.below hb HX7.out.lt)
    have HY8 := Lib.hid (HY7.out.below hb HY7.out.lt)
    have HU8 := Lib.hid (StaV.more (HU7.out.below hb) hb.size)
    have HV8 := Lib.hid (StaV.more (HV7.out.below hb) hb.size)
    clear x0 x1 z0 z1 hb HX7 HY7 HU7 HV7 HC hB7
    have HBZ := Lib.hid hB8
    clear HX8 HY8 HU8 HV8 hB8
    go_wp2
    go_ret
    exact ⟨rfl, HBZ.out⟩
   | some s2 =>
    obtain ⟨hk1, hk2, hk3⟩ := HR1.out s2 rfl
    have HKI := Lib.hid hk2
    have HKE := Lib.hid hk1
    clear hk1 hk2
    replace HU6 : Hid (StaV W6.heap.size W6 (.agg #[.slice A4 n4 c4, .slice A5 n5 c5]) ⟨[], []⟩) := HU6
    replace HV6 : Hid (StaV W6.heap.size W6 (.agg #[.slice A6 n6 c6, .slice A7 n7 c7]) s2) := HV6
    obtain rfl : b1 = false := HB1.out
    obtain rfl : b2 = true := HB2.out
    clear HO1 HR1 HB1 HB2
    have HC := Lib.hid (key_any W6 HV6.out (Nat.le_refl _) HKI.out (by omega))
    rw [HKE.out] at HC
    have x0 := HX6.out.cell 0 _ rfl
    have x1 := HX6.out.cell 1 _ rfl
    have z0 := HY6.out.cell 0 _ rfl
    have z1 := HY6.out.cell 1 _ rfl
    go_wp2_with (go_at_call 18; refine HC.out.mono ?_)
    rintro e w7 ⟨rfl, hb⟩
    have hB7 := hB6.trans (hb.mono hB6.size)
    have HX7 := Lib.hid (HX6.out.below hb HX6.out.lt)
    have HY7 := Lib.hid (HY6.out.below hb HY6.out.lt)
    have HU7 := Lib.hid (StaV.more (HU6.out.below hb) hb.size)
    have HV7 := Lib.hid (StaV.more (HV6.out.below hb) hb.size)
    clear x0 x1 z0 z1 hb HX6 HY6 HU6 HV6 HC hB6
    have HC := Lib.hid (stsame_any w7 HU7.out ((reps_zero 0 w7).read (Nat.le_refl _)) (Nat.le_refl _))
    have x0 := HX7.out.cell 0 _ rfl
    have x1 := HX7.out.cell 1 _ rfl
    have z0 := HY7.out.cell 0 _ rfl
    have z1 := HY7.out.cell 1 _ rfl
    go_wp2_with (go_at_call 20; refine HC.out.mono ?_)
    rintro e w8 ⟨rfl, hb⟩
    have hB8 := hB7.trans (hb.mono hB7.size)
    have HX8 := Lib.hid (HX7.out.below hb HX7.out.lt)
    have HY8 := Lib.hid (HY7.out.below hb HY7.out.lt)
    have HU8 := Lib.hid (StaV.more (HU7.out.below hb) hb.size)
    have HV8 := Lib.hid (StaV.more (HV7.out.below hb) hb.size)
    clear x0 x1 z0 z1 hb HX7 HY7 HU7 HV7 HC hB7
    have HBZ := Lib.hid hB8
    clear HX8 HY8 HU8 HV8 hB8
    go_wp2
    go_ret
    exact ⟨rfl, HBZ.out⟩
  | some s1 =>
   cases o2 with
   | none =>
    have HNU := Lib.hid (HO1.out s1 rfl)
    replace HU6 : Hid (StaV W6.heap.size W6 (.agg #[.slice A4 n4 c4, .slice A5 n5 c5]) s1) := HU6
    replace HV6 : Hid (StaV W6.heap.size W6 (.agg #[.slice A6 n6 c6, .slice A7 n7 c7]) ⟨[], []⟩) := HV6
    obtain rfl : b1 = true := HB1.out
    obtain rfl : b2 = false := HB2.out
    clear HO1 HR1 HB1 HB2
    have HC := Lib.hid (nums_any W6 HU6.out (Nat.le_refl _) (by rw [HNU.out]; omega))
    have x0 := HX6.out.cell 0 _ rfl
    have x1 := HX6.out.cell 1 _ rfl
    have z0 := HY6.out.cell 0 _ rfl
    have z1 := HY6.out.cell 1 _ rfl
    go_wp2_with (go_at_call 16; refine HC.out.mono ?_)
    rintro e w7 ⟨u, rfl, hu, hb⟩
    have hB7 := hB6.trans (hb.mono hB6.size)
    have HX7 := Lib.hid (HX6.out.below hb HX6.out.lt)
    have HY7 := Lib.hid (HY6.out.below hb HY6.out.lt)
    have HU7 := Lib.hid (StaV.more (HU6.out.below hb) hb.size)
    have HV7 := Lib.hid (StaV.more (HV6.out.below hb) hb.size)
    clear x0 x1 z0 z1 hb HX6 HY6 HU6 HV6 HC hB6
    rw [HNU.out] at hu
    have HC := Lib.hid (nsame_any w7 (Rw.own (one := nuC) (B := w7.heap.size) hu (Nat.le_refl _)) (HV.out w7 hB7) (Nat.le_refl _))
    obtain ⟨Au, cu, rfl⟩ := own_slice hu
    clear hu
    have x0 := HX7.out.cell 0 _ rfl
    have x1 := HX7.out.cell 1 _ rfl
    have z0 := HY7.out.cell 0 _ rfl
    have z1 := HY7.out.cell 1 _ rfl
    go_wp2_with (go_at_call 15; refine HC.out.mono ?_)
    rintro e w8 ⟨rfl, hb⟩
    have hB8 := hB7.trans (hb.mono hB7.size)
    have HX8 := Lib.hid (HX7.out.below hb HX7.out.lt)
    have HY8 := Lib.hid (HY7.out.below hb HY7.out.lt)
    have HU8 := Lib.hid (StaV.more (HU7.out.below hb) hb.size)
    have HV8 := Lib.hid (StaV.more (HV7.out.below hb) hb.size)
    clear x0 x1 z0 z1 hb HX7 HY7 HU7 HV7 HC hB7
    have HC := Lib.hid (stsame_any w8 HV8.out ((reps_zero 0 w8).read (Nat.le_refl _)) (Nat.le_refl _))
    have x0 := HX8.out.cell 0 _ rfl
    have x1 := HX8.out.cell 1 _ rfl
    have z0 := HY8.out.cell 0 _ rfl
    have z1 := HY8.out.cell 1 _ rfl
    go_wp2_with (go_at_call 20; refine HC.out.mono ?_)
    rintro e w9 ⟨rfl, hb⟩
    have hB9 := hB8.trans (hb.mono hB8.size)
    have HX9 := Lib.hid (HX8.out.below hb HX8.out.lt)
    have HY9 := Lib.hid (HY8.out.below hb HY8.out.lt)
    have HU9 := Lib.hid (StaV.more (HU8.out.below hb) hb.size)
    have HV9 := Lib.hid (StaV.more (HV8.out.below hb) hb.size)
    clear x0 x1 z0 z1 hb HX8 HY8 HU8 HV8 HC hB8
    have HBZ := Lib.hid hB9
    clear HX9 HY9 HU9 HV9 hB9
    go_wp2
    go_ret
    exact ⟨rfl, HBZ.out⟩
   | some s2 =>
    have HNU := Lib.hid (HO1.out s1 rfl)
    obtain ⟨hk1, hk2, hk3⟩ := HR1.out s2 rfl
    have HKI := Lib.hid hk2
    have HKE := Lib.hid hk1
    clear hk1 hk2
    replace HU6 : Hid (StaV W6.heap.size W6 (.agg #[.slice A4 n4 c4, .slice A5 n5 c5]) s1) := HU6
    replace HV6 : Hid (StaV W6.heap.size W6 (.agg #[.slice A6 n6 c6, .slice A7 n7 c7]) s2) := HV6
    obtain rfl : b1 = true := HB1.out
    obtain rfl : b2 = true := HB2.out
    clear HO1 HR1 HB1 HB2
    have HC := Lib.hid (nums_any W6 HU6.out (Nat.le_refl _) (by rw [HNU.out]; omega))
    have x0 := HX6.out.cell 0 _ rfl
    have x1 := HX6.out.cell 1 _ rfl
    have z0 := HY6.out.cell 0 _ rfl
    have z1 := HY6.out.cell 1 _ rfl
    go_wp2_with (go_at_call 16; refine HC.out.mono ?_)
    rintro e w7 ⟨u, rfl, hu, hb⟩
    have hB7 := hB6.trans (hb.mono hB6.size)
    have HX7 := Lib.hid (HX6.out.below hb HX6.out.lt)
    have HY7 := Lib.hid (HY6.out.below hb HY6.out.lt)
    have HU7 := Lib.hid (StaV.more (HU6.out.below hb) hb.size)
    have HV7 := Lib.hid (StaV.more (HV6.out.below hb) hb.size)
    clear x0 x1 z0 z1 hb HX6 HY6 HU6 HV6 HC hB6
    rw [HNU.out] at hu
    have HC := Lib.hid (nsame_any w7 (Rw.own (one := nuC) (B := w7.heap.size) hu (Nat.le_refl _)) (HV.out w7 hB7) (Nat.le_refl _))
    obtain ⟨Au, cu, rfl⟩ := own_slice hu
    clear hu
    have x0 := HX7.out.cell 0 _ rfl
    have x1 := HX7.out.cell 1 _ rfl
    have z0 := HY7.out.cell 0 _ rfl
    have z1 := HY7.out.cell 1 _ rfl
    go_wp2_with (go_at_call 15; refine HC.out.mono ?_)
    rintro e w8 ⟨rfl, hb⟩
    have hB8 := hB7.trans (hb.mono hB7.size)
    have HX8 := Lib.hid (HX7.out.below hb HX7.out.lt)
    have HY8 := Lib.hid (HY7.out.below hb HY7.out.lt)
    have HU8 := Lib.hid (StaV.more (HU7.out.below hb) hb.size)
    have HV8 := Lib.hid (StaV.more (HV7.out.below hb) hb.size)
    clear x0 x1 z0 z1 hb HX7 HY7 HU7 HV7 HC hB7
    have HC := Lib.hid (key_any w8 HV8.out (Nat.le_refl _) HKI.out (by omega))
    rw [HKE.out] at HC
    have x0 := HX8.out.cell 0 _ rfl
    have x1 := HX8.out.cell 1 _ rfl
    have z0 := HY8.out.cell 0 _ rfl
    have z1 := HY8.out.cell 1 _ rfl
    go_wp2_with (go_at_call 18; refine HC.out.mono ?_)
    rintro e w9 ⟨rfl, hb⟩
    have hB9 := hB8.trans (hb.mono hB8.size)
    have HX9 := Lib.hid (HX8.out.below hb HX8.out.lt)
    have HY9 := Lib.hid (HY8.out.below hb HY8.out.lt)
    have HU9 := Lib.hid (StaV.more (HU8.out.below hb) hb.size)
    have HV9 := Lib.hid (StaV.more (HV8.out.below hb) hb.size)
    clear x0 x1 z0 z1 hb HX8 HY8 HU8 HV8 HC hB8
    have HBZ := Lib.hid hB9
    clear HX9 HY9 HU9 HV9 hB9
    go_wp2
    go_ret
    exact ⟨rfl, HBZ.out⟩
end Go.Proofs.YtmpjcfehabnhgaaDoor
