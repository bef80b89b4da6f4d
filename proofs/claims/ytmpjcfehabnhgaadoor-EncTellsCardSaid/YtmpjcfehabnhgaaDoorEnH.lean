/-
  LAYER 12's head: its live question.
-/
import Derived.Test.YtmpjcfehabnhgaaDoorK13
import Derived.Test.YtmpjcfehabnhgaaDoorScX
namespace Go.Proofs.YtmpjcfehabnhgaaDoor
open Go.RowKit Go.Shelf
set_option linter.unusedVariables false
set_option linter.unusedSimpArgs false
open WordM (L)
open BfM (Wr)
open ScM
open EnM

def S0 : Sta := ⟨[-7], [⟨2, [5], true, [⟨1, 3⟩]⟩]⟩
def K0 : L := [49, 32, 45, 55, 32, 49, 32, 50, 32, 49, 32, 49, 32, 53, 32, 49, 32, 49, 32, 51]
theorem k0_key : keyS S0 = K0 := by decide +kernel
theorem k0_nums : numsS S0 = [1, -7, 1, 2, 1, 1, 5, 1, 1, 3] := by decide +kernel
theorem s0_in : ∀ n ∈ numsS S0, NumM.inR n := by
  rw [k0_nums]
  intro n hn
  unfold NumM.inR
  simp only [List.mem_cons, List.not_mem_nil, or_false] at hn
  omega
theorem k0_read : readK K0 = some S0 := by rw [← k0_key]; exact readK_ok s0_in
theorem k0_more : (readK (K0 ++ [32])).isSome = false := by decide +kernel
theorem of_two : ofN [0, 0] = some ⟨[], []⟩ := by rfl
theorem of_off : (ofN [0, 1, 0, 2, 0, 0]).isSome = false := by decide +kernel
theorem key_zero : keyS ⟨[], []⟩ = [48, 32, 48] := by decide +kernel
set_option maxRecDepth 100000 in
theorem s0_world (w : World) : ∃ Wa, Wa = ((((w.alloc (.cells #[.int .i64 (-7)] 3)).alloc (.cells #[.int .i64 5] 3)).alloc (.cells #[.int .i64 1, .int .i64 3] 41)).alloc (.cells #[.int .i64 2, .slice (some ⟨w.heap.size + 1, 0, none⟩) 1 1, .bool true, .slice (some ⟨w.heap.size + 1 + 1, 0, none⟩) 1 1] 44)).alloc (.cells #[.slice (some ⟨w.heap.size, 0, none⟩) 1 1, .slice (some ⟨w.heap.size + 1 + 1 + 1, 0, none⟩) 1 1] 25) ∧ Below w.heap.size w Wa ∧
    BoxC Wa (w.heap.size + 1 + 1 + 1 + 1) 25 #[.slice (some ⟨w.heap.size, 0, none⟩) 1 1, .slice (some ⟨w.heap.size + 1 + 1 + 1, 0, none⟩) 1 1] ∧
    StaV Wa.heap.size Wa (.agg #[.slice (some ⟨w.heap.size, 0, none⟩) 1 1, .slice (some ⟨w.heap.size + 1 + 1 + 1, 0, none⟩) 1 1]) S0 := by
  refine ⟨_, rfl, below_al (below_al (below_al (below_al (below_al (Below.refl _ _) _) _) _) _) _, ?_, ?_⟩
  · have := BoxC.new ((((w.alloc (.cells #[.int .i64 (-7)] 3)).alloc (.cells #[.int .i64 5] 3)).alloc (.cells #[.int .i64 1, .int .i64 3] 41)).alloc (.cells #[.int .i64 2, .slice (some ⟨w.heap.size + 1, 0, none⟩) 1 1, .bool true, .slice (some ⟨w.heap.size + 1 + 1, 0, none⟩) 1 1] 44)) 25 #[.slice (some ⟨w.heap.size, 0, none⟩) 1 1, .slice (some ⟨w.heap.size + 1 + 1 + 1, 0, none⟩) 1 1]
    simpa using this
  · refine ⟨_, _, rfl, ⟨_, _, rfl, Nat.le_refl _, by decide, fun e => (by cases e), fun _ => ⟨_, _, rfl, by first | (simp; done) | (simp; omega), fun j u hu => ?_⟩⟩, ⟨_, _, rfl, Nat.le_refl _, by decide, fun e => (by cases e), fun _ => ⟨_, _, rfl, by first | (simp; done) | (simp; omega), fun j hj => ?_⟩⟩⟩
    · have hj : j < 1 := (List.getElem?_eq_some_iff.1 hu).1
      obtain rfl : j = 0 := by omega
      have hu : u = .int .i64 (-7) := (Option.some.inj hu).symm
      subst hu
      simp [go_sem]
    · have hj : j < 1 := hj
      obtain rfl : j = 0 := by omega
      refine ⟨.slice (some ⟨w.heap.size + 1, 0, none⟩) 1 1, .slice (some ⟨w.heap.size + 1 + 1, 0, none⟩) 1 1, by simp [go_sem, S0], by simp [go_sem], by simp [go_sem, S0], by simp [go_sem], ⟨_, _, rfl, Nat.le_refl _, by decide, fun e => (by cases e), fun _ => ⟨_, _, rfl, by first | (simp; done) | (simp; omega), fun j u hu => ?_⟩⟩, ⟨_, _, rfl, Nat.le_refl _, by decide, fun e => (by cases e), fun _ => ⟨_, _, rfl, by first | (simp; done) | (simp; omega), fun j u hu => ?_⟩⟩⟩
      · have hj : j < 1 := (List.getElem?_eq_some_iff.1 hu).1
        obtain rfl : j = 0 := by omega
        have hu : u = .int .i64 5 := (Option.some.inj hu).symm
        subst hu
        simp [go_sem]
      · have hj : j < 2 := (List.getElem?_eq_some_iff.1 hu).1
        match j, hj with
        | 0, _ =>
          have hu : u = .int .i64 1 := (Option.some.inj hu).symm
          subst hu
          simp [go_sem]
        | 1, _ =>
          have hu : u = .int .i64 3 := (Option.some.inj hu).symm
          subst hu
          simp [go_sem]
theorem zero_in : ∀ n ∈ numsS ⟨[], []⟩, NumM.inR n := by
  intro n hn
  simp [numsS, rowN] at hn
  subst hn
  exact NumM.inR_zero
theorem k0_none : readK (K0 ++ [32]) = none := Option.not_isSome_iff_eq_none.1 (by rw [k0_more]; simp)
theorem read_l {a0 : Addr} (k : L) (w : World) (hE : ErG w.heap.size a0 w) (hk : k.length ≤ 1000000) : Calls Tryd.prog 13 #[.string ⟨k.toArray⟩] w (OfRet (readK k) w) :=
  read_any ⟨k.toArray⟩ w hE (by rw [Lib.size_eq]; exact hk)
theorem nu_map : ∀ l : List Int, l.flatMap nuC = l.map fun n => Value.int .i64 n
  | [] => rfl
  | a :: r => by rw [List.flatMap_cons, List.map_cons, nu_map r]; rfl
theorem int_lit (W : World) (l : List Int) (h : l.length ≤ maxLen) : IntR (W.alloc (.cells (l.map fun n => Value.int .i64 n).toArray 3)).heap.size (W.alloc (.cells (l.map fun n => Value.int .i64 n).toArray 3)) (.slice (some ⟨W.heap.size, 0, none⟩) l.length l.length) l :=
  ⟨_, _, rfl, Nat.le_refl _, h, fun e => (by cases e), fun _ => ⟨_, _, rfl, by simp, fun j u hu => by
    rw [Nat.zero_add, World.cell?_alloc_at _ _ _ _ rfl]
    rw [nu_map] at hu
    simpa using hu⟩⟩
set_option maxHeartbeats 8000000 in
set_option maxRecDepth 100000 in
theorem ehead_any {a0 : Addr} (w : World) (hE : ErG w.heap.size a0 w) :
    Calls Tryd.prog 9 #[] w fun e w' => e = .returned (.bool true) ∧ Below w.heap.size w w' := by
  obtain ⟨Wa, hWa, hBa, hb1, hs⟩ := s0_world w
  have HKY := Lib.hid (key_any Wa hs (Nat.le_refl _) s0_in (by rw [k0_nums]; decide))
  rw [k0_key] at HKY
  have HE := Lib.hid (fun W (hW : Below w.heap.size w W) => (hE.below hW).more hW.size)
  have HWA := Lib.hid hWa
  have HBa := Lib.hid hBa
  have HB1 := Lib.hid hb1
  have HS1 := Lib.hid hs
  have HR1 := Lib.hid (fun W (hW : Below w.heap.size w W) => show Calls Tryd.prog 13 #[.string ⟨K0.toArray⟩] W (OfRet (some S0) W) from by
    have h1 := read_l K0 W (HE.out W hW) (by decide)
    rw [k0_read] at h1; exact h1)
  have HR2 := Lib.hid (fun W (hW : Below w.heap.size w W) => show Calls Tryd.prog 13 #[.string ⟨(K0 ++ [32]).toArray⟩] W (OfRet none W) from by
    have h1 := read_l (K0 ++ [32]) W (HE.out W hW) (by decide)
    rw [k0_none] at h1; exact h1)
  have HO1 := Lib.hid (fun W (v : Value) (hW : Below w.heap.size w W) (hv : IntR W.heap.size W v [0, 0]) => show Calls Tryd.prog 11 #[v] W (OfRet (some ⟨[], []⟩) W) from by
    have := of_any W (HE.out W hW) hv (by decide)
    rw [of_two] at this; exact this)
  have HO2 := Lib.hid (fun W (v : Value) (hW : Below w.heap.size w W) (hv : IntR W.heap.size W v [0, 1, 0, 2, 0, 0]) => show Calls Tryd.prog 11 #[v] W (OfRet none W) from by
    have := of_any W (HE.out W hW) hv (by decide)
    rw [show ofN [0, 1, 0, 2, 0, 0] = none from Option.not_isSome_iff_eq_none.1 (by rw [of_off]; simp)] at this; exact this)
  have hcat := fun W => run_string_add_sum (P := Tryd.prog) (w := W) ⟨K0.toArray⟩ ⟨#[32]⟩ (by decide)
  have hk32 : (⟨K0.toArray⟩ : ByteArray) ++ ⟨#[32]⟩ = ⟨(K0 ++ [32]).toArray⟩ := by decide +kernel
  have qk : (K0 == [49, 32, 45, 55, 32, 49, 32, 50, 32, 49, 32, 49, 32, 53, 32, 49, 32, 49, 32, 51]) = true := by decide
  rw [hk32] at hcat
  generalize hK2 : K0 ++ [32] = K2 at *
  generalize hK : K0 = K at *
  have HNU := Lib.hid k0_nums
  have HSM := Lib.hid (show (numsS S0).length ≤ 999999900 by rw [k0_nums]; decide)
  generalize hS : S0 = S at *
  clear hWa hBa hb1 hs hE hK hS hK2 hk32
  go_enter Tryd.func9, Tryd.ntmps9
  go_wp2_with fail
  rw [← HWA.out]
  clear HWA
  refine HKY.out.mono ?_
  rintro e w1 ⟨rfl, hb⟩
  have hB1 := HBa.out.trans (hb.mono HBa.out.size)
  have HX1 := Lib.hid (HB1.out.below hb HB1.out.lt)
  have HV1 := Lib.hid (StaV.more (HS1.out.below hb) hb.size)
  obtain ⟨g1, hg1⟩ : ∃ g, g = w.heap.size + 1 + 1 + 1 + 1 := ⟨_, rfl⟩
  rw [← hg1] at HX1 ⊢
  clear hb HBa HB1 HS1 HKY hg1

  have HRR := Lib.hid (HR1.out w1 hB1)
  clear HR1
  go_wp2_with (go_at_call 13; refine HRR.out.mono ?_)
  rintro e w2 ⟨x, rfl, hx, hb⟩
  have hB2 := hB1.trans (hb.mono hB1.size)
  replace HX1 := Lib.hid (HX1.out.below hb HX1.out.lt)
  replace HV1 := Lib.hid (StaV.more (HV1.out.below hb) hb.size)
  have hv2 := hx.read (Nat.le_refl _)
  obtain ⟨A2, n2, c2, A2', n2', c2', rfl⟩ := hx.slices
  have hal2 := below_al (Below.refl w2.heap.size w2) (.cells #[.slice A2 n2 c2, .slice A2' n2' c2'] 25)
  replace hB2 := hB2.trans (hal2.mono hB2.size)
  replace HX1 := Lib.hid (HX1.out.below hal2 HX1.out.lt)
  replace HV1 := Lib.hid (StaV.more (HV1.out.below hal2) hal2.size)
  have HX3 := Lib.hid (BoxC.new w2 25 #[.slice A2 n2 c2, .slice A2' n2' c2'])
  have HV3 := Lib.hid (StaV.more (hv2.below hal2) hal2.size)
  clear hb hx hv2 hal2 hB1 HRR
  obtain ⟨W2, hW2⟩ : ∃ W, W = w2.alloc (.cells #[.slice A2 n2 c2, .slice A2' n2' c2'] 25) := ⟨_, rfl⟩
  obtain ⟨g3, hg3⟩ : ∃ g, g = w2.heap.size := ⟨_, rfl⟩
  rw [← hW2] at HX1 HV1
  rw [← hW2] at HX3 HV3 hB2
  rw [← hg3] at HX3
  have HWW2 := Lib.hid hW2
  have HGG3 := Lib.hid hg3
  clear hW2 hg3
  have HRR := Lib.hid (HR2.out _ hB2)
  clear HR2
  go_wp2_with fail
  rw [← HWW2.out, ← HGG3.out]
  clear HWW2 HGG3
  refine HRR.out.mono ?_
  rintro e w3 ⟨x, rfl, hx, hb⟩
  have hB3 := hB2.trans (hb.mono hB2.size)
  replace HX1 := Lib.hid (HX1.out.below hb HX1.out.lt)
  replace HV1 := Lib.hid (StaV.more (HV1.out.below hb) hb.size)
  replace HX3 := Lib.hid (HX3.out.below hb HX3.out.lt)
  replace HV3 := Lib.hid (StaV.more (HV3.out.below hb) hb.size)
  have hv3 := hx.read (Nat.le_refl _)
  obtain ⟨A3, n3, c3, A3', n3', c3', rfl⟩ := hx.slices
  have hal3 := below_al (Below.refl w3.heap.size w3) (.cells #[.slice A3 n3 c3, .slice A3' n3' c3'] 25)
  replace hB3 := hB3.trans (hal3.mono hB3.size)
  replace HX1 := Lib.hid (HX1.out.below hal3 HX1.out.lt)
  replace HV1 := Lib.hid (StaV.more (HV1.out.below hal3) hal3.size)
  replace HX3 := Lib.hid (HX3.out.below hal3 HX3.out.lt)
  replace HV3 := Lib.hid (StaV.more (HV3.out.below hal3) hal3.size)
  have HX5 := Lib.hid (BoxC.new w3 25 #[.slice A3 n3 c3, .slice A3' n3' c3'])
  have HV5 := Lib.hid (StaV.more (hv3.below hal3) hal3.size)
  clear hb hx hv3 hal3 hB2 HRR
  obtain ⟨W3, hW3⟩ : ∃ W, W = w3.alloc (.cells #[.slice A3 n3 c3, .slice A3' n3' c3'] 25) := ⟨_, rfl⟩
  obtain ⟨g5, hg5⟩ : ∃ g, g = w3.heap.size := ⟨_, rfl⟩
  rw [← hW3] at HX1 HV1
  rw [← hW3] at HX3 HV3
  rw [← hW3] at HX5 HV5 hB3
  rw [← hg5] at HX5
  have HWW3 := Lib.hid hW3
  have HGG5 := Lib.hid hg5
  clear hW3 hg5
  clear HX5 HV5
  have hl := below_al (Below.refl W3.heap.size W3) (.cells #[.int .i64 0, .int .i64 0] 3)
  have hsz : W3.heap.size = g5 + 1 := by rw [HWW3.out, HGG5.out]; simp
  have hil : IntR (W3.alloc (.cells #[.int .i64 0, .int .i64 0] 3)).heap.size (W3.alloc (.cells #[.int .i64 0, .int .i64 0] 3)) (.slice (some ⟨g5 + 1, 0, none⟩) 2 2) [0, 0] := by rw [← hsz]; exact int_lit W3 [0, 0] (by decide)
  clear hsz
  have hBl := hB3.trans (hl.mono hB3.size)
  have HRR := Lib.hid (HO1.out _ _ hBl hil)
  clear HO1 hil
  replace HX1 := Lib.hid (HX1.out.below hl HX1.out.lt)
  replace HV1 := Lib.hid (StaV.more (HV1.out.below hl) hl.size)
  replace HX3 := Lib.hid (HX3.out.below hl HX3.out.lt)
  replace HV3 := Lib.hid (StaV.more (HV3.out.below hl) hl.size)
  clear hl hB3
  go_wp2_with fail
  rw [← HWW3.out, ← HGG5.out]
  clear HWW3 HGG5
  refine HRR.out.mono ?_
  rintro e w4 ⟨x, rfl, hx, hb⟩
  have hB4 := hBl.trans (hb.mono hBl.size)
  replace HX1 := Lib.hid (HX1.out.below hb HX1.out.lt)
  replace HV1 := Lib.hid (StaV.more (HV1.out.below hb) hb.size)
  replace HX3 := Lib.hid (HX3.out.below hb HX3.out.lt)
  replace HV3 := Lib.hid (StaV.more (HV3.out.below hb) hb.size)
  have hv4 := hx.read (Nat.le_refl _)
  obtain ⟨A4, n4, c4, A4', n4', c4', rfl⟩ := hx.slices
  have hal4 := below_al (Below.refl w4.heap.size w4) (.cells #[.slice A4 n4 c4, .slice A4' n4' c4'] 25)
  replace hB4 := hB4.trans (hal4.mono hB4.size)
  replace HX1 := Lib.hid (HX1.out.below hal4 HX1.out.lt)
  replace HV1 := Lib.hid (StaV.more (HV1.out.below hal4) hal4.size)
  replace HX3 := Lib.hid (HX3.out.below hal4 HX3.out.lt)
  replace HV3 := Lib.hid (StaV.more (HV3.out.below hal4) hal4.size)
  have HX7 := Lib.hid (BoxC.new w4 25 #[.slice A4 n4 c4, .slice A4' n4' c4'])
  have HV7 := Lib.hid (StaV.more (hv4.below hal4) hal4.size)
  clear hb hx hv4 hal4 hBl HRR
  obtain ⟨W4, hW4⟩ : ∃ W, W = w4.alloc (.cells #[.slice A4 n4 c4, .slice A4' n4' c4'] 25) := ⟨_, rfl⟩
  obtain ⟨g7, hg7⟩ : ∃ g, g = w4.heap.size := ⟨_, rfl⟩
  rw [← hW4] at HX1 HV1
  rw [← hW4] at HX3 HV3
  rw [← hW4] at HX7 HV7 hB4
  rw [← hg7] at HX7
  have HWW4 := Lib.hid hW4
  have HGG7 := Lib.hid hg7
  clear hW4 hg7
  have hl := below_al (Below.refl W4.heap.size W4) (.cells #[.int .i64 0, .int .i64 1, .int .i64 0, .int .i64 2, .int .i64 0, .int .i64 0] 3)
  have hsz : W4.heap.size = g7 + 1 := by rw [HWW4.out, HGG7.out]; simp
  have hil : IntR (W4.alloc (.cells #[.int .i64 0, .int .i64 1, .int .i64 0, .int .i64 2, .int .i64 0, .int .i64 0] 3)).heap.size (W4.alloc (.cells #[.int .i64 0, .int .i64 1, .int .i64 0, .int .i64 2, .int .i64 0, .int .i64 0] 3)) (.slice (some ⟨g7 + 1, 0, none⟩) 6 6) [0, 1, 0, 2, 0, 0] := by rw [← hsz]; exact int_lit W4 [0, 1, 0, 2, 0, 0] (by decide)
  clear hsz
  have hBl := hB4.trans (hl.mono hB4.size)
  have HRR := Lib.hid (HO2.out _ _ hBl hil)
  clear HO2 hil
  replace HX1 := Lib.hid (HX1.out.below hl HX1.out.lt)
  replace HV1 := Lib.hid (StaV.more (HV1.out.below hl) hl.size)
  replace HX3 := Lib.hid (HX3.out.below hl HX3.out.lt)
  replace HV3 := Lib.hid (StaV.more (HV3.out.below hl) hl.size)
  replace HX7 := Lib.hid (HX7.out.below hl HX7.out.lt)
  replace HV7 := Lib.hid (StaV.more (HV7.out.below hl) hl.size)
  clear hl hB4
  go_wp2_with fail
  rw [← HWW4.out, ← HGG7.out]
  clear HWW4 HGG7
  refine HRR.out.mono ?_
  rintro e w5 ⟨x, rfl, hx, hb⟩
  have hB5 := hBl.trans (hb.mono hBl.size)
  replace HX1 := Lib.hid (HX1.out.below hb HX1.out.lt)
  replace HV1 := Lib.hid (StaV.more (HV1.out.below hb) hb.size)
  replace HX3 := Lib.hid (HX3.out.below hb HX3.out.lt)
  replace HV3 := Lib.hid (StaV.more (HV3.out.below hb) hb.size)
  replace HX7 := Lib.hid (HX7.out.below hb HX7.out.lt)
  replace HV7 := Lib.hid (StaV.more (HV7.out.below hb) hb.size)
  have hv5 := hx.read (Nat.le_refl _)
  obtain ⟨A5, n5, c5, A5', n5', c5', rfl⟩ := hx.slices
  have hal5 := below_al (Below.refl w5.heap.size w5) (.cells #[.slice A5 n5 c5, .slice A5' n5' c5'] 25)
  replace hB5 := hB5.trans (hal5.mono hB5.size)
  replace HX1 := Lib.hid (HX1.out.below hal5 HX1.out.lt)
  replace HV1 := Lib.hid (StaV.more (HV1.out.below hal5) hal5.size)
  replace HX3 := Lib.hid (HX3.out.below hal5 HX3.out.lt)
  replace HV3 := Lib.hid (StaV.more (HV3.out.below hal5) hal5.size)
  replace HX7 := Lib.hid (HX7.out.below hal5 HX7.out.lt)
  replace HV7 := Lib.hid (StaV.more (HV7.out.below hal5) hal5.size)
  have HX9 := Lib.hid (BoxC.new w5 25 #[.slice A5 n5 c5, .slice A5' n5' c5'])
  have HV9 := Lib.hid (StaV.more (hv5.below hal5) hal5.size)
  clear hb hx hv5 hal5 hBl HRR
  obtain ⟨W5, hW5⟩ : ∃ W, W = w5.alloc (.cells #[.slice A5 n5 c5, .slice A5' n5' c5'] 25) := ⟨_, rfl⟩
  obtain ⟨g9, hg9⟩ : ∃ g, g = w5.heap.size := ⟨_, rfl⟩
  rw [← hW5] at HX1 HV1
  rw [← hW5] at HX3 HV3
  rw [← hW5] at HX7 HV7
  rw [← hW5] at HX9 HV9 hB5
  rw [← hg9] at HX9
  have HWW5 := Lib.hid hW5
  have HGG9 := Lib.hid hg9
  clear hW5 hg9
  clear HX9 HV9
  go_upto_region 7 with fail
  rw [← HWW5.out, ← HGG9.out]
  clear HWW5 HGG9
  have HC := Lib.hid (stsame_any W5 HV1.out HV3.out (Nat.le_refl _))
  have yHX10 := HX1.out.cell 0 _ rfl
  have yHX11 := HX1.out.cell 1 _ rfl
  have yHX30 := HX3.out.cell 0 _ rfl
  have yHX31 := HX3.out.cell 1 _ rfl
  have yHX70 := HX7.out.cell 0 _ rfl
  have yHX71 := HX7.out.cell 1 _ rfl
  go_wp2_with (go_at_call 20; refine HC.out.mono ?_)
  rintro e w6 ⟨rfl, hb⟩
  have hB6 := hB5.trans (hb.mono hB5.size)
  clear yHX10 yHX11 yHX30 yHX31 yHX70 yHX71
  replace HX1 := Lib.hid (HX1.out.below hb HX1.out.lt)
  replace HV1 := Lib.hid (StaV.more (HV1.out.below hb) hb.size)
  replace HX3 := Lib.hid (HX3.out.below hb HX3.out.lt)
  replace HV3 := Lib.hid (StaV.more (HV3.out.below hb) hb.size)
  replace HX7 := Lib.hid (HX7.out.below hb HX7.out.lt)
  replace HV7 := Lib.hid (StaV.more (HV7.out.below hb) hb.size)
  clear hB5 HC hb
  clear HX3 HV3
  have HC := Lib.hid (nums_any w6 HV1.out (Nat.le_refl _) HSM.out)
  have yHX10 := HX1.out.cell 0 _ rfl
  have yHX11 := HX1.out.cell 1 _ rfl
  have yHX70 := HX7.out.cell 0 _ rfl
  have yHX71 := HX7.out.cell 1 _ rfl
  go_wp2_with (go_at_call 16; refine HC.out.mono ?_)
  rintro e w7 ⟨u, rfl, hu, hb⟩
  have hB7 := hB6.trans (hb.mono hB6.size)
  clear yHX10 yHX11 yHX70 yHX71
  replace HX1 := Lib.hid (HX1.out.below hb HX1.out.lt)
  replace HV1 := Lib.hid (StaV.more (HV1.out.below hb) hb.size)
  replace HX7 := Lib.hid (HX7.out.below hb HX7.out.lt)
  replace HV7 := Lib.hid (StaV.more (HV7.out.below hb) hb.size)
  clear hB6 HC hb
  clear HX1 HV1
  rw [HNU.out] at hu
  obtain ⟨Au, cu, rfl⟩ := own_slice hu
  have hl := below_al (Below.refl w7.heap.size w7) (.cells #[.int .i64 1, .int .i64 (-7), .int .i64 1, .int .i64 2, .int .i64 1, .int .i64 1, .int .i64 5, .int .i64 1, .int .i64 1, .int .i64 3] 3)
  have hil : IntR (w7.alloc (.cells #[.int .i64 1, .int .i64 (-7), .int .i64 1, .int .i64 2, .int .i64 1, .int .i64 1, .int .i64 5, .int .i64 1, .int .i64 1, .int .i64 3] 3)).heap.size (w7.alloc (.cells #[.int .i64 1, .int .i64 (-7), .int .i64 1, .int .i64 2, .int .i64 1, .int .i64 1, .int .i64 5, .int .i64 1, .int .i64 1, .int .i64 3] 3)) (.slice (some ⟨w7.heap.size, 0, none⟩) 10 10) [1, -7, 1, 2, 1, 1, 5, 1, 1, 3] := int_lit w7 [1, -7, 1, 2, 1, 1, 5, 1, 1, 3] (by decide)
  have hul := Rw.own (one := nuC) (B := (w7.alloc (.cells #[.int .i64 1, .int .i64 (-7), .int .i64 1, .int .i64 2, .int .i64 1, .int .i64 1, .int .i64 5, .int .i64 1, .int .i64 1, .int .i64 3] 3)).heap.size) (own_below hu hl) (Nat.le_refl _)
  have HC := Lib.hid (nsame_any _ hul hil (Nat.le_refl _))
  replace HX7 := Lib.hid (HX7.out.below hl HX7.out.lt)
  replace HV7 := Lib.hid (StaV.more (HV7.out.below hl) hl.size)
  have hBm := hB7.trans (hl.mono hB7.size)
  clear hB7 hu hl hil hul
  have yHX70 := HX7.out.cell 0 _ rfl
  have yHX71 := HX7.out.cell 1 _ rfl
  go_wp2_with (go_at_call 15; refine HC.out.mono ?_)
  rintro e w8 ⟨rfl, hb⟩
  have hB8 := hBm.trans (hb.mono hBm.size)
  clear yHX70 yHX71
  replace HX7 := Lib.hid (HX7.out.below hb HX7.out.lt)
  replace HV7 := Lib.hid (StaV.more (HV7.out.below hb) hb.size)
  clear hBm HC hb
  have HC := Lib.hid (stsame_any w8 HV7.out (show StaV w8.heap.size w8 (.agg #[.slice none 0 0, .slice none 0 0]) ((some (⟨[], []⟩ : Sta)).getD ⟨[], []⟩) from (reps_zero 0 w8).read (Nat.le_refl _)) (Nat.le_refl _))
  have yHX70 := HX7.out.cell 0 _ rfl
  have yHX71 := HX7.out.cell 1 _ rfl
  go_wp2_with (go_at_call 20; refine HC.out.mono ?_)
  rintro e w9 ⟨rfl, hb⟩
  have hB9 := hB8.trans (hb.mono hB8.size)
  clear yHX70 yHX71
  replace HX7 := Lib.hid (HX7.out.below hb HX7.out.lt)
  replace HV7 := Lib.hid (StaV.more (HV7.out.below hb) hb.size)
  clear hB8 HC hb
  clear HX7 HV7
  have HC := Lib.hid (key_any w9 ((reps_zero 0 w9).read (Nat.le_refl _)) (Nat.le_refl _) zero_in (by decide))
  rw [key_zero] at HC
  go_wp2_with (go_at_call 18; refine HC.out.mono ?_)
  rintro e w10 ⟨rfl, hb⟩
  have hBz := hB9.trans (hb.mono hB9.size)
  go_wp2
  go_ret
  exact ⟨rfl, hBz⟩
end Go.Proofs.YtmpjcfehabnhgaaDoor
