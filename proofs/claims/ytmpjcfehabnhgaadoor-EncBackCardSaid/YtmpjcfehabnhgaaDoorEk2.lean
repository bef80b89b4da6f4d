/-
  EncBack, over any world: each state is got from its numbers, and from its key.
-/
import Derived.Test.YtmpjcfehabnhgaaDoorEk1
namespace Go.Proofs.YtmpjcfehabnhgaaDoor
open Go.RowKit Go.Shelf
set_option linter.unusedVariables false
set_option linter.unusedSimpArgs false
open WordM (L)
open BfM (Wr)
open ScM
open EnM

set_option maxHeartbeats 8000000 in
set_option maxRecDepth 100000 in
theorem encback_any {a0 : Addr} {v : Value} {s : Sta} (w : World) (hE : ErG w.heap.size a0 w) (hv : StaV w.heap.size w v s) (hi : StaIn s) :
    Calls Tryd.prog 4 #[v] w fun e w' => e = .returned (.bool true) ∧ Below w.heap.size w w' := by
  obtain ⟨vm, vt, rfl, hm, ht⟩ := hv
  have hA := below_al (Below.refl w.heap.size w) (.cells #[vm, vt] 25)
  have HB := Lib.hid (BoxC.new w 25 #[vm, vt])
  have HV := Lib.hid (fun W (hW : Below w.heap.size w W) => show StaV W.heap.size W (.agg #[vm, vt]) s from StaV.more (StaV.below ⟨vm, vt, rfl, hm, ht⟩ hW) hW.size)
  have HH := Lib.hid (ehead_any _ ((hE.below hA).more hA.size))
  have HA := Lib.hid hA
  obtain ⟨A1, c1, rfl, -⟩ := hm
  obtain ⟨A2, c2, rfl, -⟩ := ht
  have HII := Lib.hid hi
  have HE := Lib.hid (fun W (hW : Below w.heap.size w W) => (hE.below hW).more hW.size)
  clear hA hE hi
  go_enter Tryd.func4, Tryd.ntmps4
  go_wp2_with (go_at_call 9; refine HH.out.mono ?_)
  rintro e w1 ⟨rfl, hb⟩
  have hB1 := HA.out.trans (hb.mono HA.out.size)
  have HX1 := Lib.hid (HB.out.below hb HB.out.lt)
  have HWD := Lib.hid (wide_any w1 (HV.out w1 hB1) (Nat.le_refl _))
  clear hb HB HH HA
  have y0 := HX1.out.cell 0 _ rfl
  have y1 := HX1.out.cell 1 _ rfl
  go_wp2_with (go_at_call 10; refine HWD.out.mono ?_)
  rintro e w2 ⟨b, rfl, hwd, hb⟩
  have hB2 := hB1.trans (hb.mono hB1.size)
  have HX2 := Lib.hid (HX1.out.below hb HX1.out.lt)
  clear y0 y1 hb hB1 HX1 HWD
  have y0 := HX2.out.cell 0 _ rfl
  have y1 := HX2.out.cell 1 _ rfl
  cases b with
  | true =>
    clear hwd
    go_wp2
    go_ret
    exact ⟨rfl, hB2⟩
  | false =>
    have hws := hwd rfl
    have HIN := Lib.hid (wide_in HII.out hws)
    have HLN := Lib.hid (wide_len hws)
    have HN := Lib.hid (nums_any w2 (HV.out w2 hB2) (Nat.le_refl _) (by have := HLN.out; omega))
    have HKY := Lib.hid (fun W (hW : Below w.heap.size w W) => key_any W (HV.out W hW) (Nat.le_refl _) HIN.out (by have := HLN.out; omega))
    have HOF := Lib.hid (fun W u (hW : Below w.heap.size w W) (hu : IntR W.heap.size W u (numsS s)) => show Calls Tryd.prog 11 #[u] W (OfRet (some s) W) from by
      have := of_any W (HE.out W hW) hu (by have := HLN.out; omega)
      rw [ofN_ok] at this; exact this)
    have HRD := Lib.hid (fun W (hW : Below w.heap.size w W) => show Calls Tryd.prog 13 #[.string ⟨(keyS s).toArray⟩] W (OfRet (some s) W) from by
      have := read_l (keyS s) W (HE.out W hW) (by have h1 := keyL_len (numsS s) HIN.out; have h2 := HLN.out; show (keyL (numsS s)).length ≤ _; omega)
      rw [readK_ok HIN.out] at this; exact this)
    generalize keyS s = ks at *
    generalize hl : numsS s = l at *
    clear hl hwd hws HII HE
    go_wp2_with (go_at_call 16; refine HN.out.mono ?_)
    rintro e w3 ⟨u, rfl, hou, hb⟩
    have hB3 := hB2.trans (hb.mono hB2.size)
    have HX3 := Lib.hid (HX2.out.below hb HX2.out.lt)
    have HC := Lib.hid (HOF.out w3 u hB3 (Rw.own hou (Nat.le_refl _)))
    obtain ⟨Au, cu, rfl⟩ := own_slice hou
    clear y0 y1 hb hB2 HX2 HN hou HOF
    go_wp2_with (go_at_call 11; refine HC.out.mono ?_)
    rintro e w4 ⟨x, rfl, hx, hb⟩
    have hB4 := hB3.trans (hb.mono hB3.size)
    have HX4 := Lib.hid (HX3.out.below hb HX3.out.lt)
    have hv4 := hx.read (Nat.le_refl _)
    obtain ⟨A4, n4, c4, A5, n5, c5, rfl⟩ := hx.slices
    have hal := below_al (Below.refl w4.heap.size w4) (.cells #[.slice A4 n4 c4, .slice A5 n5 c5] 25)
    have HX5 := Lib.hid (HX4.out.below hal HX4.out.lt)
    have HY5 := Lib.hid (BoxC.new w4 25 #[.slice A4 n4 c4, .slice A5 n5 c5])
    have HV5 := Lib.hid (StaV.more (hv4.below hal) hal.size)
    have hB5 := hB4.trans (hal.mono hB4.size)
    obtain ⟨W5, hW5⟩ : ∃ W, W = w4.alloc (.cells #[.slice A4 n4 c4, .slice A5 n5 c5] 25) := ⟨_, rfl⟩
    obtain ⟨g5, hg5⟩ : ∃ g, g = w4.heap.size := ⟨_, rfl⟩
    rw [← hW5] at HX5 HY5 HV5 hB5
    rw [← hg5] at HY5
    have HWW := Lib.hid hW5
    have HGG := Lib.hid hg5
    have HC := Lib.hid (HKY.out W5 hB5)
    clear hW5 hg5 hb hB3 hB4 HX3 HX4 hv4 hx hal HKY
    go_upto_region 5 with fail
    rw [← HWW.out, ← HGG.out]
    clear HWW HGG
    have y0 := HX5.out.cell 0 _ rfl
    have y1 := HX5.out.cell 1 _ rfl
    go_wp2_with (go_at_call 18; refine HC.out.mono ?_)
    rintro e w6 ⟨rfl, hb⟩
    have hB6 := hB5.trans (hb.mono hB5.size)
    have HX6 := Lib.hid (HX5.out.below hb HX5.out.lt)
    have HY6 := Lib.hid (HY5.out.below hb HY5.out.lt)
    have HV6 := Lib.hid (StaV.more (HV5.out.below hb) hb.size)
    have HC := Lib.hid (HRD.out w6 hB6)
    clear y0 y1 hb hB5 HX5 HY5 HV5 HRD
    go_wp2_with (go_at_call 13; refine HC.out.mono ?_)
    rintro e w7 ⟨x, rfl, hx, hb⟩
    have hB7 := hB6.trans (hb.mono hB6.size)
    have HX7 := Lib.hid (HX6.out.below hb HX6.out.lt)
    have HY7 := Lib.hid (HY6.out.below hb HY6.out.lt)
    have HV7 := Lib.hid (StaV.more (HV6.out.below hb) hb.size)
    have hv7 := hx.read (Nat.le_refl _)
    obtain ⟨A7, n7, c7, A8, n8, c8, rfl⟩ := hx.slices
    have hal := below_al (Below.refl w7.heap.size w7) (.cells #[.slice A7 n7 c7, .slice A8 n8 c8] 25)
    have HX8 := Lib.hid (HX7.out.below hal HX7.out.lt)
    have HY8 := Lib.hid (HY7.out.below hal HY7.out.lt)
    have HZ8 := Lib.hid (BoxC.new w7 25 #[.slice A7 n7 c7, .slice A8 n8 c8])
    have HV8 := Lib.hid (StaV.more (HV7.out.below hal) hal.size)
    have HU8 := Lib.hid (StaV.more (hv7.below hal) hal.size)
    have hB8 := hB7.trans (hal.mono hB7.size)
    obtain ⟨W8, hW8⟩ : ∃ W, W = w7.alloc (.cells #[.slice A7 n7 c7, .slice A8 n8 c8] 25) := ⟨_, rfl⟩
    obtain ⟨g8, hg8⟩ : ∃ g, g = w7.heap.size := ⟨_, rfl⟩
    rw [← hW8] at HX8 HY8 HZ8 HV8 HU8 hB8
    rw [← hg8] at HZ8
    have HWW := Lib.hid hW8
    have HGG := Lib.hid hg8
    have HC := Lib.hid (stsame_any W8 HV8.out (HV.out W8 hB8) (Nat.le_refl _))
    clear hW8 hg8 hb hB6 hB7 HX6 HX7 HY6 HY7 HV6 HV7 hv7 hx hal
    go_upto_region 6 with fail
    rw [← HWW.out, ← HGG.out]
    clear HWW HGG
    have y0 := HX8.out.cell 0 _ rfl
    have y1 := HX8.out.cell 1 _ rfl
    have z0 := HY8.out.cell 0 _ rfl
    have z1 := HY8.out.cell 1 _ rfl
    go_wp2_with (go_at_call 20; refine HC.out.mono ?_)
    rintro e w9 ⟨rfl, hb⟩
    have hB9 := hB8.trans (hb.mono hB8.size)
    have HX9 := Lib.hid (HX8.out.below hb HX8.out.lt)
    have HZ9 := Lib.hid (HZ8.out.below hb HZ8.out.lt)
    have HU9 := Lib.hid (StaV.more (HU8.out.below hb) hb.size)
    have HC := Lib.hid (stsame_any w9 HU9.out (HV.out w9 hB9) (Nat.le_refl _))
    clear y0 y1 z0 z1 hb hB8 HX8 HY8 HZ8 HV8 HU8 HU9
    have y0 := HX9.out.cell 0 _ rfl
    have y1 := HX9.out.cell 1 _ rfl
    have z0 := HZ9.out.cell 0 _ rfl
    have z1 := HZ9.out.cell 1 _ rfl
    go_wp2_with (go_at_call 20; refine HC.out.mono ?_)
    rintro e w10 ⟨rfl, hb⟩
    have HB10 := Lib.hid (hB9.trans (hb.mono hB9.size))
    clear y0 y1 z0 z1 hb hB9 HX9 HZ9 HC
    go_wp2
    go_ret
    exact ⟨rfl, HB10.out⟩
end Go.Proofs.YtmpjcfehabnhgaaDoor
