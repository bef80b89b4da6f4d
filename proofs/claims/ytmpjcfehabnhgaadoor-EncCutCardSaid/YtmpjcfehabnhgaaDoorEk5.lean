/-
  EncCut, over any world: a state's numbers with some taken off their end, or some put behind, are none's.
-/
import Derived.Test.YtmpjcfehabnhgaaDoorEk1
namespace Go.Proofs.YtmpjcfehabnhgaaDoor
open Go.RowKit Go.Shelf
set_option linter.unusedVariables false
set_option linter.unusedSimpArgs false
open WordM (L)
open BfM (Wr)
open ScM
open EnM

theorem int_take {B : Nat} {W : World} {A : Option Addr} {n c : Nat} {l : List Int} (h : IntR B W (.slice A n c) l) (k : Nat) (hk : k ≤ n) : IntR B W (.slice A k c) (l.take k) := by
  obtain ⟨A', c', e, h1, h2, h0, h3⟩ := h
  injection e with e1 e2 e3
  subst e1 e2 e3
  have hl : (l.take k).length = k := by rw [List.length_take]; omega
  refine ⟨A, c, by rw [hl], by omega, h2, fun e => ⟨by have := (h0 e).1; omega, (h0 e).2⟩, fun hp => ?_⟩
  obtain ⟨b, f, e, hb, hc⟩ := h3 (by omega)
  refine ⟨b, f, e, hb, fun j u hu => hc j u ?_⟩
  have h5 : l.flatMap nuC = (l.take k).flatMap nuC ++ (l.drop k).flatMap nuC := by rw [← List.flatMap_append, List.take_append_drop]
  rw [h5, List.getElem?_append_left (List.getElem?_eq_some_iff.1 hu).1]
  exact hu
theorem int_src {B c : Nat} {W : World} {A : Option Addr} {m : List Int} (h : IntR B W (.slice A m.length c) m) : (A = none → m.length = 0 ∧ c = 0) ∧ ∀ ad, A = some ad → ∀ j u, (m.flatMap nuC)[j]? = some u → W.cell? (ad.add j) = some u := by
  obtain ⟨A9, c9, e, h1, h2, h0, h3⟩ := h
  injection e with e1 _ e2
  subst e1 e2
  exact ⟨h0, src_rw (c := c) nuC_len h0 h3 (Below.refl _ _)⟩
set_option maxHeartbeats 8000000 in
set_option maxRecDepth 100000 in
theorem enccut_any {a0 : Addr} {v u : Value} {s : Sta} {m : List Int} (at' : Int) (w : World) (hE : ErG w.heap.size a0 w) (hv : StaV w.heap.size w v s) (hi : StaIn s) (hat : 0 ≤ at' ∧ at' ≤ 65535) (hu : IntR w.heap.size w u m) :
    Calls Tryd.prog 7 #[v, .int .u16 at', u] w fun e w' => e = .returned (.bool true) ∧ Below w.heap.size w w' := by
  obtain ⟨vm, vt, rfl, hm, ht⟩ := hv
  have hA := below_al (Below.refl w.heap.size w) (.cells #[vm, vt] 25)
  have HB := Lib.hid (BoxC.new w 25 #[vm, vt])
  have HV := Lib.hid (fun W (hW : Below w.heap.size w W) => show StaV W.heap.size W (.agg #[vm, vt]) s from StaV.more (StaV.below ⟨vm, vt, rfl, hm, ht⟩ hW) hW.size)
  have HH := Lib.hid (ehead_any _ ((hE.below hA).more hA.size))
  have HA := Lib.hid hA
  obtain ⟨A1, c1, rfl, -⟩ := hm
  obtain ⟨A2, c2, rfl, -⟩ := ht
  have HII := Lib.hid hi
  have HE := Lib.hid (fun W (hW : Below w.heap.size w W) => (hE.below hW).more hW.size)
  have HU := Lib.hid (fun W (hW : Below w.heap.size w W) => Rw.more (hu.below hW) hW.size)
  obtain ⟨A3, c3, rfl, hm1, hm2, -⟩ := hu
  unfold maxLen at hm2
  clear hA hE hi
  go_enter Tryd.func7, Tryd.ntmps7
  go_wp2_with (go_at_call 9; refine HH.out.mono ?_)
  rintro e w1 ⟨rfl, hb⟩
  have hB1 := HA.out.trans (hb.mono HA.out.size)
  have HX1 := Lib.hid (HB.out.below hb HB.out.lt)
  have HWD := Lib.hid (wide_any w1 (HV.out w1 hB1) (Nat.le_refl _))
  clear hb HB HH HA
  have y0 := HX1.out.cell 0 _ rfl
  have y1 := HX1.out.cell 1 _ rfl
  go_wp2_with (go_at_call 10; refine HWD.out.mono ?_)
  rintro e w2 ⟨b, rfl, hwd, hb⟩
  have hB2 := hB1.trans (hb.mono hB1.size)
  have HX2 := Lib.hid (HX1.out.below hb HX1.out.lt)
  clear y0 y1 hb hB1 HX1 HWD
  have y0 := HX2.out.cell 0 _ rfl
  have y1 := HX2.out.cell 1 _ rfl
  cases b with
  | true =>
    clear hwd
    go_wp2
    go_ret
    exact ⟨rfl, hB2⟩
  | false =>
    by_cases hmm : 100 < m.length
    · have d1 : decide ((m.length : Int) > 100) = true := decide_eq_true (by omega)
      have d2 : decide (100 < (m.length : Int)) = true := decide_eq_true (by omega)
      have d3 : decide (100 < m.length) = true := decide_eq_true hmm
      clear hwd
      go_wp2
      go_ret
      exact ⟨rfl, hB2⟩
    have d1 : decide ((m.length : Int) > 100) = false := decide_eq_false (by omega)
    have d2 : decide (100 < (m.length : Int)) = false := decide_eq_false (by omega)
    have d3 : decide (100 < m.length) = false := decide_eq_false hmm
    have hm3 : m.length ≤ 100 := by omega
    clear hmm
    have hws := hwd rfl
    have HIN := Lib.hid (wide_in HII.out hws)
    have HLN := Lib.hid (wide_len hws)
    have HN := Lib.hid (nums_any w2 (HV.out w2 hB2) (Nat.le_refl _) (by have := HLN.out; omega))
    have HTW := Lib.hid (numsS_two s)
    have HLS := Lib.hid (fun W u k (hk : k < (numsS s).length) (hW : Below w.heap.size w W) (hu : IntR W.heap.size W u ((numsS s).take k)) => show Calls Tryd.prog 11 #[u] W (OfRet none W) from by
      have := of_any W (HE.out W hW) hu (by rw [List.length_take]; have := HLN.out; omega)
      rw [ofN_less s hk] at this; exact this)
    have HMR := Lib.hid (fun W u (hW : Below w.heap.size w W) (hu : IntR W.heap.size W u (numsS s ++ m)) => show Calls Tryd.prog 11 #[u] W (OfRet (if m = [] then some s else none) W) from by
      have := of_any W (HE.out W hW) hu (by rw [List.length_append]; have := HLN.out; omega)
      by_cases h0 : m = []
      · rw [if_pos h0]; rw [h0, List.append_nil, ofN_ok] at this; exact this
      · rw [if_neg h0]; rw [ofN_more s h0] at this; exact this)
    generalize hl : numsS s = l at *
    have hl8 := HLN.out
    have hl2 := HTW.out
    clear hl hwd hws HII HE HV HIN
    go_wp2_with (go_at_call 16; refine HN.out.mono ?_)
    rintro e w3 ⟨u, rfl, hou, hb⟩
    have hB3 := hB2.trans (hb.mono hB2.size)
    obtain ⟨Au, cu, rfl⟩ := own_slice hou
    have hir := (Rw.own hou (Nat.le_refl _) : Rw nuC 1 w3.heap.size w3 (.slice Au l.length cu) l)
    have HTK := Lib.hid (fun k (hk : k < l.length) => HLS.out w3 _ k hk hB3 (int_take hir k (by omega)))
    have g1 : decide ((l.length : Int) < 2) = false := decide_eq_false (by omega)
    have hmod1 := Int.emod_nonneg at' (show (l.length : Int) ≠ 0 by omega)
    have hmod2 := Int.emod_lt_of_pos at' (show (0 : Int) < (l.length : Int) by omega)
    obtain ⟨q, hq⟩ := Int.eq_ofNat_of_zero_le hmod1
    have hlc : l.length ≤ cu := by
      obtain ⟨A9, c9, e9, h1, _⟩ := hir
      injection e9 with _ _ e9
      omega
    have hql : q < l.length := by omega
    have HTQ := Lib.hid (HTK.out q hql)
    clear y0 y1 hb hB2 HX2 HN HLS HTK hmod1 hmod2
    go_wp2_with fail
    refine HTQ.out.mono ?_
    rintro e w4 ⟨x, rfl, hx, hb⟩
    have hB4 := hB3.trans (hb.mono hB3.size)
    obtain ⟨A4, n4, c4, A5, n5, c5, rfl⟩ := hx.slices
    have hal := below_al (Below.refl w4.heap.size w4) (.cells #[.slice A4 n4 c4, .slice A5 n5 c5] 25)
    have hB5 := hB4.trans (hal.mono hB4.size)
    have HO5 := Lib.hid (own_below (own_below hou hb) hal)
    obtain ⟨W5, hW5⟩ : ∃ W, W = w4.alloc (.cells #[.slice A4 n4 c4, .slice A5 n5 c5] 25) := ⟨_, rfl⟩
    rw [← hW5] at hB5 HO5
    have HWW := Lib.hid hW5
    have HDN := Lib.hid (show ¬ (m.length : Int) = 0 → m ≠ [] from fun h e => h (by rw [e]; rfl))
    clear hW5 hb hB3 hB4 hx hal HTQ hou hir hq hlc hql
    go_upto_region 8 with fail
    rw [← HWW.out]
    clear HWW
    obtain ⟨i0, hi, hz0, hz1, hz2⟩ := info_parts info_nu
    have hal := below_al (Below.refl W5.heap.size W5) (.cells #[] 3)
    have HO0 := Lib.hid (World.ownsRow_lit (base := W5.heap.size) (e := 3) (size := 1) W5 #[] 0 (Nat.le_refl _) (by decide) rfl)
    have hB6 := hB5.trans (hal.mono hB5.size)
    obtain ⟨Al, cl, el, hl1, hl3, hl0, hl4⟩ := (Rw.own (own_below HO5.out hal) (Nat.le_refl _) : Rw nuC 1 (W5.alloc (.cells #[] 3)).heap.size (W5.alloc (.cells #[] 3)) (.slice Au l.length cu) l)
    injection el with el1 _ el2
    subst el1 el2
    have HL1 := Lib.hid (src_rw (w := W5.alloc (.cells #[] 3)) (W := W5.alloc (.cells #[] 3)) (c := cu) nuC_len hl0 hl4 (Below.refl _ _))
    have HL0 := Lib.hid hl0
    have HFL := Lib.hid (fl_len nuC_len l)
    have hs5 := hB5.size
    have hs6 := hB6.size
    have HMM := Lib.hid (fun W (hW : Below w.heap.size w W) => int_src (HU.out W hW))
    clear hal hB5 HO5 hl1 hl3 hl0 hl4
    go_wp2_with (first
      | (at_builtin; refine wpList_append_rw _ rfl _ _ 22 rfl W5.heap.size 3 i0 (.int .i64 0) 1 8 Tryd.underlying22 hi hz0 hz1 hz2 rfl (by decide) _ 0 [] rfl HO0.out Au l.length cu (l.flatMap nuC) rfl HFL.out HL0.out HL1.out (one_nu l) (by unfold maxLen; omega) (by omega) (by simp) ?_; intro v6 w6 hown6 hg6; have hB7 := below_append hB6 HO0.out hs5 hs6 hg6; rw [Nat.zero_add, List.nil_append] at hown6; have HO6 := Lib.hid hown6; obtain ⟨A6, c6, rfl⟩ := own_slice hown6; have hs7 := Nat.le_trans (show W5.heap.size ≤ (W5.alloc (.cells #[] 3)).heap.size by simp) hg6.size; clear hown6 hg6)
      | (at_builtin; refine wpList_append_rw _ rfl _ _ 22 rfl W5.heap.size 3 i0 (.int .i64 0) 1 8 Tryd.underlying22 hi hz0 hz1 hz2 rfl (by decide) _ _ _ rfl HO6.out A3 m.length c3 (m.flatMap nuC) rfl (fl_len nuC_len m) (HMM.out w6 hB7).1 (HMM.out w6 hB7).2 (one_nu m) (by unfold maxLen; omega) (by omega) hs7 ?_; intro v7 w7 hown7 hg7; have hB8 := below_append hB7 HO6.out hs5 hB7.size hg7; have HO7 := Lib.hid hown7; obtain ⟨A7, c7, rfl⟩ := own_slice hown7; clear hown7 hg7))
    have hrow := own_len (xs := l ++ m) (show w7.ownsRow W5.heap.size 3 1 (.slice A7 (l.length + m.length) c7) (l.length + m.length) ((l ++ m).flatMap nuC) from by rw [List.flatMap_append]; exact HO7.out) (by simp)
    have HC := Lib.hid (HMR.out w7 _ hB8 (Rw.own hrow (Nat.le_refl _)))
    clear hrow HO7 HMR hB7 HO6 hs7 HMM HL1 HL0 HFL HO0 hB6 hs5 hs6
    refine HC.out.mono ?_
    rintro e w8 ⟨x, rfl, hx, hb⟩
    have hB9 := hB8.trans (hb.mono hB8.size)
    obtain ⟨B4, k4, e4, B5, k5, e5, rfl⟩ := hx.slices
    have HBZ := Lib.hid (hB9.trans ((below_al (Below.refl w8.heap.size w8) (.cells #[.slice B4 k4 e4, .slice B5 k5 e5] 25)).mono hB9.size))
    clear hB8 hb hx hB9 HC
    by_cases hm0 : m = []
    · have q1 : ((m.length : Int) == 0) = true := by rw [hm0]; rfl
      have HIF := Lib.hid (show (if m = [] then some s else none).isSome = true from by rw [if_pos hm0]; rfl)
      obtain ⟨b, hb⟩ : ∃ b, b = (if m = [] then some s else none).isSome := ⟨_, rfl⟩
      rw [← hb] at HIF ⊢
      obtain rfl : b = true := HIF.out
      clear hb HIF hm0 HDN HU
      go_wp2
      go_ret
      exact ⟨rfl, HBZ.out⟩
    · have hne : m.length ≠ 0 := fun e => hm0 (List.eq_nil_of_length_eq_zero e)
      have q1 : ((m.length : Int) == 0) = false := beq_eq_false_iff_ne.2 (by omega)
      have HIF := Lib.hid (show (if m = [] then some s else none).isSome = false from by rw [if_neg hm0]; rfl)
      obtain ⟨b, hb⟩ : ∃ b, b = (if m = [] then some s else none).isSome := ⟨_, rfl⟩
      rw [← hb] at HIF ⊢
      obtain rfl : b = false := HIF.out
      clear hb HIF hm0 HDN HU hne
      go_wp2
      go_ret
      exact ⟨rfl, HBZ.out⟩
end Go.Proofs.YtmpjcfehabnhgaaDoor
