/-
  OutsHas: the law's own walk.
-/
import Derived.Test.YtodpajnpnobfmaaWtk
import Derived.Test.YtodpajnpnobfmaaOtV
namespace Go.Proofs.Ytodpajnpnobfmaa
open Go.RowKit
set_option linter.unusedVariables false
set_option linter.unusedSimpArgs false
open OtM
set_option maxHeartbeats 8000000 in
set_option maxRecDepth 100000 in
theorem outshas_any (w : World) {vl : Value} {l : List OV} (hl : OutsX w.heap.size w vl l) {o : OV} (ho : OvOk w.heap.size w o) : Calls Try.prog 6 #[vl, .agg #[o.m, o.r]] w fun e w' => e = .returned (.bool true) ∧ Below w.heap.size w w' := by
  have HLl := Lib.hid (fun W (hW : Below w.heap.size w W) => (hl.below hW).more hW.size)
  have HDl := Lib.hid hl
  obtain ⟨L1, lc1, rfl⟩ : ∃ A c, vl = .slice A l.length c := by obtain ⟨⟨A, c, rfl, -⟩, -⟩ := hl; exact ⟨_, _, rfl⟩
  clear hl
  obtain ⟨ln, hln⟩ : ∃ n, n = l.length := ⟨_, rfl⟩
  have HNl := Lib.hid hln
  rw [← hln] at HLl HDl ⊢
  clear hln
  obtain ⟨om, or, oo⟩ := o
  obtain ⟨O1, on1, oc1, eo1⟩ := ho.1.sl
  obtain ⟨O2, on2, oc2, eo2⟩ := ho.2.sl
  dsimp only at eo1 eo2 ⊢
  subst eo1 eo2
  have HVo := Lib.hid (fun W (hW : Below w.heap.size w W) => (ho.below hW).more hW.size)
  clear ho
  obtain ⟨W0, hW0⟩ : ∃ W, W = w.alloc (.cells #[.slice O1 on1 oc1, .slice O2 on2 oc2] 24) := ⟨_, rfl⟩
  obtain ⟨g0, hg0⟩ : ∃ g, g = w.heap.size := ⟨_, rfl⟩
  have hb0 : Below w.heap.size w W0 := by rw [hW0]; exact below_al (Below.refl _ _) _
  obtain ⟨c00, c01⟩ : W0.cell? ⟨g0, 0, none⟩ = some (.slice O1 on1 oc1) ∧ W0.cell? ⟨g0, 1, none⟩ = some (.slice O2 on2 oc2) := by rw [hW0, hg0]; exact box2 (w := w) _ _ _
  have HB := Lib.hid (hb0)
  have HS0 := Lib.hid hg0
  have HCH := Lib.hid (show W0 = (w.alloc (.cells #[.slice O1 on1 oc1, .slice O2 on2 oc2] 24)) from by rw [hW0])
  clear hW0 hg0 hb0
  go_enter Try.func6, Try.ntmps6
  go_upto_region 1 with fail
  rw [← HCH.out, ← HS0.out]
  clear HCH HS0
  go_wp2_with fail
  have C := head15_any W0
  refine C.mono ?_
  rintro e X1 ⟨rfl, hb⟩
  clear C
  replace c00 := kc hb c00
  replace c01 := kc hb c01
  replace HB := Lib.hid (chain HB.out hb)
  clear hb
  go_wp2_with fail
  have C := big_any X1 (HLl.out _ HB.out) (Nat.le_refl _)
  refine C.mono ?_
  rintro e X2 ⟨bb, rfl, hf, hb⟩
  clear C
  replace c00 := kc hb c00
  replace c01 := kc hb c01
  replace HB := Lib.hid (chain HB.out hb)
  have HFl := Lib.hid hf
  clear hf
  clear hb
  cases bb
  rotate_left
  · skip
    go_wp2
    go_ret
    exact ⟨rfl, HB.out⟩
  replace HFl := Lib.hid (HFl.out rfl)
  obtain ⟨X3, hX⟩ : ∃ X, X = X2.alloc (.cells #[.slice O1 on1 oc1, .slice O2 on2 oc2] 24) := ⟨_, rfl⟩
  obtain ⟨gX3, hg⟩ : ∃ g, g = X2.heap.size := ⟨_, rfl⟩
  have hb : Below X2.heap.size X2 X3 := by rw [hX]; exact below_al (Below.refl _ _) _
  have HR := Lib.hid (show OutsX X3.heap.size X3 (.slice (some ⟨gX3, 0, none⟩) 1 1) [⟨.slice O1 on1 oc1, .slice O2 on2 oc2, oo⟩] from by rw [hX, hg]; exact lit_outs X2 [⟨.slice O1 on1 oc1, .slice O2 on2 oc2, oo⟩] rfl (by intro x hx; simp only [List.mem_cons, List.not_mem_nil, or_false] at hx; subst hx; exact (HVo.out _ HB.out)))
  go_wp2_with fail
  rw [← hX]
  (try rw [← hg])
  have hq := kc hb c00; clear c00; have c00 := hq; clear hq
  have hq := kc hb c01; clear c01; have c01 := hq; clear hq
  replace HB := Lib.hid (chain HB.out hb)
  clear hX hg hb
  go_wp2_with fail
  have C := big_any X3 HR.out (Nat.le_refl _)
  refine C.mono ?_
  rintro e X4 ⟨bb, rfl, hf, hb⟩
  clear C
  replace c00 := kc hb c00
  replace c01 := kc hb c01
  replace HB := Lib.hid (chain HB.out hb)
  replace HR := Lib.hid ((HR.out.below hb).more hb.size)
  have HFo := Lib.hid hf
  clear hf
  clear hb
  cases bb
  rotate_left
  · skip
    go_wp2
    go_ret
    exact ⟨rfl, HB.out⟩
  replace HFo := Lib.hid (HFo.out rfl)
  clear HR
  go_wp2_with fail
  have C := oof_any X4 (HLl.out _ HB.out) (Nat.le_refl _) HFl.out.len6 HFl.out.sm
  refine C.mono ?_
  rintro e X5 ⟨u1, z1, rfl, hz1, ho1, hb⟩
  clear C
  replace c00 := kc hb c00
  replace c01 := kc hb c01
  replace HB := Lib.hid (chain HB.out hb)
  have HZ1 := Lib.hid (show OutsX X5.heap.size X5 u1 z1 from ho1.outs)
  obtain ⟨A7, d7, rfl⟩ := own_slice ho1.1
  have HM1 := Lib.hid hz1
  have HL1 := Lib.hid (show z1.length ≤ l.length from by have h1 := congrArg List.length hz1; have h2 := ofO_len (os l); simp at h1 h2; omega)
  have HN1 := Lib.hid (Nat.le_trans HL1.out HFl.out.len6)
  have HS1 := Lib.hid (show Srt (os z1) from by rw [hz1]; exact ofO_srt _)
  have E1 := Lib.hid (show srtB (os z1) = true from decide_eq_true HS1.out)
  clear hz1 ho1
  clear hb
  have hln : ln ≤ 150 := by have := HFl.out.len; have := HNl.out; omega
  obtain ⟨zn, hzn⟩ : ∃ n, n = z1.length := ⟨_, rfl⟩
  have HZN := Lib.hid hzn
  rw [← hzn] at HZ1 HL1 HN1 ⊢
  clear hzn
  go_wp2
  go_loopw [7, 8] (fun s i wr => ∃ (k : Nat) (d : Bool), k ≤ ln ∧ s = .bool d ∧ i = .int .i64 k ∧ Hid (d = decide (oo ∈ os (l.take k))) ∧ Below X5.heap.size X5 wr) (fun _ i _ => ln - (intOf i).toNat)
  case atStart => exact ⟨0, false, Nat.zero_le _, rfl, rfl, Lib.hid (by simp), Below.refl _ _⟩
  case round =>
    obtain ⟨k, d, hk, rfl, rfl, HDD, hb⟩ := hrel
    have HX := Lib.hid hb
    replace c00 := kc hb c00
    replace c01 := kc hb c01
    replace HB := Lib.hid (chain HB.out hb)
    replace HZ1 := Lib.hid ((HZ1.out.below hb).more hb.size)
    clear hb
    by_cases hlt : k < ln
    · skip
      have hkx : k < l.length := by have := HNl.out; omega
      obtain ⟨b1, f1, rfl, hl1, p0, p1⟩ := row_at HDl.out k hkx
      have HC := Lib.hid (fun (W : World) (hW : Below w.heap.size w W) => And.intro ((hW.cell (p := ⟨b1, f1 + k * 2, none⟩) hl1).trans p0) ((hW.cell (p := ⟨b1, f1 + k * 2 + 1, none⟩) hl1).trans p1))
      have HO := HDl.out.2 l[k] (List.getElem_mem hkx)
      have HTK := Lib.hid (os_mem_take hkx oo)
      have HIN := Lib.hid (show l[k].o ∈ os z1 from by rw [HM1.out, ofO_mem]; exact List.mem_map.2 ⟨l[k], List.getElem_mem hkx, rfl⟩)
      obtain ⟨x, hx⟩ : ∃ x, x = l[k] := ⟨_, rfl⟩
      rw [← hx] at HC HO HTK HIN
      clear hx p0 p1 hkx
      obtain ⟨xm, xr, xo⟩ := x
      obtain ⟨X1a, xn1, xc1, e1⟩ := HO.1.sl
      obtain ⟨X2a, xn2, xc2, e2⟩ := HO.2.sl
      dsimp only at e1 e2 HC HTK HIN
      subst e1 e2
      have HVx := Lib.hid (fun W (hW : Below w.heap.size w W) => (HO.below hW).more hW.size)
      clear HO
      cases d
      · skip
        obtain ⟨bb, hbb⟩ : ∃ b, b = decide (xo = oo) := ⟨_, rfl⟩
        have HBB := Lib.hid hbb
        clear hbb
        have HDN := Lib.hid (show bb = decide (oo ∈ os (l.take (k + 1))) from by rw [HBB.out, decide_eq_decide, HTK.out]; have h1 := of_decide_eq_false HDD.out.symm; exact ⟨fun h => .inr h.symm, fun h => h.elim (fun h => absurd h h1) Eq.symm⟩)
        obtain ⟨d1, d2⟩ := HC.out _ HB.out
        have hS : wr.cell? ⟨b1, f1 + k * 2, none⟩ = some (.slice X1a xn1 xc1) ∧ wr.cell? ⟨b1, f1 + k * 2 + 1, none⟩ = some (.slice X2a xn2 xc2) ∧ wr.cell? ⟨g0, 0, none⟩ = some (.slice O1 on1 oc1) ∧ wr.cell? ⟨g0, 1, none⟩ = some (.slice O2 on2 oc2) ∧ Below w.heap.size w wr := ⟨d1, d2, c00, c01, HB.out⟩
        go_upto_region 9 with fail
        go_region_held3 (fun w' => w'.cell? ⟨b1, f1 + k * 2, none⟩ = some (.slice X1a xn1 xc1) ∧ w'.cell? ⟨b1, f1 + k * 2 + 1, none⟩ = some (.slice X2a xn2 xc2) ∧ w'.cell? ⟨g0, 0, none⟩ = some (.slice O1 on1 oc1) ∧ w'.cell? ⟨g0, 1, none⟩ = some (.slice O2 on2 oc2) ∧ Below w.heap.size w w') (first | (exact keepF (by assumption) (by assumption)) | (exact keepF (by assumption) (below_drewN (Below.refl _ _) 1)))
          (first | (go_at_call 24; refine (rsout_any _ (HVx.out _ (blE (by assumption))).out (HVo.out _ (blE (by assumption))).out (Nat.le_refl _)).mono ?_; rintro e Y9 ⟨he9, hb⟩; rw [← HBB.out] at he9; subst he9))
        rename_i hHeld
        clear d1 d2 hS
        replace hb := chain (below_drewN (Below.refl _ wr) 1) hb
        replace c00 := kc hb c00
        replace c01 := kc hb c01
        replace HB := Lib.hid (chain HB.out hb)
        replace HZ1 := Lib.hid ((HZ1.out.below hb).more hb.size)
        replace HX := Lib.hid (chain HX.out hb)
        clear hb hHeld
        obtain ⟨d1, d2⟩ := HC.out _ HB.out
        go_wp2_with fail
        have C := ohas_any Y9 HZ1.out (HVx.out _ HB.out).out (Nat.le_refl _) (by have := HZN.out; have := HN1.out; omega) HS1.out
        rw [show decide (xo ∈ os z1) = true from decide_eq_true HIN.out] at C
        refine C.mono ?_
        rintro e X6 ⟨rfl, hb⟩
        replace hb := hb.1
        clear C
        replace c00 := kc hb c00
        replace c01 := kc hb c01
        replace HB := Lib.hid (chain HB.out hb)
        replace HZ1 := Lib.hid ((HZ1.out.below hb).more hb.size)
        replace HX := Lib.hid (chain HX.out hb)
        clear hb
        clear d1 d2
        go_wp2
        go_roundw
        case rel => exact ⟨k + 1, bb, by omega, rfl, by go_num, HDN, HX.out⟩
        case measure => simp [intOf]; omega
      · skip
        have HDN := Lib.hid (show true = decide (oo ∈ os (l.take (k + 1))) from (decide_eq_true (HTK.out.2 (.inl (of_decide_eq_true HDD.out.symm)))).symm)
        obtain ⟨d1, d2⟩ := HC.out _ HB.out
        go_upto_region 9 with fail
        refine wp_region_held_drew (S := (fun w' => Below wr.heap.size wr w')) (by kernel_rfl) (below_drewN (Below.refl _ _) 1) (fun hHeld => ?_)
        refine wtk 0 ?_ ?_ ?_
        rotate_left
        · intro w hSw; (try dsimp only at hSw); go_simp; (try with_reducible rfl)
        (try simp only [Act.put, pt8])
        refine wtk 1 ?_ ?_ ?_
        rotate_left
        · intro w hSw; (try dsimp only at hSw); go_simp; (try with_reducible rfl)
        (try simp only [Act.put, pt8])
        refine wpAnyH_take (i := 2) (v := undef) rfl (by kernel_rfl) (by kernel_rfl) (by kernel_rfl) (fun _ _ _ h => h) (Or.inr ⟨by rfl, rfl⟩) (by assumption) ?_
        (try simp only [Act.put, pt8])
        refine wpAnyH_take (i := 3) (v := undef) rfl (by kernel_rfl) (by kernel_rfl) (by kernel_rfl) (fun _ _ _ h => h) (Or.inr ⟨by rfl, rfl⟩) (by assumption) ?_
        (try simp only [Act.put, pt8])
        refine wpAnyH_take (i := 4) (v := undef) rfl (by kernel_rfl) (by kernel_rfl) (by kernel_rfl) (fun _ _ _ h => h) (Or.inr ⟨by rfl, rfl⟩) (by assumption) ?_
        (try simp only [Act.put, pt8])
        refine wpAnyH_take (i := 5) (v := undef) rfl (by kernel_rfl) (by kernel_rfl) (by kernel_rfl) (fun _ _ _ h => h) (Or.inr ⟨by rfl, rfl⟩) (by assumption) ?_
        (try simp only [Act.put, pt8])
        refine wpAnyH_take (i := 6) (v := undef) rfl (by kernel_rfl) (by kernel_rfl) (by kernel_rfl) (fun _ _ _ h => h) (Or.inr ⟨by rfl, rfl⟩) (by assumption) ?_
        (try simp only [Act.put, pt8])
        refine wpAnyH_take (i := 7) (v := undef) rfl (by kernel_rfl) (by kernel_rfl) (by kernel_rfl) (fun _ _ _ h => h) (Or.inr ⟨by rfl, rfl⟩) (by assumption) ?_
        (try simp only [Act.put, pt8])
        refine wtk 8 ?_ ?_ ?_
        rotate_left
        · intro w hSw; (try dsimp only at hSw); go_simp; (try with_reducible rfl)
        (try simp only [Act.put, pt8])
        refine wpAnyH_ready (rs := [9]) (by kernel_rfl) (by simp) ?_
        refine AllReadyH.cons rfl (fun K hK => ?_) AllReadyH.nil
        go_simp
        refine hK.out _ _ hHeld (fun hHeld => ?_)
        clear hK K
        (try simp only [Act.put, pt8])
        refine wpAnyH_done (by kernel_rfl) ?_ _
        clear hHeld
        obtain ⟨Y9, hY9⟩ : ∃ W, W = wr.drew := ⟨_, rfl⟩
        have hb : Below wr.heap.size wr Y9 := by rw [hY9]; exact below_drewN (Below.refl _ _) 1
        rw [← hY9]
        clear hY9 d1 d2
        replace c00 := kc hb c00
        replace c01 := kc hb c01
        replace HB := Lib.hid (chain HB.out hb)
        replace HZ1 := Lib.hid ((HZ1.out.below hb).more hb.size)
        replace HX := Lib.hid (chain HX.out hb)
        clear hb
        obtain ⟨d1, d2⟩ := HC.out _ HB.out
        go_wp2_with fail
        have C := ohas_any Y9 HZ1.out (HVx.out _ HB.out).out (Nat.le_refl _) (by have := HZN.out; have := HN1.out; omega) HS1.out
        rw [show decide (xo ∈ os z1) = true from decide_eq_true HIN.out] at C
        refine C.mono ?_
        rintro e X7 ⟨rfl, hb⟩
        replace hb := hb.1
        clear C
        replace c00 := kc hb c00
        replace c01 := kc hb c01
        replace HB := Lib.hid (chain HB.out hb)
        replace HZ1 := Lib.hid ((HZ1.out.below hb).more hb.size)
        replace HX := Lib.hid (chain HX.out hb)
        clear hb
        clear d1 d2
        go_wp2
        go_roundw
        case rel => exact ⟨k + 1, true, by omega, rfl, by go_num, HDN, HX.out⟩
        case measure => simp [intOf]; omega
    · skip
      obtain rfl : ln = k := by omega
      have HDE := Lib.hid (show decide (oo ∈ os z1) = d from by rw [HDD.out, decide_eq_decide, HM1.out, ofO_mem, List.take_of_length_le (by have := HNl.out; omega)])
      clear HDD HX
      go_wp2_with fail
      have C := oset_any wr HZ1.out (Nat.le_refl _) (by have := HZN.out; have := HN1.out; omega)
      rw [E1.out] at C
      refine C.mono ?_
      rintro e X8 ⟨rfl, hb⟩
      replace hb := hb.1
      clear C
      replace c00 := kc hb c00
      replace c01 := kc hb c01
      replace HB := Lib.hid (chain HB.out hb)
      replace HZ1 := Lib.hid ((HZ1.out.below hb).more hb.size)
      clear hb
      go_wp2_with fail
      have C := rset_any X8 HZ1.out (Nat.le_refl _) (by have := HZN.out; have := HN1.out; omega)
      rw [E1.out] at C
      refine C.mono ?_
      rintro e X9 ⟨rfl, hb⟩
      clear C
      replace c00 := kc hb c00
      replace c01 := kc hb c01
      replace HB := Lib.hid (chain HB.out hb)
      replace HZ1 := Lib.hid ((HZ1.out.below hb).more hb.size)
      clear hb
      go_wp2_with fail
      have C := ohas_any X9 HZ1.out (HVo.out _ HB.out).out (Nat.le_refl _) (by have := HZN.out; have := HN1.out; omega) HS1.out
      rw [HDE.out] at C
      refine C.mono ?_
      rintro e X10 ⟨rfl, hb⟩
      replace hb := hb.1
      clear C
      replace c00 := kc hb c00
      replace c01 := kc hb c01
      replace HB := Lib.hid (chain HB.out hb)
      replace HZ1 := Lib.hid ((HZ1.out.below hb).more hb.size)
      clear hb
      have hbd : (d == d) = true := by simp
      go_wp2_with fail
      have C := oof_any X10 HZ1.out (Nat.le_refl _) (by have := HZN.out; have := HN1.out; omega) (fun x hx => by
        have h1 : x.o ∈ os z1 := List.mem_map.2 ⟨x, hx, rfl⟩
        rw [HM1.out, ofO_mem] at h1
        obtain ⟨y, hy, e⟩ := List.mem_map.1 h1
        have := HFl.out.sm y hy
        rwa [e] at this)
      refine C.mono ?_
      rintro e X11 ⟨u2, z2, rfl, hz2, ho2, hb⟩
      clear C
      replace c00 := kc hb c00
      replace c01 := kc hb c01
      replace HB := Lib.hid (chain HB.out hb)
      replace HZ1 := Lib.hid ((HZ1.out.below hb).more hb.size)
      have HZ2 := Lib.hid (show OutsX X11.heap.size X11 u2 z2 from ho2.outs)
      obtain ⟨A8, d8, rfl⟩ := own_slice ho2.1
      have HM2 := Lib.hid (show os z2 = os z1 from by rw [hz2, ofO_self HS1.out])
      clear hz2 ho2
      clear hb
      go_wp2_with fail
      have C := rsame_any X11 HZ2.out HZ1.out (Nat.le_refl _) (by have h1 := congrArg List.length HM2.out; have := HZN.out; have := HN1.out; simp at h1; omega) (by have := HZN.out; have := HN1.out; omega)
      rw [show decide (os z2 = os z1) = true from decide_eq_true HM2.out] at C
      refine C.mono ?_
      rintro e X12 ⟨rfl, hb⟩
      clear C
      replace c00 := kc hb c00
      replace c01 := kc hb c01
      replace HB := Lib.hid (chain HB.out hb)
      replace HZ1 := Lib.hid ((HZ1.out.below hb).more hb.size)
      replace HZ2 := Lib.hid ((HZ2.out.below hb).more hb.size)
      clear hb
      have hzl : (zn : Int) ≤ (ln : Int) := by have := HL1.out; have := HNl.out; omega
      go_wp2
      go_ret
      exact ⟨rfl, HB.out⟩
end Go.Proofs.Ytodpajnpnobfmaa
