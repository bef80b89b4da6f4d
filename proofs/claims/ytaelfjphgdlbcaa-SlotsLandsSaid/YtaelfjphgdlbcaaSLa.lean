/-
  SlotsLands, as a walk: it returns true.
-/
import Derived.Test.YtaelfjphgdlbcaaSHd
import Derived.Test.YtaelfjphgdlbcaaSlK
import Derived.Test.YtaelfjphgdlbcaaSDh
import Derived.Deep.RegionHeld3
import Derived.Deep.DeepCutAuto
namespace Go.Proofs.Ytaelfjphgdlbcaa
open Go.RowKit
set_option linter.unusedVariables false
set_option linter.unusedSimpArgs false
open WordM (L)
open VM
open CodM (St Pg hasS)
open SlM

theorem stAt_far {W W' : World} {b f : Nat} {s : St} (hW : Below W.heap.size W W') (hb : b < W.heap.size) (h : StAt W b f s) : StAt W' b f s :=
  ⟨(hW.cell (p := ⟨b, f, none⟩) hb).trans h.1, (hW.cell (p := ⟨b, f + 1, none⟩) hb).trans h.2.1, (hW.cell (p := ⟨b, f + 2, none⟩) hb).trans h.2.2.1, (hW.cell (p := ⟨b, f + 3, none⟩) hb).trans h.2.2.2.1, (hW.cell (p := ⟨b, f + 4, none⟩) hb).trans h.2.2.2.2⟩
theorem sss_none (B : Nat) (w : World) : Sss B w (.slice none 0 0) [] := ⟨none, 0, rfl, Nat.le_refl _, by decide, fun k => absurd k (by decide)⟩
theorem SmallC.one {P : Pg} (h : SmallC P) : 1 ≤ P.ths.length ∧ P.ths.length ≤ 3 := by
  have := h.r
  unfold CodM.rightP at this
  simp only [Bool.and_eq_true, decide_eq_true_eq] at this
  exact this.1.2
set_option maxHeartbeats 8000000 in
set_option maxRecDepth 100000 in
theorem sla_law {v vg : Value} {P : Pg} {g : List Int} (w : World) (hv : PgV w.heap.size w v P) (hg : Ints w.heap.size w vg g) :
    Calls Try.prog 8 #[v, vg] w fun e w' => e = .returned (.bool true) ∧ Below w.heap.size w w' := by
  obtain ⟨pi, pt, rfl, hm⟩ := hv
  have HHd := Lib.hid (fun W => shead_any W)
  have HM := Lib.hid (fun W (hW : Below w.heap.size w W) => show PgM W.heap.size W pi pt P from (hm.below hW).more hW.size)
  have HG := Lib.hid (fun W (hW : Below w.heap.size w W) => show Ints W.heap.size W vg g from (hg.below hW).more hW.size)
  obtain ⟨AG, cg, rfl, hg1, hg2, -⟩ := hg
  unfold maxLen at hg2
  have HGP := Lib.hid (fun W (hW : Below w.heap.size w W) => sgreat_any W ⟨pi, pt, rfl, HM.out W hW⟩ (Nat.le_refl _))
  obtain ⟨⟨P0, d0, rfl, -⟩, ⟨P1, d1, rfl, l1, l2, l3⟩⟩ := hm
  unfold maxLen at l2
  have hB := below_al (Below.refl w.heap.size w) (.cells #[.slice P0 P.init.length d0, .slice P1 P.ths.length d1] 25)
  have HP := Lib.hid (PgBox.at (w := w) rfl (.slice P0 P.init.length d0) (.slice P1 P.ths.length d1) 25)
  obtain ⟨x0, x1⟩ := HP.out
  go_enter Try.func8, Try.ntmps8
  go_wp2_with fail
  refine (HHd.out _).mono ?_
  rintro e w1 ⟨rfl, hbb⟩
  replace hB := chain hB hbb
  replace HP := Lib.hid (HP.out.below hbb)
  clear x0 x1 hbb HHd
  obtain ⟨x0, x1⟩ := HP.out
  go_wp2_with fail
  refine (HGP.out _ hB).mono ?_
  rintro e w2 ⟨gb, rfl, hsx, hbb⟩
  replace hB := chain hB hbb
  replace HP := Lib.hid (HP.out.below hbb)
  clear x0 x1 hbb HGP
  obtain ⟨x0, x1⟩ := HP.out
  cases gb
  case true =>
    go_wp2
    go_ret
    exact ⟨rfl, hB⟩
  have HS := Lib.hid (hsx rfl)
  clear hsx
  have HL := Lib.hid (show P.ths.length ≤ 1000000 from by have := HS.out.s.ths; omega)
  have HLL := Lib.hid (show ∀ ss ∈ P.ths, ss.length ≤ 1000000 from fun ss hs => by have := HS.out.f ss hs; omega)
  by_cases hgl : 100 < g.length
  · have q : decide (100 < g.length) = true := decide_eq_true hgl
    go_wp2
    go_ret
    exact ⟨rfl, hB⟩
  have q : decide (100 < g.length) = false := decide_eq_false hgl
  have HIn := Lib.hid (insert_any (P := P) (g := g) _ ⟨_, _, rfl, HM.out _ hB⟩ (HG.out _ hB) (Nat.le_refl _) (by have := HS.out.s.init; omega) HL.out HLL.out (by omega) HS.out.jmp)
  obtain ⟨hth1, hth3⟩ := HS.out.one
  obtain ⟨b1, f1, rfl, hb1, hcl⟩ := l3 (by omega)
  have HCL := Lib.hid hcl
  clear hcl l3
  go_wp2_with fail
  refine HIn.out.mono ?_
  rintro e w3 ⟨u, rfl, hQ, hbb⟩
  have HRW := Lib.hid (fun t (ht : t < P.ths.length) => rw_of HS.out g ht)
  have HCH := Lib.hid (fun t k (ht : t < P.ths.length) (hk : k < P.ths[t].length) => ch_has g ht hk)
  have hQL : (insP P g).ths.length = P.ths.length := insP_len P g
  obtain ⟨vi, vt, rfl, hQi, AR, nR, rfl, m1, m2, m3⟩ := hQ
  obtain ⟨bR, fR, rfl, hbR, hcR⟩ := m3 (by omega)
  have HCR := Lib.hid hcR
  have hQi' : Ints w3.heap.size w3 vi P.init := hQi
  obtain ⟨AQ, nQ, rfl, -⟩ := id hQi'
  rw [hQL]
  have HQI := Lib.hid hQi'
  replace hB := chain hB hbb
  replace HP := Lib.hid (HP.out.below hbb)
  clear x0 x1 hbb HIn hQi hQi' hcR m1 m2 m3
  go_upto_region 5 with fail
  have hbb := below_al (Below.refl w3.heap.size w3) (.cells #[.slice AQ P.init.length nQ, .slice (some ⟨bR, fR, none⟩) P.ths.length nR] 25)
  have hby := Lib.hid (PgBox.at (w := w3) rfl (.slice AQ P.init.length nQ) (.slice (some ⟨bR, fR, none⟩) P.ths.length nR) 25)
  replace HP := Lib.hid (HP.out.below hbb)
  have HQI2 := Lib.hid ((HQI.out.below hbb).more hbb.size)
  have HB34 := Lib.hid hbb
  replace hB := chain hB hbb
  generalize w3.alloc (.cells #[.slice AQ P.init.length nQ, .slice (some ⟨bR, fR, none⟩) P.ths.length nR] 25) = w4 at *
  clear hbb
  obtain ⟨gq, hgq⟩ : ∃ g, g = w3.heap.size := ⟨_, rfl⟩
  rw [← hgq] at hby ⊢
  clear hgq
  have HSm := Lib.hid (rsame_any (P := ⟨P.init, []⟩) w4 ⟨_, _, rfl, HQI2.out, sss_none _ _⟩ ⟨_, _, rfl, (HM.out _ hB).1, sss_none _ _⟩ (Nat.le_refl _))
  obtain ⟨x0, x1⟩ := HP.out
  obtain ⟨y0, y1⟩ := hby.out
  go_wp2_with fail
  refine HSm.out.mono ?_
  rintro e w5 ⟨rfl, hbb⟩
  have HB5 := Lib.hid (chain hB hbb)
  have HB35 := Lib.hid (chain HB34.out hbb)
  have HPX := Lib.hid (fun W (hW : Below w5.heap.size w5 W) => (HP.out.below hbb).below hW)
  have HQX := Lib.hid (fun W (hW : Below w5.heap.size w5 W) => (hby.out.below hbb).below hW)
  have HGW := Lib.hid (fun W (hW : Below w5.heap.size w5 W) => HG.out _ (chain HB5.out hW))
  have HF := Lib.hid HS.out.f
  clear x0 x1 y0 y1 hbb HSm HQI2 HQI HB34 HP hby hB HM HG HS HL HLL
  go_wp2
  go_loopw [7, 8] (fun nv i wr => (∃ t m : Nat, t ≤ P.ths.length ∧ i = .int .i64 t ∧ nv = .int .i64 m ∧ m = ahd anyS P.ths t ∧ m ≤ t * 40 ∧ Below w5.heap.size w5 wr)) (fun _ i _ => P.ths.length - (intOf i).toNat)
  case atStart => exact ⟨0, 0, Nat.zero_le _, rfl, rfl, rfl, Nat.le_refl _, Below.refl _ _⟩
  case round =>
    obtain ⟨t, m, ht, rfl, rfl, hm, hmt, hB⟩ := hrel
    obtain ⟨x0, x1⟩ := HPX.out _ hB
    obtain ⟨y0, y1⟩ := HQX.out _ hB
    by_cases hlt : t < P.ths.length
    case neg =>
      obtain rfl : P.ths.length = t := by omega
      have HBF := Lib.hid (chain HB5.out hB)
      clear hm hB
      go_wp2
      go_ret
      exact ⟨rfl, HBF.out⟩
    have HMN := Lib.hid (show m + P.ths[t].length = ahd anyS P.ths (t + 1) from by rw [ahd_any P.ths hlt, ← hm])
    have hl40 := HF.out _ (List.getElem_mem hlt)
    have HRt := Lib.hid (HRW.out t hlt)
    have HCt := Lib.hid (fun k (hk : k < P.ths[t].length) => show has g ((m : Int) + (k : Int)) = ch anyS P.ths g t k from by rw [HCH.out t k hlt hk, ← hm]; rfl)
    obtain ⟨uS, zS, hS⟩ := (HCL.out t hlt).below (chain HB5.out hB) hb1
    obtain ⟨uR, zR, hR⟩ := (HCR.out t (by omega)).below (chain HB35.out hB) hbR
    obtain ⟨ss, hss⟩ : ∃ x, x = P.ths[t] := ⟨_, rfl⟩
    obtain ⟨R, hRR⟩ : ∃ x, x = (insP P g).ths[t]'(by omega) := ⟨_, rfl⟩
    rw [← hss] at HMN hl40 HRt HCt hS
    rw [← hRR] at HRt hR
    generalize ch anyS P.ths g t = cf at *
    generalize bg cf = bf at *
    obtain ⟨A5, c5, rfl, p1, p2, p3⟩ := hS
    obtain ⟨A6, c6, rfl, r1, r2, r3⟩ := hR
    unfold maxLen at p2 r2
    have HSR := Lib.hid p3
    have HRR := Lib.hid r3
    have HB0 := Lib.hid hB
    have hRlen : R.length = bf ss.length := HRt.out.len
    have hRle : R.length ≤ 80 := by have := HRt.out.le ss.length; omega
    have HRL := Lib.hid hRlen
    have HZ := Lib.hid HRt.out.z
    have HmA := Lib.hid hm
    clear hm hB hss hRR hRlen p3 r3
    obtain ⟨i2, hi2, hx1, hx2, hx3⟩ := info_parts info_int
    rename World => w6
    have hwl : w.heap.size ≤ w6.heap.size := (chain HB5.out HB0.out).size
    have hwl3 : w3.heap.size ≤ w6.heap.size := (chain HB35.out HB0.out).size
    have HCE := Lib.hid (fun W (hW : Below w6.heap.size w6 W) => And.intro (HPX.out _ (chain HB0.out hW)) (And.intro (HQX.out _ (chain HB0.out hW)) (And.intro (kc hW zS) (HGW.out _ (chain HB0.out hW)))))
    clear HPX HQX HGW HCL HCR
    go_wp2
    clear x0 x1 y0 y1 zS zR
    go_loopw [7, 10, 11, 12] (fun nv vb av i wq => (∃ k a : Nat, k ≤ ss.length ∧ i = .int .i64 k ∧ nv = .int .i64 ((m + k : Nat) : Int) ∧ av = .int .i64 a ∧ a = bf k ∧ a ≤ 2 * k ∧ wq.ownsRow w6.heap.size 3 1 vb k (intCs (bgs bf k)) ∧ Below w6.heap.size w6 wq)) (fun _ _ _ i _ => ss.length - (intOf i).toNat)
    case atStart => exact ⟨0, 0, Nat.zero_le _, rfl, rfl, rfl, HZ.out.symm, Nat.le_refl _, World.ownsRow_nil _ _ _ _, Below.refl _ _⟩
    case round =>
      obtain ⟨k, a, hk, rfl, rfl, rfl, ha, ha2, hvb, hBq⟩ := hrel
      obtain ⟨Ab, cb, rfl⟩ := own_slice hvb
      have HA := Lib.hid ha
      clear ha
      by_cases hkl : k < ss.length
      · obtain ⟨b5, f5, rfl, hb5, hc5⟩ := HSR.out (by omega)
        obtain ⟨hown, hsame⟩ := HRt.out.own k hkl
        obtain ⟨b6, f6, rfl, hb6, hc6⟩ := HRR.out (by omega)
        have HRC := Lib.hid (fun (e : Nat) (he : e < R.length) W (hW : Below w6.heap.size w6 W) => stAt_far hW (by omega) (hc6 e he))
        have HSC := Lib.hid (fun W (hW : Below w6.heap.size w6 W) => stAt_far hW (by omega) (hc5 k hkl))
        have HOw := Lib.hid (And.intro (HRt.out.own k hkl) (HRt.out.jmp k hkl))
        have HFe := Lib.hid (HRt.out.fen k hkl)
        have HNx := Lib.hid (HRt.out.nx k)
        have HCk := Lib.hid (HCt.out k hkl)
        rw [← HA.out] at HFe HNx
        obtain ⟨s, hs⟩ : ∃ s, s = ss[k] := ⟨_, rfl⟩
        simp only [← hs] at HSC HOw
        clear hc5 hc6 hs hown hsame
        obtain ⟨⟨x0, x1⟩, ⟨y0, y1⟩, zS, hgI⟩ := HCE.out _ hBq
        have HVB := Lib.hid hvb
        have HBQ := Lib.hid hBq
        have hszq := hBq.size
        have hvc := hvb.alloc (.cells #[.int .i64 a] 3)
        have HVC := Lib.hid hvc
        have HNW := Lib.hid (cell_one_new wr (.int .i64 a) 3)
        clear hvb hBq hgI hvc
        go_wp2_with (at_builtin; refine wpList_append_own _ rfl _ _ 22 rfl w6.heap.size 3 i2 (.int .i64 0) 1 8 Try.underlying22 hi2 hx1 hx2 hx3 rfl (by decide) (.slice Ab k cb) k (intCs (bgs bf k)) rfl HVC.out ⟨wr.heap.size, 0, none⟩ 1 1 [.int .i64 a] rfl rfl HNW.out (by simp [Value.oneCell']) (by unfold maxLen; omega) (by omega) (by simp; omega) ?_; intro v1 wz hown1 hg1 _)
        obtain ⟨A1, d1', rfl⟩ := own_slice hown1
        have HBZ := Lib.hid (below_append (below_al HBQ.out (.cells #[.int .i64 a] 3)) HVC.out (Nat.le_refl _) (by simp; omega) hg1)
        have HO1 := Lib.hid (show wz.ownsRow w6.heap.size 3 1 (.slice A1 (k + 1) d1') (k + 1) (intCs (bgs bf (k + 1))) from by rw [bgs_next, intCs_app, ← HA.out]; exact hown1)
        clear hown1 hg1 HVC HVB HNW x0 x1 y0 y1 zS
        refine (rhas_any ((m : Int) + (k : Int)) _ (HCE.out _ HBZ.out).2.2.2 (Nat.le_refl _)).mono ?_
        rintro e w7 ⟨rfl, rfl⟩
        rw [HCk.out]
        obtain ⟨⟨x0, x1⟩, ⟨y0, y1⟩, zS, -⟩ := HCE.out _ HBZ.out
        cases hck : cf k
        case true =>
          obtain ⟨hal, hfe⟩ := HFe.out hck
          have hfc := HRC.out a hal _ HBZ.out
          rw [hfe] at hfc
          obtain ⟨z0, z1, z2, z3, z4⟩ := hfc
          have HN := Lib.hid (show bf (k + 1) = a + 1 + 1 from by rw [HNx.out, hck]; simp)
          clear HFe HNx hfe HCk HCt hck
          have q19 : decide (R.length ≤ a) = false := decide_eq_false (by omega)
          have HOX := Lib.hid (show (∃ h : a + 1 < R.length, s.op < 8 → R[a + 1] = s) ∧ (8 ≤ s.op → ∃ (h : a + 1 < R.length) (tn : Nat), s.5 = (tn : Int) ∧ tn ≤ ss.length ∧ R[a + 1] = ⟨s.op, s.reg, s.loc, s.n, (bf tn : Nat)⟩) from by
            have h := HOw.out
            rw [show bf (k + 1) - 1 = a + 1 from by rw [HN.out]; rfl] at h
            exact h)
          obtain ⟨hel, hsame⟩ := HOX.out.1
          have q22 : decide (R.length ≤ a + 1) = false := decide_eq_false (by omega)
          have hrc := HRC.out (a + 1) hel _ HBZ.out
          by_cases h8 : 8 ≤ s.op
          · have q8 : decide (8 ≤ s.op) = true := decide_eq_true h8
            obtain ⟨_, tn, htn, _, hRe⟩ := HOX.out.2 h8
            rw [hRe] at hrc
            obtain ⟨r0, r1, r2, r3, r4⟩ := hrc
            obtain ⟨s0, s1, s2, s3, s4⟩ := HSC.out _ HBZ.out
            have l0 := lt_of_cell x0
            have l1' := lt_of_cell zS
            have l2' := lt_of_cell s0
            clear hRe hsame HOX HOw htn
            go_upto_region 27 with fail
            have HB8 := Lib.hid (below_al HBZ.out (.cells #[.int .i64 s.op, .int .i64 s.reg, .int .i64 s.loc, .int .i64 s.n, .int .i64 s.5] 53))
            have HX8 := Lib.hid (fun (i : Nat) (v : Value) (h : (#[.int .i64 s.op, .int .i64 s.reg, .int .i64 s.loc, .int .i64 s.n, .int .i64 s.5] : Array Value)[i]? = some v) => (box_1 wz _ 53 i h).1)
            have HO8 := Lib.hid (own_below HO1.out (below_al (Below.refl wz.heap.size wz) (.cells #[.int .i64 s.op, .int .i64 s.reg, .int .i64 s.loc, .int .i64 s.n, .int .i64 s.5] 53)))
            generalize wz.alloc (.cells #[.int .i64 s.op, .int .i64 s.reg, .int .i64 s.loc, .int .i64 s.n, .int .i64 s.5] 53) = W8 at *
            obtain ⟨g8, hg8⟩ : ∃ g, g = wz.heap.size := ⟨_, rfl⟩
            rw [← hg8] at HX8 ⊢
            clear r0 r1 r2 r3 r4 s0 s1 s2 s3 s4 x0 x1 y0 y1 zS hg8
            obtain ⟨⟨x0, x1⟩, -, zS, -⟩ := HCE.out _ HB8.out
            obtain ⟨s0, s1, s2, s3, s4⟩ := HSC.out _ HB8.out
            have r0 := HX8.out 0 _ rfl
            have r1 := HX8.out 1 _ rfl
            have r2 := HX8.out 2 _ rfl
            have r3 := HX8.out 3 _ rfl
            have r4 := HX8.out 4 _ rfl
            clear x0
            refine wp_region_held_drew (S := (fun w' => w'.cell? ⟨g8, 0, none⟩ = some (.int .i64 s.op) ∧ w'.cell? ⟨g8, 1, none⟩ = some (.int .i64 s.reg) ∧ w'.cell? ⟨g8, 2, none⟩ = some (.int .i64 s.loc) ∧ w'.cell? ⟨g8, 3, none⟩ = some (.int .i64 s.n) ∧ w'.cell? ⟨g8, 4, none⟩ = some (.int .i64 s.5) ∧ w'.cell? ⟨w.heap.size, 1, none⟩ = some (.slice (some ⟨b1, f1, none⟩) P.ths.length d1) ∧ w'.cell? ⟨b1, f1 + t, none⟩ = some (.slice (some ⟨b5, f5, none⟩) ss.length c5) ∧ w'.cell? ⟨b5, f5 + k * 5, none⟩ = some (.int .i64 s.op) ∧ w'.cell? ⟨b5, f5 + k * 5 + 1, none⟩ = some (.int .i64 s.reg) ∧ w'.cell? ⟨b5, f5 + k * 5 + 2, none⟩ = some (.int .i64 s.loc) ∧ w'.cell? ⟨b5, f5 + k * 5 + 3, none⟩ = some (.int .i64 s.n) ∧ w'.cell? ⟨b5, f5 + k * 5 + 4, none⟩ = some (.int .i64 s.5))) (by kernel_rfl) ⟨r0, r1, r2, r3, r4, x1, zS, s0, s1, s2, s3, s4⟩ (fun hHeld => ?_)
            refine wpAnyH_take (i := 0) (v := ?_) rfl (by kernel_rfl) (by kernel_rfl) (by kernel_rfl) (fun _ _ _ h => h) (Or.inl ⟨by rfl, ?_⟩) (by assumption) ?_
            rotate_left
            · intro w hSw; (try dsimp only at hSw); go_simp; (try with_reducible rfl)
            (try simp only [Act.put, List.getElem_toArray, List.getElem_cons_zero, List.getElem_cons_succ, Array.getInternal_eq_getElem, List.setIfInBounds_toArray, List.set_cons_zero, List.set_cons_succ])
            refine wpAnyH_take (i := 1) (v := ?_) rfl (by kernel_rfl) (by kernel_rfl) (by kernel_rfl) (fun _ _ _ h => h) (Or.inl ⟨by rfl, ?_⟩) (by assumption) ?_
            rotate_left
            · intro w hSw; (try dsimp only at hSw); go_simp; (try with_reducible rfl)
            (try simp only [Act.put, List.getElem_toArray, List.getElem_cons_zero, List.getElem_cons_succ, Array.getInternal_eq_getElem, List.setIfInBounds_toArray, List.set_cons_zero, List.set_cons_succ])
            refine wpAnyH_take (i := 2) (v := ?_) rfl (by kernel_rfl) (by kernel_rfl) (by kernel_rfl) (fun _ _ _ h => h) (Or.inl ⟨by rfl, ?_⟩) (by assumption) ?_
            rotate_left
            · intro w hSw; (try dsimp only at hSw); go_simp; (try with_reducible rfl)
            (try simp only [Act.put, List.getElem_toArray, List.getElem_cons_zero, List.getElem_cons_succ, Array.getInternal_eq_getElem, List.setIfInBounds_toArray, List.set_cons_zero, List.set_cons_succ])
            refine wpAnyH_take (i := 3) (v := ?_) rfl (by kernel_rfl) (by kernel_rfl) (by kernel_rfl) (fun _ _ _ h => h) (Or.inl ⟨by rfl, ?_⟩) (by assumption) ?_
            rotate_left
            · intro w hSw; (try dsimp only at hSw); go_simp; (try with_reducible rfl)
            (try simp only [Act.put, List.getElem_toArray, List.getElem_cons_zero, List.getElem_cons_succ, Array.getInternal_eq_getElem, List.setIfInBounds_toArray, List.set_cons_zero, List.set_cons_succ])
            refine wpAnyH_take (i := 4) (v := ?_) rfl (by kernel_rfl) (by kernel_rfl) (by kernel_rfl) (fun _ _ _ h => h) (Or.inl ⟨by rfl, ?_⟩) (by assumption) ?_
            rotate_left
            · intro w hSw; (try dsimp only at hSw); go_simp; (try with_reducible rfl)
            (try simp only [Act.put, List.getElem_toArray, List.getElem_cons_zero, List.getElem_cons_succ, Array.getInternal_eq_getElem, List.setIfInBounds_toArray, List.set_cons_zero, List.set_cons_succ])
            refine wpAnyH_take (i := 5) (v := ?_) rfl (by kernel_rfl) (by kernel_rfl) (by kernel_rfl) (fun _ _ _ h => h) (Or.inl ⟨by rfl, ?_⟩) (by assumption) ?_
            rotate_left
            · intro w hSw; (try dsimp only at hSw); go_simp; (try with_reducible rfl)
            (try simp only [Act.put, List.getElem_toArray, List.getElem_cons_zero, List.getElem_cons_succ, Array.getInternal_eq_getElem, List.setIfInBounds_toArray, List.set_cons_zero, List.set_cons_succ])
            refine wpAnyH_take (i := 6) (v := ?_) rfl (by kernel_rfl) (by kernel_rfl) (by kernel_rfl) (fun _ _ _ h => h) (Or.inl ⟨by rfl, ?_⟩) (by assumption) ?_
            rotate_left
            · intro w hSw; (try dsimp only at hSw); go_simp; (try with_reducible rfl)
            (try simp only [Act.put, List.getElem_toArray, List.getElem_cons_zero, List.getElem_cons_succ, Array.getInternal_eq_getElem, List.setIfInBounds_toArray, List.set_cons_zero, List.set_cons_succ])
            refine wpAnyH_take (i := 7) (v := ?_) rfl (by kernel_rfl) (by kernel_rfl) (by kernel_rfl) (fun _ _ _ h => h) (Or.inl ⟨by rfl, ?_⟩) (by assumption) ?_
            rotate_left
            · intro w hSw; (try dsimp only at hSw); go_simp; (try with_reducible rfl)
            (try simp only [Act.put, List.getElem_toArray, List.getElem_cons_zero, List.getElem_cons_succ, Array.getInternal_eq_getElem, List.setIfInBounds_toArray, List.set_cons_zero, List.set_cons_succ])
            refine wpAnyH_take (i := 8) (v := ?_) rfl (by kernel_rfl) (by kernel_rfl) (by kernel_rfl) (fun _ _ _ h => h) (Or.inl ⟨by rfl, ?_⟩) (by assumption) ?_
            rotate_left
            · intro w hSw; (try dsimp only at hSw); go_simp; (try with_reducible rfl)
            (try simp only [Act.put, List.getElem_toArray, List.getElem_cons_zero, List.getElem_cons_succ, Array.getInternal_eq_getElem, List.setIfInBounds_toArray, List.set_cons_zero, List.set_cons_succ])
            refine wpAnyH_take (i := 9) (v := ?_) rfl (by kernel_rfl) (by kernel_rfl) (by kernel_rfl) (fun _ _ _ h => h) (Or.inl ⟨by rfl, ?_⟩) (by assumption) ?_
            rotate_left
            · intro w hSw; (try dsimp only at hSw); go_simp; (try with_reducible rfl)
            (try simp only [Act.put, List.getElem_toArray, List.getElem_cons_zero, List.getElem_cons_succ, Array.getInternal_eq_getElem, List.setIfInBounds_toArray, List.set_cons_zero, List.set_cons_succ])
            refine wpAnyH_done (by kernel_rfl) ?_ _
            clear hHeld
            have HB9 := Lib.hid (HB8.out.drew)
            have HO9 := Lib.hid (own_below HO8.out (below_drewN (Below.refl W8.heap.size W8) 1))
            clear r0 r1 r2 r3 r4 s0 s1 s2 s3 s4 x1 zS HX8
            go_wp2
            go_roundw
            case rel => exact ⟨k + 1, a + 1 + 1, by omega, by go_num, by go_num, by go_num, HN.out.symm, by omega, HO9.out, HB9.out⟩
            case measure => simp [intOf]; omega
          · have q8 : decide (8 ≤ s.op) = false := decide_eq_false h8
            rw [hsame (by omega)] at hrc
            obtain ⟨r0, r1, r2, r3, r4⟩ := hrc
            obtain ⟨s0, s1, s2, s3, s4⟩ := HSC.out _ HBZ.out
            clear hsame HOX HOw
            go_upto_region 27 with fail
            have HB8 := Lib.hid (below_al HBZ.out (.cells #[.int .i64 s.op, .int .i64 s.reg, .int .i64 s.loc, .int .i64 s.n, .int .i64 s.5] 53))
            have HX8 := Lib.hid (fun (i : Nat) (v : Value) (h : (#[.int .i64 s.op, .int .i64 s.reg, .int .i64 s.loc, .int .i64 s.n, .int .i64 s.5] : Array Value)[i]? = some v) => (box_1 wz _ 53 i h).1)
            have HO8 := Lib.hid (own_below HO1.out (below_al (Below.refl wz.heap.size wz) (.cells #[.int .i64 s.op, .int .i64 s.reg, .int .i64 s.loc, .int .i64 s.n, .int .i64 s.5] 53)))
            generalize wz.alloc (.cells #[.int .i64 s.op, .int .i64 s.reg, .int .i64 s.loc, .int .i64 s.n, .int .i64 s.5] 53) = W8 at *
            obtain ⟨g8, hg8⟩ : ∃ g, g = wz.heap.size := ⟨_, rfl⟩
            rw [← hg8] at HX8 ⊢
            clear r0 r1 r2 r3 r4 s0 s1 s2 s3 s4 x0 x1 y0 y1 zS hg8
            obtain ⟨⟨x0, x1⟩, -, zS, -⟩ := HCE.out _ HB8.out
            obtain ⟨s0, s1, s2, s3, s4⟩ := HSC.out _ HB8.out
            have r0 := HX8.out 0 _ rfl
            have r1 := HX8.out 1 _ rfl
            have r2 := HX8.out 2 _ rfl
            have r3 := HX8.out 3 _ rfl
            have r4 := HX8.out 4 _ rfl
            clear x0
            refine wp_region_held_drew (S := (fun w' => w'.cell? ⟨g8, 0, none⟩ = some (.int .i64 s.op) ∧ w'.cell? ⟨g8, 1, none⟩ = some (.int .i64 s.reg) ∧ w'.cell? ⟨g8, 2, none⟩ = some (.int .i64 s.loc) ∧ w'.cell? ⟨g8, 3, none⟩ = some (.int .i64 s.n) ∧ w'.cell? ⟨g8, 4, none⟩ = some (.int .i64 s.5) ∧ w'.cell? ⟨w.heap.size, 1, none⟩ = some (.slice (some ⟨b1, f1, none⟩) P.ths.length d1) ∧ w'.cell? ⟨b1, f1 + t, none⟩ = some (.slice (some ⟨b5, f5, none⟩) ss.length c5) ∧ w'.cell? ⟨b5, f5 + k * 5, none⟩ = some (.int .i64 s.op) ∧ w'.cell? ⟨b5, f5 + k * 5 + 1, none⟩ = some (.int .i64 s.reg) ∧ w'.cell? ⟨b5, f5 + k * 5 + 2, none⟩ = some (.int .i64 s.loc) ∧ w'.cell? ⟨b5, f5 + k * 5 + 3, none⟩ = some (.int .i64 s.n) ∧ w'.cell? ⟨b5, f5 + k * 5 + 4, none⟩ = some (.int .i64 s.5))) (by kernel_rfl) ⟨r0, r1, r2, r3, r4, x1, zS, s0, s1, s2, s3, s4⟩ (fun hHeld => ?_)
            refine wpAnyH_take (i := 0) (v := ?_) rfl (by kernel_rfl) (by kernel_rfl) (by kernel_rfl) (fun _ _ _ h => h) (Or.inl ⟨by rfl, ?_⟩) (by assumption) ?_
            rotate_left
            · intro w hSw; (try dsimp only at hSw); go_simp; (try with_reducible rfl)
            (try simp only [Act.put, List.getElem_toArray, List.getElem_cons_zero, List.getElem_cons_succ, Array.getInternal_eq_getElem, List.setIfInBounds_toArray, List.set_cons_zero, List.set_cons_succ])
            refine wpAnyH_take (i := 1) (v := ?_) rfl (by kernel_rfl) (by kernel_rfl) (by kernel_rfl) (fun _ _ _ h => h) (Or.inl ⟨by rfl, ?_⟩) (by assumption) ?_
            rotate_left
            · intro w hSw; (try dsimp only at hSw); go_simp; (try with_reducible rfl)
            (try simp only [Act.put, List.getElem_toArray, List.getElem_cons_zero, List.getElem_cons_succ, Array.getInternal_eq_getElem, List.setIfInBounds_toArray, List.set_cons_zero, List.set_cons_succ])
            refine wpAnyH_take (i := 2) (v := ?_) rfl (by kernel_rfl) (by kernel_rfl) (by kernel_rfl) (fun _ _ _ h => h) (Or.inl ⟨by rfl, ?_⟩) (by assumption) ?_
            rotate_left
            · intro w hSw; (try dsimp only at hSw); go_simp; (try with_reducible rfl)
            (try simp only [Act.put, List.getElem_toArray, List.getElem_cons_zero, List.getElem_cons_succ, Array.getInternal_eq_getElem, List.setIfInBounds_toArray, List.set_cons_zero, List.set_cons_succ])
            refine wpAnyH_take (i := 3) (v := ?_) rfl (by kernel_rfl) (by kernel_rfl) (by kernel_rfl) (fun _ _ _ h => h) (Or.inl ⟨by rfl, ?_⟩) (by assumption) ?_
            rotate_left
            · intro w hSw; (try dsimp only at hSw); go_simp; (try with_reducible rfl)
            (try simp only [Act.put, List.getElem_toArray, List.getElem_cons_zero, List.getElem_cons_succ, Array.getInternal_eq_getElem, List.setIfInBounds_toArray, List.set_cons_zero, List.set_cons_succ])
            refine wpAnyH_take (i := 4) (v := ?_) rfl (by kernel_rfl) (by kernel_rfl) (by kernel_rfl) (fun _ _ _ h => h) (Or.inl ⟨by rfl, ?_⟩) (by assumption) ?_
            rotate_left
            · intro w hSw; (try dsimp only at hSw); go_simp; (try with_reducible rfl)
            (try simp only [Act.put, List.getElem_toArray, List.getElem_cons_zero, List.getElem_cons_succ, Array.getInternal_eq_getElem, List.setIfInBounds_toArray, List.set_cons_zero, List.set_cons_succ])
            refine wpAnyH_take (i := 5) (v := ?_) rfl (by kernel_rfl) (by kernel_rfl) (by kernel_rfl) (fun _ _ _ h => h) (Or.inl ⟨by rfl, ?_⟩) (by assumption) ?_
            rotate_left
            · intro w hSw; (try dsimp only at hSw); go_simp; (try with_reducible rfl)
            (try simp only [Act.put, List.getElem_toArray, List.getElem_cons_zero, List.getElem_cons_succ, Array.getInternal_eq_getElem, List.setIfInBounds_toArray, List.set_cons_zero, List.set_cons_succ])
            refine wpAnyH_take (i := 6) (v := ?_) rfl (by kernel_rfl) (by kernel_rfl) (by kernel_rfl) (fun _ _ _ h => h) (Or.inl ⟨by rfl, ?_⟩) (by assumption) ?_
            rotate_left
            · intro w hSw; (try dsimp only at hSw); go_simp; (try with_reducible rfl)
            (try simp only [Act.put, List.getElem_toArray, List.getElem_cons_zero, List.getElem_cons_succ, Array.getInternal_eq_getElem, List.setIfInBounds_toArray, List.set_cons_zero, List.set_cons_succ])
            refine wpAnyH_take (i := 7) (v := ?_) rfl (by kernel_rfl) (by kernel_rfl) (by kernel_rfl) (fun _ _ _ h => h) (Or.inl ⟨by rfl, ?_⟩) (by assumption) ?_
            rotate_left
            · intro w hSw; (try dsimp only at hSw); go_simp; (try with_reducible rfl)
            (try simp only [Act.put, List.getElem_toArray, List.getElem_cons_zero, List.getElem_cons_succ, Array.getInternal_eq_getElem, List.setIfInBounds_toArray, List.set_cons_zero, List.set_cons_succ])
            refine wpAnyH_take (i := 8) (v := ?_) rfl (by kernel_rfl) (by kernel_rfl) (by kernel_rfl) (fun _ _ _ h => h) (Or.inl ⟨by rfl, ?_⟩) (by assumption) ?_
            rotate_left
            · intro w hSw; (try dsimp only at hSw); go_simp; (try with_reducible rfl)
            (try simp only [Act.put, List.getElem_toArray, List.getElem_cons_zero, List.getElem_cons_succ, Array.getInternal_eq_getElem, List.setIfInBounds_toArray, List.set_cons_zero, List.set_cons_succ])
            refine wpAnyH_take (i := 9) (v := ?_) rfl (by kernel_rfl) (by kernel_rfl) (by kernel_rfl) (fun _ _ _ h => h) (Or.inl ⟨by rfl, ?_⟩) (by assumption) ?_
            rotate_left
            · intro w hSw; (try dsimp only at hSw); go_simp; (try with_reducible rfl)
            (try simp only [Act.put, List.getElem_toArray, List.getElem_cons_zero, List.getElem_cons_succ, Array.getInternal_eq_getElem, List.setIfInBounds_toArray, List.set_cons_zero, List.set_cons_succ])
            refine wpAnyH_done (by kernel_rfl) ?_ _
            clear hHeld
            have HB9 := Lib.hid (HB8.out.drew)
            have HO9 := Lib.hid (own_below HO8.out (below_drewN (Below.refl W8.heap.size W8) 1))
            clear r0 r1 r2 r3 r4 s0 s1 s2 s3 s4 x1 zS HX8
            go_wp2
            go_roundw
            case rel => exact ⟨k + 1, a + 1 + 1, by omega, by go_num, by go_num, by go_num, HN.out.symm, by omega, HO9.out, HB9.out⟩
            case measure => simp [intOf]; omega
        case false =>
          have HN := Lib.hid (show bf (k + 1) = a + 1 from by rw [HNx.out, hck]; simp)
          clear HFe HNx HCk HCt hck
          have HOX := Lib.hid (show (∃ h : a < R.length, s.op < 8 → R[a] = s) ∧ (8 ≤ s.op → ∃ (h : a < R.length) (tn : Nat), s.5 = (tn : Int) ∧ tn ≤ ss.length ∧ R[a] = ⟨s.op, s.reg, s.loc, s.n, (bf tn : Nat)⟩) from by
            have h := HOw.out
            rw [show bf (k + 1) - 1 = a from by rw [HN.out]; rfl] at h
            exact h)
          obtain ⟨hel, hsame⟩ := HOX.out.1
          have q22 : decide (R.length ≤ a) = false := decide_eq_false (by omega)
          have hrc := HRC.out (a) hel _ HBZ.out
          by_cases h8 : 8 ≤ s.op
          · have q8 : decide (8 ≤ s.op) = true := decide_eq_true h8
            obtain ⟨_, tn, htn, _, hRe⟩ := HOX.out.2 h8
            rw [hRe] at hrc
            obtain ⟨r0, r1, r2, r3, r4⟩ := hrc
            obtain ⟨s0, s1, s2, s3, s4⟩ := HSC.out _ HBZ.out
            have l0 := lt_of_cell x0
            have l1' := lt_of_cell zS
            have l2' := lt_of_cell s0
            clear hRe hsame HOX HOw htn
            go_upto_region 27 with fail
            have HB8 := Lib.hid (below_al HBZ.out (.cells #[.int .i64 s.op, .int .i64 s.reg, .int .i64 s.loc, .int .i64 s.n, .int .i64 s.5] 53))
            have HX8 := Lib.hid (fun (i : Nat) (v : Value) (h : (#[.int .i64 s.op, .int .i64 s.reg, .int .i64 s.loc, .int .i64 s.n, .int .i64 s.5] : Array Value)[i]? = some v) => (box_1 wz _ 53 i h).1)
            have HO8 := Lib.hid (own_below HO1.out (below_al (Below.refl wz.heap.size wz) (.cells #[.int .i64 s.op, .int .i64 s.reg, .int .i64 s.loc, .int .i64 s.n, .int .i64 s.5] 53)))
            generalize wz.alloc (.cells #[.int .i64 s.op, .int .i64 s.reg, .int .i64 s.loc, .int .i64 s.n, .int .i64 s.5] 53) = W8 at *
            obtain ⟨g8, hg8⟩ : ∃ g, g = wz.heap.size := ⟨_, rfl⟩
            rw [← hg8] at HX8 ⊢
            clear r0 r1 r2 r3 r4 s0 s1 s2 s3 s4 x0 x1 y0 y1 zS hg8
            obtain ⟨⟨x0, x1⟩, -, zS, -⟩ := HCE.out _ HB8.out
            obtain ⟨s0, s1, s2, s3, s4⟩ := HSC.out _ HB8.out
            have r0 := HX8.out 0 _ rfl
            have r1 := HX8.out 1 _ rfl
            have r2 := HX8.out 2 _ rfl
            have r3 := HX8.out 3 _ rfl
            have r4 := HX8.out 4 _ rfl
            clear x0
            refine wp_region_held_drew (S := (fun w' => w'.cell? ⟨g8, 0, none⟩ = some (.int .i64 s.op) ∧ w'.cell? ⟨g8, 1, none⟩ = some (.int .i64 s.reg) ∧ w'.cell? ⟨g8, 2, none⟩ = some (.int .i64 s.loc) ∧ w'.cell? ⟨g8, 3, none⟩ = some (.int .i64 s.n) ∧ w'.cell? ⟨g8, 4, none⟩ = some (.int .i64 s.5) ∧ w'.cell? ⟨w.heap.size, 1, none⟩ = some (.slice (some ⟨b1, f1, none⟩) P.ths.length d1) ∧ w'.cell? ⟨b1, f1 + t, none⟩ = some (.slice (some ⟨b5, f5, none⟩) ss.length c5) ∧ w'.cell? ⟨b5, f5 + k * 5, none⟩ = some (.int .i64 s.op) ∧ w'.cell? ⟨b5, f5 + k * 5 + 1, none⟩ = some (.int .i64 s.reg) ∧ w'.cell? ⟨b5, f5 + k * 5 + 2, none⟩ = some (.int .i64 s.loc) ∧ w'.cell? ⟨b5, f5 + k * 5 + 3, none⟩ = some (.int .i64 s.n) ∧ w'.cell? ⟨b5, f5 + k * 5 + 4, none⟩ = some (.int .i64 s.5))) (by kernel_rfl) ⟨r0, r1, r2, r3, r4, x1, zS, s0, s1, s2, s3, s4⟩ (fun hHeld => ?_)
            refine wpAnyH_take (i := 0) (v := ?_) rfl (by kernel_rfl) (by kernel_rfl) (by kernel_rfl) (fun _ _ _ h => h) (Or.inl ⟨by rfl, ?_⟩) (by assumption) ?_
            rotate_left
            · intro w hSw; (try dsimp only at hSw); go_simp; (try with_reducible rfl)
            (try simp only [Act.put, List.getElem_toArray, List.getElem_cons_zero, List.getElem_cons_succ, Array.getInternal_eq_getElem, List.setIfInBounds_toArray, List.set_cons_zero, List.set_cons_succ])
            refine wpAnyH_take (i := 1) (v := ?_) rfl (by kernel_rfl) (by kernel_rfl) (by kernel_rfl) (fun _ _ _ h => h) (Or.inl ⟨by rfl, ?_⟩) (by assumption) ?_
            rotate_left
            · intro w hSw; (try dsimp only at hSw); go_simp; (try with_reducible rfl)
            (try simp only [Act.put, List.getElem_toArray, List.getElem_cons_zero, List.getElem_cons_succ, Array.getInternal_eq_getElem, List.setIfInBounds_toArray, List.set_cons_zero, List.set_cons_succ])
            refine wpAnyH_take (i := 2) (v := ?_) rfl (by kernel_rfl) (by kernel_rfl) (by kernel_rfl) (fun _ _ _ h => h) (Or.inl ⟨by rfl, ?_⟩) (by assumption) ?_
            rotate_left
            · intro w hSw; (try dsimp only at hSw); go_simp; (try with_reducible rfl)
            (try simp only [Act.put, List.getElem_toArray, List.getElem_cons_zero, List.getElem_cons_succ, Array.getInternal_eq_getElem, List.setIfInBounds_toArray, List.set_cons_zero, List.set_cons_succ])
            refine wpAnyH_take (i := 3) (v := ?_) rfl (by kernel_rfl) (by kernel_rfl) (by kernel_rfl) (fun _ _ _ h => h) (Or.inl ⟨by rfl, ?_⟩) (by assumption) ?_
            rotate_left
            · intro w hSw; (try dsimp only at hSw); go_simp; (try with_reducible rfl)
            (try simp only [Act.put, List.getElem_toArray, List.getElem_cons_zero, List.getElem_cons_succ, Array.getInternal_eq_getElem, List.setIfInBounds_toArray, List.set_cons_zero, List.set_cons_succ])
            refine wpAnyH_take (i := 4) (v := ?_) rfl (by kernel_rfl) (by kernel_rfl) (by kernel_rfl) (fun _ _ _ h => h) (Or.inl ⟨by rfl, ?_⟩) (by assumption) ?_
            rotate_left
            · intro w hSw; (try dsimp only at hSw); go_simp; (try with_reducible rfl)
            (try simp only [Act.put, List.getElem_toArray, List.getElem_cons_zero, List.getElem_cons_succ, Array.getInternal_eq_getElem, List.setIfInBounds_toArray, List.set_cons_zero, List.set_cons_succ])
            refine wpAnyH_take (i := 5) (v := ?_) rfl (by kernel_rfl) (by kernel_rfl) (by kernel_rfl) (fun _ _ _ h => h) (Or.inl ⟨by rfl, ?_⟩) (by assumption) ?_
            rotate_left
            · intro w hSw; (try dsimp only at hSw); go_simp; (try with_reducible rfl)
            (try simp only [Act.put, List.getElem_toArray, List.getElem_cons_zero, List.getElem_cons_succ, Array.getInternal_eq_getElem, List.setIfInBounds_toArray, List.set_cons_zero, List.set_cons_succ])
            refine wpAnyH_take (i := 6) (v := ?_) rfl (by kernel_rfl) (by kernel_rfl) (by kernel_rfl) (fun _ _ _ h => h) (Or.inl ⟨by rfl, ?_⟩) (by assumption) ?_
            rotate_left
            · intro w hSw; (try dsimp only at hSw); go_simp; (try with_reducible rfl)
            (try simp only [Act.put, List.getElem_toArray, List.getElem_cons_zero, List.getElem_cons_succ, Array.getInternal_eq_getElem, List.setIfInBounds_toArray, List.set_cons_zero, List.set_cons_succ])
            refine wpAnyH_take (i := 7) (v := ?_) rfl (by kernel_rfl) (by kernel_rfl) (by kernel_rfl) (fun _ _ _ h => h) (Or.inl ⟨by rfl, ?_⟩) (by assumption) ?_
            rotate_left
            · intro w hSw; (try dsimp only at hSw); go_simp; (try with_reducible rfl)
            (try simp only [Act.put, List.getElem_toArray, List.getElem_cons_zero, List.getElem_cons_succ, Array.getInternal_eq_getElem, List.setIfInBounds_toArray, List.set_cons_zero, List.set_cons_succ])
            refine wpAnyH_take (i := 8) (v := ?_) rfl (by kernel_rfl) (by kernel_rfl) (by kernel_rfl) (fun _ _ _ h => h) (Or.inl ⟨by rfl, ?_⟩) (by assumption) ?_
            rotate_left
            · intro w hSw; (try dsimp only at hSw); go_simp; (try with_reducible rfl)
            (try simp only [Act.put, List.getElem_toArray, List.getElem_cons_zero, List.getElem_cons_succ, Array.getInternal_eq_getElem, List.setIfInBounds_toArray, List.set_cons_zero, List.set_cons_succ])
            refine wpAnyH_take (i := 9) (v := ?_) rfl (by kernel_rfl) (by kernel_rfl) (by kernel_rfl) (fun _ _ _ h => h) (Or.inl ⟨by rfl, ?_⟩) (by assumption) ?_
            rotate_left
            · intro w hSw; (try dsimp only at hSw); go_simp; (try with_reducible rfl)
            (try simp only [Act.put, List.getElem_toArray, List.getElem_cons_zero, List.getElem_cons_succ, Array.getInternal_eq_getElem, List.setIfInBounds_toArray, List.set_cons_zero, List.set_cons_succ])
            refine wpAnyH_done (by kernel_rfl) ?_ _
            clear hHeld
            have HB9 := Lib.hid (HB8.out.drew)
            have HO9 := Lib.hid (own_below HO8.out (below_drewN (Below.refl W8.heap.size W8) 1))
            clear r0 r1 r2 r3 r4 s0 s1 s2 s3 s4 x1 zS HX8
            go_wp2
            go_roundw
            case rel => exact ⟨k + 1, a + 1, by omega, by go_num, by go_num, by go_num, HN.out.symm, by omega, HO9.out, HB9.out⟩
            case measure => simp [intOf]; omega
          · have q8 : decide (8 ≤ s.op) = false := decide_eq_false h8
            rw [hsame (by omega)] at hrc
            obtain ⟨r0, r1, r2, r3, r4⟩ := hrc
            obtain ⟨s0, s1, s2, s3, s4⟩ := HSC.out _ HBZ.out
            clear hsame HOX HOw
            go_upto_region 27 with fail
            have HB8 := Lib.hid (below_al HBZ.out (.cells #[.int .i64 s.op, .int .i64 s.reg, .int .i64 s.loc, .int .i64 s.n, .int .i64 s.5] 53))
            have HX8 := Lib.hid (fun (i : Nat) (v : Value) (h : (#[.int .i64 s.op, .int .i64 s.reg, .int .i64 s.loc, .int .i64 s.n, .int .i64 s.5] : Array Value)[i]? = some v) => (box_1 wz _ 53 i h).1)
            have HO8 := Lib.hid (own_below HO1.out (below_al (Below.refl wz.heap.size wz) (.cells #[.int .i64 s.op, .int .i64 s.reg, .int .i64 s.loc, .int .i64 s.n, .int .i64 s.5] 53)))
            generalize wz.alloc (.cells #[.int .i64 s.op, .int .i64 s.reg, .int .i64 s.loc, .int .i64 s.n, .int .i64 s.5] 53) = W8 at *
            obtain ⟨g8, hg8⟩ : ∃ g, g = wz.heap.size := ⟨_, rfl⟩
            rw [← hg8] at HX8 ⊢
            clear r0 r1 r2 r3 r4 s0 s1 s2 s3 s4 x0 x1 y0 y1 zS hg8
            obtain ⟨⟨x0, x1⟩, -, zS, -⟩ := HCE.out _ HB8.out
            obtain ⟨s0, s1, s2, s3, s4⟩ := HSC.out _ HB8.out
            have r0 := HX8.out 0 _ rfl
            have r1 := HX8.out 1 _ rfl
            have r2 := HX8.out 2 _ rfl
            have r3 := HX8.out 3 _ rfl
            have r4 := HX8.out 4 _ rfl
            clear x0
            refine wp_region_held_drew (S := (fun w' => w'.cell? ⟨g8, 0, none⟩ = some (.int .i64 s.op) ∧ w'.cell? ⟨g8, 1, none⟩ = some (.int .i64 s.reg) ∧ w'.cell? ⟨g8, 2, none⟩ = some (.int .i64 s.loc) ∧ w'.cell? ⟨g8, 3, none⟩ = some (.int .i64 s.n) ∧ w'.cell? ⟨g8, 4, none⟩ = some (.int .i64 s.5) ∧ w'.cell? ⟨w.heap.size, 1, none⟩ = some (.slice (some ⟨b1, f1, none⟩) P.ths.length d1) ∧ w'.cell? ⟨b1, f1 + t, none⟩ = some (.slice (some ⟨b5, f5, none⟩) ss.length c5) ∧ w'.cell? ⟨b5, f5 + k * 5, none⟩ = some (.int .i64 s.op) ∧ w'.cell? ⟨b5, f5 + k * 5 + 1, none⟩ = some (.int .i64 s.reg) ∧ w'.cell? ⟨b5, f5 + k * 5 + 2, none⟩ = some (.int .i64 s.loc) ∧ w'.cell? ⟨b5, f5 + k * 5 + 3, none⟩ = some (.int .i64 s.n) ∧ w'.cell? ⟨b5, f5 + k * 5 + 4, none⟩ = some (.int .i64 s.5))) (by kernel_rfl) ⟨r0, r1, r2, r3, r4, x1, zS, s0, s1, s2, s3, s4⟩ (fun hHeld => ?_)
            refine wpAnyH_take (i := 0) (v := ?_) rfl (by kernel_rfl) (by kernel_rfl) (by kernel_rfl) (fun _ _ _ h => h) (Or.inl ⟨by rfl, ?_⟩) (by assumption) ?_
            rotate_left
            · intro w hSw; (try dsimp only at hSw); go_simp; (try with_reducible rfl)
            (try simp only [Act.put, List.getElem_toArray, List.getElem_cons_zero, List.getElem_cons_succ, Array.getInternal_eq_getElem, List.setIfInBounds_toArray, List.set_cons_zero, List.set_cons_succ])
            refine wpAnyH_take (i := 1) (v := ?_) rfl (by kernel_rfl) (by kernel_rfl) (by kernel_rfl) (fun _ _ _ h => h) (Or.inl ⟨by rfl, ?_⟩) (by assumption) ?_
            rotate_left
            · intro w hSw; (try dsimp only at hSw); go_simp; (try with_reducible rfl)
            (try simp only [Act.put, List.getElem_toArray, List.getElem_cons_zero, List.getElem_cons_succ, Array.getInternal_eq_getElem, List.setIfInBounds_toArray, List.set_cons_zero, List.set_cons_succ])
            refine wpAnyH_take (i := 2) (v := ?_) rfl (by kernel_rfl) (by kernel_rfl) (by kernel_rfl) (fun _ _ _ h => h) (Or.inl ⟨by rfl, ?_⟩) (by assumption) ?_
            rotate_left
            · intro w hSw; (try dsimp only at hSw); go_simp; (try with_reducible rfl)
            (try simp only [Act.put, List.getElem_toArray, List.getElem_cons_zero, List.getElem_cons_succ, Array.getInternal_eq_getElem, List.setIfInBounds_toArray, List.set_cons_zero, List.set_cons_succ])
            refine wpAnyH_take (i := 3) (v := ?_) rfl (by kernel_rfl) (by kernel_rfl) (by kernel_rfl) (fun _ _ _ h => h) (Or.inl ⟨by rfl, ?_⟩) (by assumption) ?_
            rotate_left
            · intro w hSw; (try dsimp only at hSw); go_simp; (try with_reducible rfl)
            (try simp only [Act.put, List.getElem_toArray, List.getElem_cons_zero, List.getElem_cons_succ, Array.getInternal_eq_getElem, List.setIfInBounds_toArray, List.set_cons_zero, List.set_cons_succ])
            refine wpAnyH_take (i := 4) (v := ?_) rfl (by kernel_rfl) (by kernel_rfl) (by kernel_rfl) (fun _ _ _ h => h) (Or.inl ⟨by rfl, ?_⟩) (by assumption) ?_
            rotate_left
            · intro w hSw; (try dsimp only at hSw); go_simp; (try with_reducible rfl)
            (try simp only [Act.put, List.getElem_toArray, List.getElem_cons_zero, List.getElem_cons_succ, Array.getInternal_eq_getElem, List.setIfInBounds_toArray, List.set_cons_zero, List.set_cons_succ])
            refine wpAnyH_take (i := 5) (v := ?_) rfl (by kernel_rfl) (by kernel_rfl) (by kernel_rfl) (fun _ _ _ h => h) (Or.inl ⟨by rfl, ?_⟩) (by assumption) ?_
            rotate_left
            · intro w hSw; (try dsimp only at hSw); go_simp; (try with_reducible rfl)
            (try simp only [Act.put, List.getElem_toArray, List.getElem_cons_zero, List.getElem_cons_succ, Array.getInternal_eq_getElem, List.setIfInBounds_toArray, List.set_cons_zero, List.set_cons_succ])
            refine wpAnyH_take (i := 6) (v := ?_) rfl (by kernel_rfl) (by kernel_rfl) (by kernel_rfl) (fun _ _ _ h => h) (Or.inl ⟨by rfl, ?_⟩) (by assumption) ?_
            rotate_left
            · intro w hSw; (try dsimp only at hSw); go_simp; (try with_reducible rfl)
            (try simp only [Act.put, List.getElem_toArray, List.getElem_cons_zero, List.getElem_cons_succ, Array.getInternal_eq_getElem, List.setIfInBounds_toArray, List.set_cons_zero, List.set_cons_succ])
            refine wpAnyH_take (i := 7) (v := ?_) rfl (by kernel_rfl) (by kernel_rfl) (by kernel_rfl) (fun _ _ _ h => h) (Or.inl ⟨by rfl, ?_⟩) (by assumption) ?_
            rotate_left
            · intro w hSw; (try dsimp only at hSw); go_simp; (try with_reducible rfl)
            (try simp only [Act.put, List.getElem_toArray, List.getElem_cons_zero, List.getElem_cons_succ, Array.getInternal_eq_getElem, List.setIfInBounds_toArray, List.set_cons_zero, List.set_cons_succ])
            refine wpAnyH_take (i := 8) (v := ?_) rfl (by kernel_rfl) (by kernel_rfl) (by kernel_rfl) (fun _ _ _ h => h) (Or.inl ⟨by rfl, ?_⟩) (by assumption) ?_
            rotate_left
            · intro w hSw; (try dsimp only at hSw); go_simp; (try with_reducible rfl)
            (try simp only [Act.put, List.getElem_toArray, List.getElem_cons_zero, List.getElem_cons_succ, Array.getInternal_eq_getElem, List.setIfInBounds_toArray, List.set_cons_zero, List.set_cons_succ])
            refine wpAnyH_take (i := 9) (v := ?_) rfl (by kernel_rfl) (by kernel_rfl) (by kernel_rfl) (fun _ _ _ h => h) (Or.inl ⟨by rfl, ?_⟩) (by assumption) ?_
            rotate_left
            · intro w hSw; (try dsimp only at hSw); go_simp; (try with_reducible rfl)
            (try simp only [Act.put, List.getElem_toArray, List.getElem_cons_zero, List.getElem_cons_succ, Array.getInternal_eq_getElem, List.setIfInBounds_toArray, List.set_cons_zero, List.set_cons_succ])
            refine wpAnyH_done (by kernel_rfl) ?_ _
            clear hHeld
            have HB9 := Lib.hid (HB8.out.drew)
            have HO9 := Lib.hid (own_below HO8.out (below_drewN (Below.refl W8.heap.size W8) 1))
            clear r0 r1 r2 r3 r4 s0 s1 s2 s3 s4 x1 zS HX8
            go_wp2
            go_roundw
            case rel => exact ⟨k + 1, a + 1, by omega, by go_num, by go_num, by go_num, HN.out.symm, by omega, HO9.out, HB9.out⟩
            case measure => simp [intOf]; omega
      · obtain rfl : ss.length = k := by omega
        obtain rfl : a = R.length := by rw [HA.out]; exact HRL.out.symm
        obtain ⟨⟨x0, x1⟩, ⟨y0, y1⟩, zS, -⟩ := HCE.out _ hBq
        have HVB := Lib.hid hvb
        have HBQ := Lib.hid hBq
        have hszq := hBq.size
        have hvc := hvb.alloc (.cells #[.int .i64 R.length] 3)
        have HVC := Lib.hid hvc
        have HNW := Lib.hid (cell_one_new wr (.int .i64 R.length) 3)
        clear hvb hBq hvc
        go_wp2_with (at_builtin; refine wpList_append_own _ rfl _ _ 22 rfl w6.heap.size 3 i2 (.int .i64 0) 1 8 Try.underlying22 hi2 hx1 hx2 hx3 rfl (by decide) (.slice Ab ss.length cb) ss.length (intCs (bgs bf ss.length)) rfl HVC.out ⟨wr.heap.size, 0, none⟩ 1 1 [.int .i64 R.length] rfl rfl HNW.out (by simp [Value.oneCell']) (by unfold maxLen; omega) (by omega) (by simp; omega) ?_; intro v1 wz hown1 hg1 _)
        have HBZ := Lib.hid (below_append (below_al HBQ.out (.cells #[.int .i64 R.length] 3)) HVC.out (Nat.le_refl _) (by simp; omega) hg1)
        have HO1 := Lib.hid (show wz.ownsRow w6.heap.size 3 1 v1 (ss.length + 1) (intCs (bgs bf (ss.length + 1))) from by rw [bgs_next, intCs_app, ← HA.out]; exact hown1)
        obtain ⟨gB, capB, LB, hLB, rfl⟩ : ∃ g c n, n = ss.length + 1 ∧ v1 = .slice (some ⟨g, 0, none⟩) n c := by
          rcases hown1.2 with ⟨-, h0⟩ | ⟨g, cap, cur, e1, -⟩
          · exact absurd h0 (by omega)
          · exact ⟨g, cap, _, rfl, e1⟩
        have HLB := Lib.hid hLB
        clear hLB
        clear hown1 hg1 HVC HVB HNW x0 x1 y0 y1 zS
        have HO2 := Lib.hid (show wz.ownsRow w6.heap.size 3 1 (.slice (some ⟨gB, 0, none⟩) LB capB) LB (intCs (bgs bf LB)) from by have h := HO1.out; rw [← HLB.out] at h; exact h)
        have HCZ := Lib.hid (fun W (hW : Below wz.heap.size wz W) (j : Nat) (hj : j < LB) => show W.cell? ⟨gB, j, none⟩ = some (.int .i64 (bf j : Nat)) from by
          rw [(own_below HO2.out hW).cellAt j (by omega)]; exact bgs_at bf hj)
        have HCB := Lib.hid (fun W (hW : Below wz.heap.size wz W) => HCE.out _ (chain HBZ.out hW))
        clear HCt HA hk ha2 hkl
        go_loopw [14] (fun i wq => (∃ k : Nat, k ≤ ss.length ∧ i = .int .i64 k ∧ Below wz.heap.size wz wq)) (fun i _ => ss.length - (intOf i).toNat)
        case atStart => exact ⟨0, Nat.zero_le _, rfl, Below.refl _ _⟩
        case round =>
          obtain ⟨k, hk, rfl, hBq⟩ := hrel
          obtain ⟨⟨x0, x1⟩, ⟨y0, y1⟩, zS, -⟩ := HCB.out _ hBq
          by_cases hkl : k < ss.length
          · obtain ⟨b5, f5, rfl, hb5, hc5⟩ := HSR.out (by omega)
            obtain ⟨hown, hsame⟩ := HRt.out.own k hkl
            obtain ⟨b6, f6, rfl, hb6, hc6⟩ := HRR.out (by omega)
            have HRC := Lib.hid (fun (e : Nat) (he : e < R.length) W (hW : Below w6.heap.size w6 W) => stAt_far hW (by omega) (hc6 e he))
            have HSC := Lib.hid (fun W (hW : Below w6.heap.size w6 W) => stAt_far hW (by omega) (hc5 k hkl))
            have HEn := Lib.hid (HCZ.out _ hBq (k + 1) (by rw [HLB.out]; omega))
            obtain ⟨e, he⟩ : ∃ e, bf (k + 1) = e + 1 := ⟨bf k + (if cf k then 1 else 0), HRt.out.nx k⟩
            rw [he] at HEn
            have HOw0 := Lib.hid (HRt.out.jmp k hkl)
            obtain ⟨s, hs⟩ : ∃ s, s = ss[k] := ⟨_, rfl⟩
            simp only [← hs] at HSC HOw0
            have HOw := Lib.hid (show 8 ≤ s.op → ∃ (h : e < R.length) (tn : Nat), s.5 = (tn : Int) ∧ tn ≤ ss.length ∧ R[e] = ⟨s.op, s.reg, s.loc, s.n, (bf tn : Nat)⟩ from by
              have h := HOw0.out
              rw [show bf (k + 1) - 1 = e from by rw [he]; rfl] at h
              exact h)
            obtain ⟨s0, s1, s2, s3, s4⟩ := HSC.out _ (chain HBZ.out hBq)
            have HBq := Lib.hid hBq
            have en := HEn.out
            have l0 := lt_of_cell x0
            have l2' := lt_of_cell s0
            have l3' := lt_of_cell en
            have hkB : k + 1 < LB := by rw [HLB.out]; omega
            clear hc5 hc6 hs hown hsame hBq he HOw0
            by_cases h8 : 8 ≤ s.op
            · have q8 : decide (8 ≤ s.op) = true := decide_eq_true h8
              obtain ⟨hel, tn, htn, htl, hRe⟩ := HOw.out h8
              have hrc := HRC.out e hel
              rw [hRe] at hrc
              have HRE := Lib.hid (fun W (hW : Below w6.heap.size w6 W) => (hrc W hW).2.2.2.2)
              rw [htn] at s4
              have htB : tn < LB := by rw [HLB.out]; omega
              clear hRe hrc htn HOw
              go_upto_region 40 with fail
              have HB8 := Lib.hid (below_al HBq.out (.cells #[.int .i64 s.op, .int .i64 s.reg, .int .i64 s.loc, .int .i64 s.n, .int .i64 tn] 53))
              have HX8 := Lib.hid (fun (i : Nat) (v : Value) (h : (#[.int .i64 s.op, .int .i64 s.reg, .int .i64 s.loc, .int .i64 s.n, .int .i64 tn] : Array Value)[i]? = some v) => (box_1 wr _ 53 i h).1)
              generalize wr.alloc (.cells #[.int .i64 s.op, .int .i64 s.reg, .int .i64 s.loc, .int .i64 s.n, .int .i64 tn] 53) = W8 at *
              obtain ⟨g9, hg9⟩ : ∃ g, g = wr.heap.size := ⟨_, rfl⟩
              rw [← hg9] at HX8 ⊢
              clear s0 s1 s2 s3 s4 x0 x1 y0 y1 zS hg9 en l0 l2' l3'
              have r0 := HX8.out 0 _ rfl
              have r4 := HX8.out 4 _ rfl
              have e4 := HRE.out _ (chain HBZ.out HB8.out)
              have e5 := HCZ.out _ HB8.out tn (by rw [HLB.out]; omega)
              refine wp_region_held_drew (S := (fun w' => w'.cell? ⟨g9, 0, none⟩ = some (.int .i64 s.op) ∧ w'.cell? ⟨g9, 4, none⟩ = some (.int .i64 tn) ∧ w'.cell? ⟨b6, f6 + e * 5 + 4, none⟩ = some (.int .i64 (bf tn : Nat)) ∧ w'.cell? ⟨gB, tn, none⟩ = some (.int .i64 (bf tn : Nat)))) (by kernel_rfl) ⟨r0, r4, e4, e5⟩ (fun hHeld => ?_)
              refine wpAnyH_take (i := 0) (v := ?_) rfl (by kernel_rfl) (by kernel_rfl) (by kernel_rfl) (fun _ _ _ h => h) (Or.inl ⟨by rfl, ?_⟩) (by assumption) ?_
              rotate_left
              · intro w hSw; (try dsimp only at hSw); go_simp; (try with_reducible rfl)
              (try simp only [Act.put, List.getElem_toArray, List.getElem_cons_zero, List.getElem_cons_succ, Array.getInternal_eq_getElem, List.setIfInBounds_toArray, List.set_cons_zero, List.set_cons_succ])
              refine wpAnyH_take (i := 1) (v := ?_) rfl (by kernel_rfl) (by kernel_rfl) (by kernel_rfl) (fun _ _ _ h => h) (Or.inl ⟨by rfl, ?_⟩) (by assumption) ?_
              rotate_left
              · intro w hSw; (try dsimp only at hSw); go_simp; (try with_reducible rfl)
              (try simp only [Act.put, List.getElem_toArray, List.getElem_cons_zero, List.getElem_cons_succ, Array.getInternal_eq_getElem, List.setIfInBounds_toArray, List.set_cons_zero, List.set_cons_succ])
              refine wpAnyH_take (i := 2) (v := ?_) rfl (by kernel_rfl) (by kernel_rfl) (by kernel_rfl) (fun _ _ _ h => h) (Or.inl ⟨by rfl, ?_⟩) (by assumption) ?_
              rotate_left
              · intro w hSw; (try dsimp only at hSw); go_simp; (try with_reducible rfl)
              (try simp only [Act.put, List.getElem_toArray, List.getElem_cons_zero, List.getElem_cons_succ, Array.getInternal_eq_getElem, List.setIfInBounds_toArray, List.set_cons_zero, List.set_cons_succ])
              refine wpAnyH_take (i := 3) (v := ?_) rfl (by kernel_rfl) (by kernel_rfl) (by kernel_rfl) (fun _ _ _ h => h) (Or.inl ⟨by rfl, ?_⟩) (by assumption) ?_
              rotate_left
              · intro w hSw; (try dsimp only at hSw); go_simp; (try with_reducible rfl)
              (try simp only [Act.put, List.getElem_toArray, List.getElem_cons_zero, List.getElem_cons_succ, Array.getInternal_eq_getElem, List.setIfInBounds_toArray, List.set_cons_zero, List.set_cons_succ])
              refine wpAnyH_take (i := 4) (v := ?_) rfl (by kernel_rfl) (by kernel_rfl) (by kernel_rfl) (fun _ _ _ h => h) (Or.inl ⟨by rfl, ?_⟩) (by assumption) ?_
              rotate_left
              · intro w hSw; (try dsimp only at hSw); go_simp; (try with_reducible rfl)
              (try simp only [Act.put, List.getElem_toArray, List.getElem_cons_zero, List.getElem_cons_succ, Array.getInternal_eq_getElem, List.setIfInBounds_toArray, List.set_cons_zero, List.set_cons_succ])
              refine wpAnyH_take (i := 5) (v := ?_) rfl (by kernel_rfl) (by kernel_rfl) (by kernel_rfl) (fun _ _ _ h => h) (Or.inl ⟨by rfl, ?_⟩) (by assumption) ?_
              rotate_left
              · intro w hSw; (try dsimp only at hSw); go_simp; (try with_reducible rfl)
              (try simp only [Act.put, List.getElem_toArray, List.getElem_cons_zero, List.getElem_cons_succ, Array.getInternal_eq_getElem, List.setIfInBounds_toArray, List.set_cons_zero, List.set_cons_succ])
              refine wpAnyH_take (i := 6) (v := ?_) rfl (by kernel_rfl) (by kernel_rfl) (by kernel_rfl) (fun _ _ _ h => h) (Or.inl ⟨by rfl, ?_⟩) (by assumption) ?_
              rotate_left
              · intro w hSw; (try dsimp only at hSw); go_simp; (try with_reducible rfl)
              (try simp only [Act.put, List.getElem_toArray, List.getElem_cons_zero, List.getElem_cons_succ, Array.getInternal_eq_getElem, List.setIfInBounds_toArray, List.set_cons_zero, List.set_cons_succ])
              refine wpAnyH_take (i := 7) (v := ?_) rfl (by kernel_rfl) (by kernel_rfl) (by kernel_rfl) (fun _ _ _ h => h) (Or.inl ⟨by rfl, ?_⟩) (by assumption) ?_
              rotate_left
              · intro w hSw; (try dsimp only at hSw); go_simp; (try with_reducible rfl)
              (try simp only [Act.put, List.getElem_toArray, List.getElem_cons_zero, List.getElem_cons_succ, Array.getInternal_eq_getElem, List.setIfInBounds_toArray, List.set_cons_zero, List.set_cons_succ])
              refine wpAnyH_take (i := 8) (v := ?_) rfl (by kernel_rfl) (by kernel_rfl) (by kernel_rfl) (fun _ _ _ h => h) (Or.inl ⟨by rfl, ?_⟩) (by assumption) ?_
              rotate_left
              · intro w hSw; (try dsimp only at hSw); go_simp; (try with_reducible rfl)
              (try simp only [Act.put, List.getElem_toArray, List.getElem_cons_zero, List.getElem_cons_succ, Array.getInternal_eq_getElem, List.setIfInBounds_toArray, List.set_cons_zero, List.set_cons_succ])
              refine wpAnyH_take (i := 9) (v := ?_) rfl (by kernel_rfl) (by kernel_rfl) (by kernel_rfl) (fun _ _ _ h => h) (Or.inl ⟨by rfl, ?_⟩) (by assumption) ?_
              rotate_left
              · intro w hSw; (try dsimp only at hSw); go_simp; (try with_reducible rfl)
              (try simp only [Act.put, List.getElem_toArray, List.getElem_cons_zero, List.getElem_cons_succ, Array.getInternal_eq_getElem, List.setIfInBounds_toArray, List.set_cons_zero, List.set_cons_succ])
              refine wpAnyH_take (i := 10) (v := ?_) rfl (by kernel_rfl) (by kernel_rfl) (by kernel_rfl) (fun _ _ _ h => h) (Or.inl ⟨by rfl, ?_⟩) (by assumption) ?_
              rotate_left
              · intro w hSw; (try dsimp only at hSw); go_simp; (try with_reducible rfl)
              (try simp only [Act.put, List.getElem_toArray, List.getElem_cons_zero, List.getElem_cons_succ, Array.getInternal_eq_getElem, List.setIfInBounds_toArray, List.set_cons_zero, List.set_cons_succ])
              refine wpAnyH_take (i := 11) (v := ?_) rfl (by kernel_rfl) (by kernel_rfl) (by kernel_rfl) (fun _ _ _ h => h) (Or.inl ⟨by rfl, ?_⟩) (by assumption) ?_
              rotate_left
              · intro w hSw; (try dsimp only at hSw); go_simp; (try with_reducible rfl)
              (try simp only [Act.put, List.getElem_toArray, List.getElem_cons_zero, List.getElem_cons_succ, Array.getInternal_eq_getElem, List.setIfInBounds_toArray, List.set_cons_zero, List.set_cons_succ])
              refine wpAnyH_take (i := 12) (v := ?_) rfl (by kernel_rfl) (by kernel_rfl) (by kernel_rfl) (fun _ _ _ h => h) (Or.inl ⟨by rfl, ?_⟩) (by assumption) ?_
              rotate_left
              · intro w hSw; (try dsimp only at hSw); go_simp; (try with_reducible rfl)
              (try simp only [Act.put, List.getElem_toArray, List.getElem_cons_zero, List.getElem_cons_succ, Array.getInternal_eq_getElem, List.setIfInBounds_toArray, List.set_cons_zero, List.set_cons_succ])
              refine wpAnyH_take (i := 13) (v := ?_) rfl (by kernel_rfl) (by kernel_rfl) (by kernel_rfl) (fun _ _ _ h => h) (Or.inl ⟨by rfl, ?_⟩) (by assumption) ?_
              rotate_left
              · intro w hSw; (try dsimp only at hSw); go_simp; (try with_reducible rfl)
              (try simp only [Act.put, List.getElem_toArray, List.getElem_cons_zero, List.getElem_cons_succ, Array.getInternal_eq_getElem, List.setIfInBounds_toArray, List.set_cons_zero, List.set_cons_succ])
              refine wpAnyH_take (i := 14) (v := ?_) rfl (by kernel_rfl) (by kernel_rfl) (by kernel_rfl) (fun _ _ _ h => h) (Or.inl ⟨by rfl, ?_⟩) (by assumption) ?_
              rotate_left
              · intro w hSw; (try dsimp only at hSw); go_simp; (try with_reducible rfl)
              (try simp only [Act.put, List.getElem_toArray, List.getElem_cons_zero, List.getElem_cons_succ, Array.getInternal_eq_getElem, List.setIfInBounds_toArray, List.set_cons_zero, List.set_cons_succ])
              refine wpAnyH_take (i := 15) (v := ?_) rfl (by kernel_rfl) (by kernel_rfl) (by kernel_rfl) (fun _ _ _ h => h) (Or.inl ⟨by rfl, ?_⟩) (by assumption) ?_
              rotate_left
              · intro w hSw; (try dsimp only at hSw); go_simp; (try with_reducible rfl)
              (try simp only [Act.put, List.getElem_toArray, List.getElem_cons_zero, List.getElem_cons_succ, Array.getInternal_eq_getElem, List.setIfInBounds_toArray, List.set_cons_zero, List.set_cons_succ])
              refine wpAnyH_done (by kernel_rfl) ?_ _
              clear hHeld
              have HB9 := Lib.hid (HB8.out.drew)
              clear r0 r4 e4 e5 HX8
              go_wp2
              go_roundw
              case rel => exact ⟨k + 1, by omega, by go_num, HB9.out⟩
              case measure => simp [intOf]; omega
            · have q8 : decide (8 ≤ s.op) = false := decide_eq_false h8
              clear HOw
              go_upto_region 40 with fail
              have HB8 := Lib.hid (below_al HBq.out (.cells #[.int .i64 s.op, .int .i64 s.reg, .int .i64 s.loc, .int .i64 s.n, .int .i64 s.5] 53))
              have HX8 := Lib.hid (fun (i : Nat) (v : Value) (h : (#[.int .i64 s.op, .int .i64 s.reg, .int .i64 s.loc, .int .i64 s.n, .int .i64 s.5] : Array Value)[i]? = some v) => (box_1 wr _ 53 i h).1)
              generalize wr.alloc (.cells #[.int .i64 s.op, .int .i64 s.reg, .int .i64 s.loc, .int .i64 s.n, .int .i64 s.5] 53) = W8 at *
              obtain ⟨g9, hg9⟩ : ∃ g, g = wr.heap.size := ⟨_, rfl⟩
              rw [← hg9] at HX8 ⊢
              clear s0 s1 s2 s3 s4 x0 x1 y0 y1 zS hg9 en l0 l2' l3'
              have r0 := HX8.out 0 _ rfl
              refine wp_region_held_drew (S := (fun w' => w'.cell? ⟨g9, 0, none⟩ = some (.int .i64 s.op))) (by kernel_rfl) r0 (fun hHeld => ?_)
              refine wpAnyH_take (i := 0) (v := ?_) rfl (by kernel_rfl) (by kernel_rfl) (by kernel_rfl) (fun _ _ _ h => h) (Or.inl ⟨by rfl, ?_⟩) (by assumption) ?_
              rotate_left
              · intro w hSw; (try dsimp only at hSw); go_simp; (try with_reducible rfl)
              (try simp only [Act.put, List.getElem_toArray, List.getElem_cons_zero, List.getElem_cons_succ, Array.getInternal_eq_getElem, List.setIfInBounds_toArray, List.set_cons_zero, List.set_cons_succ])
              refine wpAnyH_take (i := 1) (v := ?_) rfl (by kernel_rfl) (by kernel_rfl) (by kernel_rfl) (fun _ _ _ h => h) (Or.inl ⟨by rfl, ?_⟩) (by assumption) ?_
              rotate_left
              · intro w hSw; (try dsimp only at hSw); go_simp; (try with_reducible rfl)
              (try simp only [Act.put, List.getElem_toArray, List.getElem_cons_zero, List.getElem_cons_succ, Array.getInternal_eq_getElem, List.setIfInBounds_toArray, List.set_cons_zero, List.set_cons_succ])
              refine wpAnyH_take (i := 2) (v := ?_) rfl (by kernel_rfl) (by kernel_rfl) (by kernel_rfl) (fun _ _ _ h => h) (Or.inl ⟨by rfl, ?_⟩) (by assumption) ?_
              rotate_left
              · intro w hSw; (try dsimp only at hSw); go_simp; (try with_reducible rfl)
              (try simp only [Act.put, List.getElem_toArray, List.getElem_cons_zero, List.getElem_cons_succ, Array.getInternal_eq_getElem, List.setIfInBounds_toArray, List.set_cons_zero, List.set_cons_succ])
              refine wpAnyH_take (i := 3) (v := ?_) rfl (by kernel_rfl) (by kernel_rfl) (by kernel_rfl) (fun _ _ _ h => h) (Or.inl ⟨by rfl, ?_⟩) (by assumption) ?_
              rotate_left
              · intro w hSw; (try dsimp only at hSw); go_simp; (try with_reducible rfl)
              (try simp only [Act.put, List.getElem_toArray, List.getElem_cons_zero, List.getElem_cons_succ, Array.getInternal_eq_getElem, List.setIfInBounds_toArray, List.set_cons_zero, List.set_cons_succ])
              refine wpAnyH_take (i := 4) (v := undef) rfl (by kernel_rfl) (by kernel_rfl) (by kernel_rfl) (fun _ _ _ h => h) (Or.inr ⟨by rfl, rfl⟩) (by assumption) ?_
              (try simp only [Act.put, List.getElem_toArray, List.getElem_cons_zero, List.getElem_cons_succ, Array.getInternal_eq_getElem, List.setIfInBounds_toArray, List.set_cons_zero, List.set_cons_succ])
              refine wpAnyH_take (i := 5) (v := undef) rfl (by kernel_rfl) (by kernel_rfl) (by kernel_rfl) (fun _ _ _ h => h) (Or.inr ⟨by rfl, rfl⟩) (by assumption) ?_
              (try simp only [Act.put, List.getElem_toArray, List.getElem_cons_zero, List.getElem_cons_succ, Array.getInternal_eq_getElem, List.setIfInBounds_toArray, List.set_cons_zero, List.set_cons_succ])
              refine wpAnyH_take (i := 6) (v := undef) rfl (by kernel_rfl) (by kernel_rfl) (by kernel_rfl) (fun _ _ _ h => h) (Or.inr ⟨by rfl, rfl⟩) (by assumption) ?_
              (try simp only [Act.put, List.getElem_toArray, List.getElem_cons_zero, List.getElem_cons_succ, Array.getInternal_eq_getElem, List.setIfInBounds_toArray, List.set_cons_zero, List.set_cons_succ])
              refine wpAnyH_take (i := 7) (v := undef) rfl (by kernel_rfl) (by kernel_rfl) (by kernel_rfl) (fun _ _ _ h => h) (Or.inr ⟨by rfl, rfl⟩) (by assumption) ?_
              (try simp only [Act.put, List.getElem_toArray, List.getElem_cons_zero, List.getElem_cons_succ, Array.getInternal_eq_getElem, List.setIfInBounds_toArray, List.set_cons_zero, List.set_cons_succ])
              refine wpAnyH_take (i := 8) (v := undef) rfl (by kernel_rfl) (by kernel_rfl) (by kernel_rfl) (fun _ _ _ h => h) (Or.inr ⟨by rfl, rfl⟩) (by assumption) ?_
              (try simp only [Act.put, List.getElem_toArray, List.getElem_cons_zero, List.getElem_cons_succ, Array.getInternal_eq_getElem, List.setIfInBounds_toArray, List.set_cons_zero, List.set_cons_succ])
              refine wpAnyH_take (i := 9) (v := undef) rfl (by kernel_rfl) (by kernel_rfl) (by kernel_rfl) (fun _ _ _ h => h) (Or.inr ⟨by rfl, rfl⟩) (by assumption) ?_
              (try simp only [Act.put, List.getElem_toArray, List.getElem_cons_zero, List.getElem_cons_succ, Array.getInternal_eq_getElem, List.setIfInBounds_toArray, List.set_cons_zero, List.set_cons_succ])
              refine wpAnyH_take (i := 10) (v := undef) rfl (by kernel_rfl) (by kernel_rfl) (by kernel_rfl) (fun _ _ _ h => h) (Or.inr ⟨by rfl, rfl⟩) (by assumption) ?_
              (try simp only [Act.put, List.getElem_toArray, List.getElem_cons_zero, List.getElem_cons_succ, Array.getInternal_eq_getElem, List.setIfInBounds_toArray, List.set_cons_zero, List.set_cons_succ])
              refine wpAnyH_take (i := 11) (v := undef) rfl (by kernel_rfl) (by kernel_rfl) (by kernel_rfl) (fun _ _ _ h => h) (Or.inr ⟨by rfl, rfl⟩) (by assumption) ?_
              (try simp only [Act.put, List.getElem_toArray, List.getElem_cons_zero, List.getElem_cons_succ, Array.getInternal_eq_getElem, List.setIfInBounds_toArray, List.set_cons_zero, List.set_cons_succ])
              refine wpAnyH_take (i := 12) (v := undef) rfl (by kernel_rfl) (by kernel_rfl) (by kernel_rfl) (fun _ _ _ h => h) (Or.inr ⟨by rfl, rfl⟩) (by assumption) ?_
              (try simp only [Act.put, List.getElem_toArray, List.getElem_cons_zero, List.getElem_cons_succ, Array.getInternal_eq_getElem, List.setIfInBounds_toArray, List.set_cons_zero, List.set_cons_succ])
              refine wpAnyH_take (i := 13) (v := undef) rfl (by kernel_rfl) (by kernel_rfl) (by kernel_rfl) (fun _ _ _ h => h) (Or.inr ⟨by rfl, rfl⟩) (by assumption) ?_
              (try simp only [Act.put, List.getElem_toArray, List.getElem_cons_zero, List.getElem_cons_succ, Array.getInternal_eq_getElem, List.setIfInBounds_toArray, List.set_cons_zero, List.set_cons_succ])
              refine wpAnyH_take (i := 14) (v := undef) rfl (by kernel_rfl) (by kernel_rfl) (by kernel_rfl) (fun _ _ _ h => h) (Or.inr ⟨by rfl, rfl⟩) (by assumption) ?_
              (try simp only [Act.put, List.getElem_toArray, List.getElem_cons_zero, List.getElem_cons_succ, Array.getInternal_eq_getElem, List.setIfInBounds_toArray, List.set_cons_zero, List.set_cons_succ])
              refine wpAnyH_take (i := 15) (v := ?_) rfl (by kernel_rfl) (by kernel_rfl) (by kernel_rfl) (fun _ _ _ h => h) (Or.inl ⟨by rfl, ?_⟩) (by assumption) ?_
              rotate_left
              · intro w hSw; (try dsimp only at hSw); go_simp; (try with_reducible rfl)
              (try simp only [Act.put, List.getElem_toArray, List.getElem_cons_zero, List.getElem_cons_succ, Array.getInternal_eq_getElem, List.setIfInBounds_toArray, List.set_cons_zero, List.set_cons_succ])
              refine wpAnyH_done (by kernel_rfl) ?_ _
              clear hHeld
              have HB9 := Lib.hid (HB8.out.drew)
              clear r0 HX8
              go_wp2
              go_roundw
              case rel => exact ⟨k + 1, by omega, by go_num, HB9.out⟩
              case measure => simp [intOf]; omega
          · obtain rfl : ss.length = k := by omega
            have HBF := Lib.hid (chain HB0.out (chain HBZ.out hBq))
            clear hBq hkl hk
            go_wp2
            go_roundw
            case rel => exact ⟨t + 1, m + ss.length, by omega, by go_num, by go_num, HMN.out, by omega, HBF.out⟩
            case measure => simp [intOf]; omega
end Go.Proofs.Ytaelfjphgdlbcaa
