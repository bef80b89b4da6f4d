/-
  ValidLabels, as a walk over any world that holds the registers and the type of errors: it returns true.
-/
import Derived.Test.YtclhgmopphhalaaGreatDoorVHd
import Derived.Test.YtclhgmopphhalaaGreatDoorGreat
import Derived.Test.YtclhgmopphhalaaGreatDoorRLn0
import Derived.Test.YtclhgmopphhalaaGreatDoorVLabM
namespace Go.Proofs.YtclhgmopphhalaaGreatDoor
open Go.RowKit
set_option linter.unusedVariables false
set_option linter.unusedSimpArgs false
open WordM (L)
open VM

def VbK (F : Fl) (vi vt vc : Value) (w : World) (wr : World) : Prop := Below w.heap.size w wr ∧ FlBox wr w.heap.size ⟨F.name.toArray⟩ vi vt vc F.all
def Vb1 (F : Fl) (vi vt vc : Value) (w : World) (i : Value) (wr : World) : Prop := ∃ k : Nat, k ≤ F.ths.length ∧ i = .int .i64 k ∧ VbK F vi vt vc w wr
def Vb2 (F : Fl) (ls : List OpsM.Ln) (vi vt vc : Value) (w : World) (o m i : Value) (wr : World) : Prop :=
  ∃ k p q : Nat, k ≤ ls.length ∧ i = .int .i64 k ∧ o = .int .i64 p ∧ m = .int .i64 q ∧ p = cI (ls.take k) ∧ q = cM (ls.take k) ∧ VbK F vi vt vc w wr
def Vb3 (F : Fl) (ls : List OpsM.Ln) (s : L) (vi vt vc : Value) (w : World) (T N i : Value) (wr : World) : Prop :=
  ∃ (k p : Nat) (t : Int), k ≤ ls.length ∧ i = .int .i64 k ∧ T = .int .i64 t ∧ N = .int .i64 p ∧ p = lcnt (ls.take k) s ∧ ((t = -1 ∧ p = 0) ∨ ∃ (j : Nat) (hj : j < ls.length), t = j ∧ ls[j].op = 11 ∧ ls[j].label = s) ∧ VbK F vi vt vc w wr
theorem op_ne {x a b : Int} (h : x = a) (h2 : (a == b) = false) : (x == b) = false := by rw [h]; exact h2
theorem pred_facts (n : Nat) (h : n ≤ 1000000) : decide ((0 : Int) < ((n + 1 : Nat) : Int)) = true ∧ (0 : Int) ≤ (n : Int) + 1 ∧ (n : Int) ≤ 1000000 := ⟨decide_eq_true (by omega), by omega, by omega⟩
set_option maxHeartbeats 8000000 in
set_option maxRecDepth 100000 in
theorem vlabels_law {v : Value} {F : Fl} (w : World) (hr : Regs w) (hg : EA.ErrG w) (hv : FlV w.heap.size w v F) (hi : IntsOk F) :
    Calls Tryz.prog 4 #[v] w fun e w' => e = .returned (.bool true) ∧ Below w.heap.size w w' := by
  obtain ⟨vi, vt, vc, rfl, hm⟩ := hv
  have HM := Lib.hid hm
  have HR := Lib.hid hr
  have HG := Lib.hid hg
  have HI := Lib.hid hi
  have HV : ∀ W, Below w.heap.size w W → FlV W.heap.size W (flv ⟨F.name.toArray⟩ vi vt vc F.all) F := fun W hW => ⟨vi, vt, vc, rfl, (HM.out.below hW).more hW.size⟩
  have HHd := Lib.hid (fun W (hW : Below w.heap.size w W) => vhead_any W (HR.out.below hW) (HG.out.below hW))
  have HGr := Lib.hid (fun W (hW : Below w.heap.size w W) => vgreat_any W (HV W hW) (Nat.le_refl _))
  have HVR := Lib.hid (fun (ok : FlOk F) W (hW : Below w.heap.size w W) => vright_any W (HR.out.below hW) (HG.out.below hW) (HV W hW) (Nat.le_refl _) ok)
  have HJ := Lib.hid (fun (x : OpsM.Ln) W => rjump_l x W)
  have HIN := Lib.hid (fun (x : OpsM.Ln) W => rinstr_l x W)
  have HRR := Lib.hid (fun (x : OpsM.Ln) W h1 h2 h3 => rright_l x W h1 h2 h3)
  obtain ⟨⟨A0, c0, rfl, -⟩, ⟨A2, c2, rfl, hb1, hb2, hb3⟩, ⟨A1, c1, rfl, -⟩⟩ := hm
  unfold maxLen at hb2
  unfold flv at *
  clear HV hr hg hi HM
  have hB0 := below_al (Below.refl w.heap.size w) (.cells #[.string ⟨F.name.toArray⟩, .slice A0 F.init.length c0, .slice A2 F.ths.length c2, .bool F.all, .slice A1 F.cond.length c1] 26)
  have hbx := FlBox.at (w := w) rfl ⟨F.name.toArray⟩ (.slice A0 F.init.length c0) (.slice A2 F.ths.length c2) (.slice A1 F.cond.length c1) F.all 26
  go_enter Tryz.func4, Tryz.ntmps4
  go_wp2_with fail
  refine (HHd.out _ hB0).mono ?_
  rintro e w1 ⟨rfl, hbb⟩
  have hB1 := chain hB0 hbb
  have hbx1 := Lib.hid (hbx.below hbb)
  obtain ⟨t0, t1, t2, t3, t4⟩ := hbx1.out
  clear hB0 hbx hbb
  go_wp2_with fail
  refine (HGr.out _ hB1).mono ?_
  rintro e w2 ⟨b, rfl, hsm, hbb⟩
  have hB2 := chain hB1 hbb
  have hbx2 := Lib.hid (hbx1.out.below hbb)
  clear t0 t1 t2 t3 t4
  obtain ⟨t0, t1, t2, t3, t4⟩ := hbx2.out
  clear hB1 hbx1 hbb
  cases b
  case true =>
    go_wp2
    go_ret
    exact ⟨rfl, hB2⟩
  have ok := (hsm rfl).ok HI.out
  have HSM := Lib.hid (hsm rfl)
  replace HVR := Lib.hid (HVR.out ok)
  clear hsm ok HI HHd HGr
  go_wp2_with fail
  refine (HVR.out _ hB2).mono ?_
  rintro e w3 ⟨rfl, hbb⟩
  have hB3 := chain hB2 hbb
  have hbx3 := Lib.hid (hbx2.out.below hbb)
  clear t0 t1 t2 t3 t4
  obtain ⟨t0, t1, t2, t3, t4⟩ := hbx3.out
  clear hB2 hbx2 hbb HVR
  cases hrt : VM.right F
  · clear hrt
    go_wp2
    go_ret
    exact ⟨rfl, hB3⟩
  obtain ⟨h31, h33⟩ := right_three hrt
  have HTH := Lib.hid (fun (t : Nat) (ht : t < F.ths.length) => right_ths hrt ht)
  have hn := HSM.out.n1
  clear hrt
  go_wp2
  go_loopw [4] (fun i wr => Vb1 F (.slice A0 F.init.length c0) (.slice A2 F.ths.length c2) (.slice A1 F.cond.length c1) w i wr) (fun i _ => F.ths.length - (intOf i).toNat)
  case atStart => exact ⟨0, Nat.zero_le _, rfl, hB3, hbx3.out⟩
  case round =>
    clear hB3 hbx3 t0 t1 t2 t3 t4
    obtain ⟨k, hk, rfl, hB, hbx⟩ := hrel
    have HBX := Lib.hid hbx
    obtain ⟨t0, t1, t2, t3, t4⟩ := id hbx
    clear hbx
    by_cases hlt : k < F.ths.length
    · obtain ⟨b1, f1, rfl, hb1, hcl⟩ := hb3 (by omega)
      obtain ⟨vl, d0w, hLn⟩ := hcl k hlt
      have HTK := Lib.hid (HTH.out k hlt)
      have hln := (HSM.out.ths k hlt).1
      have HSZ := Lib.hid (HSM.out.ths k hlt).2
      obtain ⟨ls, hx⟩ : ∃ x, x = F.ths[k] := ⟨_, rfl⟩
      rw [← hx] at hLn hln HSZ HTK
      obtain ⟨A3, c3, rfl, he1, he2, he3⟩ := id hLn
      unfold maxLen at he2
      have HLn := Lib.hid hLn
      have d0 := (hB.cell (p := ⟨b1, f1 + k, none⟩) hb1).trans d0w
      clear hx hcl hb3 hLn he3 d0w HTH HSM
      go_wp2
      go_loopw [6, 7, 8] (fun o m i wr => Vb2 F ls (.slice A0 F.init.length c0) (.slice (some ⟨b1, f1, none⟩) F.ths.length c2) (.slice A1 F.cond.length c1) w o m i wr) (fun _ _ i _ => ls.length - (intOf i).toNat)
      case atStart => exact ⟨0, 0, 0, Nat.zero_le _, rfl, rfl, rfl, rfl, rfl, hB, HBX.out⟩
      case round =>
        clear t0 t1 t2 t3 t4 hB HBX d0
        obtain ⟨m, p, q, hm, rfl, rfl, rfl, hp, hq, hB, hbx⟩ := hrel
        have HBX := Lib.hid hbx
        have hp9 : p ≤ m := by rw [hp]; exact cI_le ls m
        have hq9 : q ≤ m := by rw [hq]; exact cM_le ls m
        clear hbx
        by_cases hlm : m < ls.length
        · obtain ⟨A4, c4, e4, _, _, he3⟩ := HLn.out
          injection e4 with e4 _ e5
          subst e4; subst e5
          obtain ⟨b3, f3, rfl, hb3, hc3⟩ := he3 (by omega)
          have HZ := Lib.hid (fun W (hW : Below w.heap.size w W) => (hc3 m hlm).below hW hb3)
          have HZP := Lib.hid (fun W (hW : Below w.heap.size w W) (i : Nat) (hi : i < ls.length) => (hc3 i hi).below hW hb3)
          have HPI := Lib.hid (cI_take ls m hlm)
          have HPM := Lib.hid (cM_take ls m hlm)
          have hsz := HSZ.out _ (List.getElem_mem hlm)
          have HLB := Lib.hid (label_once HTK.out hlm)
          have HJP := Lib.hid (jump_once HTK.out hlm)
          have HFN := Lib.hid (fun (i : Nat) (hi : i + 1 < ls.length) (h : ls[i + 1].op = 6) => fence_apart HTK.out hi h)
          have HRX := Lib.hid (lineC_zero (HTK.out m hlm)).1
          obtain ⟨x, hx⟩ : ∃ x, x = ls[m] := ⟨_, rfl⟩
          rw [← hx] at HZ HPI HPM hsz HLB HJP HRX
          rw [← hp] at HPI
          rw [← hq] at HPM
          have HX := Lib.hid hx
          clear hx hc3 he3 hp hq
          go_wp2
          go_loopw [9, 10, 11] (fun T N i wr => Vb3 F ls x.label (.slice A0 F.init.length c0) (.slice (some ⟨b1, f1, none⟩) F.ths.length c2) (.slice A1 F.cond.length c1) w T N i wr) (fun _ _ i _ => ls.length - (intOf i).toNat)
          case atStart => exact ⟨0, 0, -1, Nat.zero_le _, rfl, rfl, rfl, rfl, Or.inl ⟨rfl, rfl⟩, hB, HBX.out⟩
          case round =>
            clear hB HBX
            obtain ⟨i, c, T, hi, rfl, rfl, rfl, hc, hT, hB, hbx⟩ := hrel
            have HBX := Lib.hid hbx
            have HT := Lib.hid hT
            have hc9 : c ≤ i := by rw [hc]; exact Nat.le_trans (lcnt_le _ _) (List.length_take_le _ _)
            clear hbx hT
            by_cases hli : i < ls.length
            · have HC := Lib.hid (lcnt_take ls i hli x.label)
              rw [← hc] at HC
              obtain ⟨y0, y1, y2, y3, y4⟩ := HZP.out wr hB i hli
              obtain ⟨z0, z1, z2, z3, z4⟩ := HZ.out wr hB
              have HIY := Lib.hid (fun (h1 : ls[i].op = 11) (h2 : ls[i].label = x.label) => (⟨i, hli, rfl, h1, h2⟩ : ∃ (j : Nat) (hj : j < ls.length), (i : Int) = j ∧ ls[j].op = 11 ∧ ls[j].label = x.label))
              obtain ⟨y, hy⟩ : ∃ y, y = ls[i] := ⟨_, rfl⟩
              rw [← hy] at y0 y1 y2 y3 y4 HC HIY
              clear hy hc
              cases h11 : (y.op == 11)
              · have HC2 := Lib.hid (show lcnt (ls.take (i + 1)) x.label = c by rw [HC.out, if_neg (fun e => by rw [e.1] at h11; cases h11)]; rfl)
                clear HC
                go_wp2
                go_quiet (fail)
                go_wp2
                go_roundw
                case rel => exact ⟨i + 1, c, T, by omega, by go_num, rfl, rfl, HC2.out.symm, HT.out, below_drewN hB _, HBX.out⟩
                case measure => simp [intOf]; omega
              · cases hyl : (y.label == x.label)
                · have HC2 := Lib.hid (show lcnt (ls.take (i + 1)) x.label = c by rw [HC.out, if_neg (fun e => by rw [e.2] at hyl; simp at hyl)]; rfl)
                  clear HC
                  go_wp2
                  go_quiet (fail)
                  go_wp2
                  go_roundw
                  case rel => exact ⟨i + 1, c, T, by omega, by go_num, rfl, rfl, HC2.out.symm, HT.out, below_drewN hB _, HBX.out⟩
                  case measure => simp [intOf]; omega
                · have hyo : y.op = 11 := by simpa using h11
                  have hyn : y.label = x.label := by rw [beq_dec] at hyl; exact of_decide_eq_true hyl
                  have HC2 := Lib.hid (show lcnt (ls.take (i + 1)) x.label = c + 1 by rw [HC.out, if_pos ⟨hyo, hyn⟩])
                  have HT2 := Lib.hid (HIY.out hyo hyn)
                  clear HC hyo hyn HIY HT
                  go_wp2
                  go_quiet (fail)
                  go_wp2
                  go_roundw
                  case rel => exact ⟨i + 1, c + 1, i, by omega, by go_num, rfl, by go_num, HC2.out.symm, Or.inr HT2.out, below_drewN hB _, HBX.out⟩
                  case measure => simp [intOf]; omega
            · obtain rfl : ls.length = i := by omega
              rw [List.take_length] at hc
              have HCC := Lib.hid hc
              clear hc
              obtain ⟨z0, z1, z2, z3, z4⟩ := HZ.out wr hB
              have HJ2 := Lib.hid (HJ.out x wr)
              cases HJx : jmpB x
              · cases h11 : (x.op == 11)
                · cases h6 : (x.op == 6)
                  · have HIx : insB x = true := by unfold insB; rw [h6, h11]; rfl
                    have HLx : labB x = false := h11
                    rw [HIx] at HPI
                    simp only [if_true] at HPI
                    rw [HLx] at HPM
                    simp only [Bool.false_eq_true, if_false, Nat.add_zero] at HPM
                    clear HLx
                    clear HLB HJP HFN HCC HT HTK
                    rw [HJx] at HJ2
                    clear HJx
                    go_wp2_with fail
                    refine HJ2.out.mono ?_
                    rintro e wa ⟨rfl, hbb⟩
                    have hBa := chain hB hbb
                    have HBXa := Lib.hid (HBX.out.below hbb)
                    clear z0 z1 z2 z3 z4 hbb HJ2 hB HBX
                    obtain ⟨z0, z1, z2, z3, z4⟩ := HZ.out wa hBa
                    go_wp2_with fail
                    refine (HRR.out x _ (by have := hsz.1; omega) (by have := hsz.2.1; omega) (by have := hsz.2.2; omega)).mono ?_
                    rw [HRX.out]
                    rintro e wb ⟨rfl, hbb⟩
                    have hBb := chain hBa hbb
                    have HBXb := Lib.hid (HBXa.out.below hbb)
                    clear z0 z1 z2 z3 z4 hbb hBa HBXa
                    obtain ⟨z0, z1, z2, z3, z4⟩ := HZ.out wb hBb
                    have HI2 := Lib.hid (HIN.out x wb)
                    rw [HIx] at HI2
                    clear HIx
                    go_wp2_with fail
                    refine HI2.out.mono ?_
                    rintro e wc ⟨rfl, hbb⟩
                    have hBc := chain hBb hbb
                    have HBXc := Lib.hid (HBXb.out.below hbb)
                    clear z0 z1 z2 z3 z4 hbb hBb HBXb HI2
                    obtain ⟨z0, z1, z2, z3, z4⟩ := HZ.out wc hBc
                    go_wp2
                    go_roundw
                    case rel => exact ⟨m + 1, p + 1, q, by omega, by go_num, by go_num, rfl, HPI.out.symm, HPM.out.symm, hBc, HBXc.out⟩
                    case measure => simp [intOf]; omega
                  · have HIx : insB x = false := by unfold insB; rw [h6]; rfl
                    have HLx : labB x = false := h11
                    rw [HIx] at HPI
                    simp only [Bool.false_eq_true, if_false, Nat.add_zero] at HPI
                    rw [HLx] at HPM
                    simp only [Bool.false_eq_true, if_false, Nat.add_zero] at HPM
                    clear HLx
                    by_cases hm0 : m = 0
                    · subst hm0
                      replace HZ := Lib.hid (fun W hW => (show LnAt W b3 f3 x from by have := HZ.out W hW; rwa [Nat.zero_mul, Nat.add_zero] at this))
                      clear z0 z1 z2 z3 z4
                      obtain ⟨z0, z1, z2, z3, z4⟩ := HZ.out wr hB
                      clear HLB HJP HFN HCC HT HTK
                      rw [HJx] at HJ2
                      clear HJx
                      go_wp2_with fail
                      refine HJ2.out.mono ?_
                      rintro e wa ⟨rfl, hbb⟩
                      have hBa := chain hB hbb
                      have HBXa := Lib.hid (HBX.out.below hbb)
                      clear z0 z1 z2 z3 z4 hbb HJ2 hB HBX
                      obtain ⟨z0, z1, z2, z3, z4⟩ := HZ.out wa hBa
                      go_wp2_with fail
                      refine (HRR.out x _ (by have := hsz.1; omega) (by have := hsz.2.1; omega) (by have := hsz.2.2; omega)).mono ?_
                      rw [HRX.out]
                      rintro e wb ⟨rfl, hbb⟩
                      have hBb := chain hBa hbb
                      have HBXb := Lib.hid (HBXa.out.below hbb)
                      clear z0 z1 z2 z3 z4 hbb hBa HBXa
                      obtain ⟨z0, z1, z2, z3, z4⟩ := HZ.out wb hBb
                      have HI2 := Lib.hid (HIN.out x wb)
                      rw [HIx] at HI2
                      clear HIx
                      go_wp2_with fail
                      refine HI2.out.mono ?_
                      rintro e wc ⟨rfl, hbb⟩
                      have hBc := chain hBb hbb
                      have HBXc := Lib.hid (HBXb.out.below hbb)
                      clear z0 z1 z2 z3 z4 hbb hBb HBXb HI2
                      obtain ⟨z0, z1, z2, z3, z4⟩ := HZ.out wc hBc
                      go_wp2
                      go_roundw
                      case rel => exact ⟨0 + 1, p, q, by omega, by go_num, rfl, rfl, HPI.out.symm, HPM.out.symm, hBc, HBXc.out⟩
                      case measure => simp [intOf]; omega
                    · obtain ⟨n, rfl⟩ : ∃ n, m = n + 1 := ⟨m - 1, by omega⟩
                      have hy6 := HFN.out n (by omega) (by rw [← HX.out]; simpa using h6)
                      obtain ⟨p0, -⟩ := HZP.out wr hB n (by omega)
                      obtain ⟨y, hy⟩ : ∃ y, y = ls[n]'(by omega) := ⟨_, rfl⟩
                      rw [← hy] at p0 hy6
                      have HY := Lib.hid hy
                      have g6 : (y.op == 6) = false := by simpa using hy6
                      obtain ⟨g0, g1, g2⟩ := pred_facts n (by omega)
                      clear HLB HJP HFN HCC HT HTK hm0 hy hy6
                      rw [HJx] at HJ2
                      clear HJx
                      go_wp2_with fail
                      refine HJ2.out.mono ?_
                      rintro e wa ⟨rfl, hbb⟩
                      have hBa := chain hB hbb
                      have HBXa := Lib.hid (HBX.out.below hbb)
                      clear z0 z1 z2 z3 z4 hbb HJ2 hB HBX p0
                      obtain ⟨z0, z1, z2, z3, z4⟩ := HZ.out wa hBa
                      obtain ⟨p0, -⟩ := HZP.out wa hBa n (by omega)
                      rw [← HY.out] at p0
                      go_wp2_with fail
                      refine (HRR.out x _ (by have := hsz.1; omega) (by have := hsz.2.1; omega) (by have := hsz.2.2; omega)).mono ?_
                      rw [HRX.out]
                      rintro e wb ⟨rfl, hbb⟩
                      have hBb := chain hBa hbb
                      have HBXb := Lib.hid (HBXa.out.below hbb)
                      clear z0 z1 z2 z3 z4 hbb hBa HBXa p0
                      obtain ⟨z0, z1, z2, z3, z4⟩ := HZ.out wb hBb
                      have HI2 := Lib.hid (HIN.out x wb)
                      rw [HIx] at HI2
                      clear HIx
                      go_wp2_with fail
                      refine HI2.out.mono ?_
                      rintro e wc ⟨rfl, hbb⟩
                      have hBc := chain hBb hbb
                      have HBXc := Lib.hid (HBXb.out.below hbb)
                      clear z0 z1 z2 z3 z4 hbb hBb HBXb HI2
                      obtain ⟨z0, z1, z2, z3, z4⟩ := HZ.out wc hBc
                      go_wp2
                      go_roundw
                      case rel => exact ⟨(n + 1) + 1, p, q, by omega, by go_num, rfl, rfl, HPI.out.symm, HPM.out.symm, hBc, HBXc.out⟩
                      case measure => simp [intOf]; omega
                · have h6 : (x.op == 6) = false := op_ne (by simpa using h11) (by decide)
                  have HIx : insB x = false := by unfold insB; rw [h11]; simp
                  have HLx : labB x = true := h11
                  have hc1 : c = 1 := by rw [HCC.out]; exact HLB.out (by simpa using h11)
                  subst hc1
                  rw [HIx] at HPI
                  simp only [Bool.false_eq_true, if_false, Nat.add_zero] at HPI
                  rw [HLx] at HPM
                  simp only [if_true] at HPM
                  clear HLx
                  clear HLB HJP HFN HCC HT HTK
                  rw [HJx] at HJ2
                  clear HJx
                  go_wp2_with fail
                  refine HJ2.out.mono ?_
                  rintro e wa ⟨rfl, hbb⟩
                  have hBa := chain hB hbb
                  have HBXa := Lib.hid (HBX.out.below hbb)
                  clear z0 z1 z2 z3 z4 hbb HJ2 hB HBX
                  obtain ⟨z0, z1, z2, z3, z4⟩ := HZ.out wa hBa
                  go_wp2_with fail
                  refine (HRR.out x _ (by have := hsz.1; omega) (by have := hsz.2.1; omega) (by have := hsz.2.2; omega)).mono ?_
                  rw [HRX.out]
                  rintro e wb ⟨rfl, hbb⟩
                  have hBb := chain hBa hbb
                  have HBXb := Lib.hid (HBXa.out.below hbb)
                  clear z0 z1 z2 z3 z4 hbb hBa HBXa
                  obtain ⟨z0, z1, z2, z3, z4⟩ := HZ.out wb hBb
                  have HI2 := Lib.hid (HIN.out x wb)
                  rw [HIx] at HI2
                  clear HIx
                  go_wp2_with fail
                  refine HI2.out.mono ?_
                  rintro e wc ⟨rfl, hbb⟩
                  have hBc := chain hBb hbb
                  have HBXc := Lib.hid (HBXb.out.below hbb)
                  clear z0 z1 z2 z3 z4 hbb hBb HBXb HI2
                  obtain ⟨z0, z1, z2, z3, z4⟩ := HZ.out wc hBc
                  go_wp2
                  go_roundw
                  case rel => exact ⟨m + 1, p, q + 1, by omega, by go_num, rfl, by go_num, HPI.out.symm, HPM.out.symm, hBc, HBXc.out⟩
                  case measure => simp [intOf]; omega
              · have hop : 8 ≤ x.op ∧ x.op ≤ 10 := by unfold jmpB at HJx; simpa using HJx
                have h11 : (x.op == 11) = false := beq_eq_false_iff_ne.2 (by omega)
                have h6 : (x.op == 6) = false := beq_eq_false_iff_ne.2 (by omega)
                have HIx : insB x = true := by unfold insB; rw [h6, h11]; rfl
                have HLx : labB x = false := h11
                obtain ⟨hj1, hj2⟩ := HJP.out HJx
                have hc1 : c = 1 := by rw [HCC.out]; exact hj1
                have hTm : decide (T ≤ (m : Int)) = false := decide_eq_false (by
                  rcases HT.out with ⟨_, h0⟩ | ⟨j, hj, e1, e2, e3⟩
                  · omega
                  · have := hj2 j hj e2 e3; omega)
                subst hc1
                clear hop hj1 hj2
                rw [HIx] at HPI
                simp only [if_true] at HPI
                rw [HLx] at HPM
                simp only [Bool.false_eq_true, if_false, Nat.add_zero] at HPM
                clear HLx
                clear HLB HJP HFN HCC HT HTK
                rw [HJx] at HJ2
                clear HJx
                go_wp2_with fail
                refine HJ2.out.mono ?_
                rintro e wa ⟨rfl, hbb⟩
                have hBa := chain hB hbb
                have HBXa := Lib.hid (HBX.out.below hbb)
                clear z0 z1 z2 z3 z4 hbb HJ2 hB HBX
                obtain ⟨z0, z1, z2, z3, z4⟩ := HZ.out wa hBa
                go_wp2_with fail
                refine (HRR.out x _ (by have := hsz.1; omega) (by have := hsz.2.1; omega) (by have := hsz.2.2; omega)).mono ?_
                rw [HRX.out]
                rintro e wb ⟨rfl, hbb⟩
                have hBb := chain hBa hbb
                have HBXb := Lib.hid (HBXa.out.below hbb)
                clear z0 z1 z2 z3 z4 hbb hBa HBXa
                obtain ⟨z0, z1, z2, z3, z4⟩ := HZ.out wb hBb
                have HI2 := Lib.hid (HIN.out x wb)
                rw [HIx] at HI2
                clear HIx
                go_wp2_with fail
                refine HI2.out.mono ?_
                rintro e wc ⟨rfl, hbb⟩
                have hBc := chain hBb hbb
                have HBXc := Lib.hid (HBXb.out.below hbb)
                clear z0 z1 z2 z3 z4 hbb hBb HBXb HI2
                obtain ⟨z0, z1, z2, z3, z4⟩ := HZ.out wc hBc
                go_wp2
                go_roundw
                case rel => exact ⟨m + 1, p + 1, q, by omega, by go_num, by go_num, rfl, HPI.out.symm, HPM.out.symm, hBc, HBXc.out⟩
                case measure => simp [intOf]; omega
        · obtain rfl : ls.length = m := by omega
          obtain ⟨t0, t1, t2, t3, t4⟩ := HBX.out
          rw [List.take_length] at hp hq
          have g1 := cI_eight HTK.out ls.length (Nat.le_refl _)
          have g2 := cM_eight HTK.out ls.length (Nat.le_refl _)
          rw [List.take_length] at g1 g2
          have q1 : decide ((8 : Int) < (p : Int)) = false := decide_eq_false (by omega)
          have q2 : decide ((8 : Int) < (q : Int)) = false := decide_eq_false (by omega)
          clear hp hq g1 g2
          go_wp2
          go_roundw
          case rel => exact ⟨k + 1, by omega, by go_num, hB, HBX.out⟩
          case measure => simp [intOf]; omega
    · obtain rfl : F.ths.length = k := by omega
      have q1 : decide ((1 : Int) ≤ (F.ths.length : Int)) = true := decide_eq_true (by omega)
      have q2 : decide ((F.ths.length : Int) ≤ 3) = true := decide_eq_true (by omega)
      clear hb3
      go_wp2
      go_ret
      exact ⟨rfl, hB⟩
end Go.Proofs.YtclhgmopphhalaaGreatDoor
