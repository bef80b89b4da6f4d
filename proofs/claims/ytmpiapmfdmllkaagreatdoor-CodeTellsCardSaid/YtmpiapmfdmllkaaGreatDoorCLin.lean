/-
  CodeLines, as a walk over any world that holds the listed variables: it returns true.
-/
import Derived.Test.YtmpiapmfdmllkaaGreatDoorCHa
import Derived.Test.YtmpiapmfdmllkaaGreatDoorGreat
namespace Go.Proofs.YtmpiapmfdmllkaaGreatDoor
open Go.RowKit
set_option linter.unusedVariables false
set_option linter.unusedSimpArgs false
open WordM (L)
open VM
open CodM (St Pg hasS cnt atI lineI lnP)

theorem cd_ths {F : Fl} (h : Small F) : F.ths.length ≤ 1000000 ∧ ∀ ls ∈ F.ths, ls.length ≤ 1000000 := by
  refine ⟨by have := h.n1; omega, fun ls hl => ?_⟩
  obtain ⟨j, hj, rfl⟩ := List.mem_iff_getElem.1 hl
  have := (h.ths j hj).1
  omega
theorem mod_lay (a n : Nat) (hn : 0 < n) : ∃ t : Nat, t < n ∧ (a : Int).tmod (n : Int) = (t : Int) ∧ (a : Int) % (n : Int) = (t : Int) := by
  refine ⟨a % n, Nat.mod_lt _ hn, ?_, ?_⟩
  · rw [Int.tmod_eq_emod_of_nonneg (by omega)]; omega
  · omega
set_option maxHeartbeats 8000000 in
set_option maxRecDepth 100000 in
theorem clin_any {v : Value} {F : Fl} (a b : Nat) (w : World) (hr : Regs w) (hg : EA.ErrG w) (hp : PartsG w) (hv : FlV w.heap.size w v F) (ha : a < 256) (hb : b < 256) :
    Calls Tryz.prog 5 #[v, .int .u8 a, .int .u8 b] w fun e w' => e = .returned (.bool true) ∧ Below w.heap.size w w' := by
  obtain ⟨vi, vt, vc, rfl, hm⟩ := hv
  have HM := Lib.hid hm
  have HHd := Lib.hid (fun W (hW : Below w.heap.size w W) => chead_any W (hr.below hW) (hg.below hW) (hp.below hW))
  have HV := Lib.hid (fun W (hW : Below w.heap.size w W) => show FlV W.heap.size W (flv ⟨F.name.toArray⟩ vi vt vc F.all) F from ⟨vi, vt, vc, rfl, (HM.out.below hW).more hW.size⟩)
  have HGF := Lib.hid (fun W (hW : Below w.heap.size w W) => vgreat_any W (HV.out W hW) (Nat.le_refl _))
  have HAt := Lib.hid (fun (hs : Small F) (t k : Int) W (hW : Below w.heap.size w W) => cat_any t k W (HV.out W hW) (Nat.le_refl _) (cd_ths hs).1 (cd_ths hs).2)
  have HLn := Lib.hid (fun (hs : Small F) (t k : Int) W (hW : Below w.heap.size w W) (h : NumM.inR k) => cline_any t k W (HV.out W hW) (Nat.le_refl _) (cd_ths hs).1 (cd_ths hs).2 h)
  obtain ⟨⟨A0, c0, rfl, -⟩, ⟨A2, c2, rfl, hl1, hl2, hl3⟩, ⟨A1, c1, rfl, -⟩⟩ := hm
  unfold flv maxLen at *
  have hB := below_al (Below.refl w.heap.size w) (.cells #[.string ⟨F.name.toArray⟩, .slice A0 F.init.length c0, .slice A2 F.ths.length c2, .bool F.all, .slice A1 F.cond.length c1] 26)
  have hbx := Lib.hid (FlBox.at (w := w) rfl ⟨F.name.toArray⟩ (.slice A0 F.init.length c0) (.slice A2 F.ths.length c2) (.slice A1 F.cond.length c1) F.all 26)
  obtain ⟨t0, t1, t2, t3, t4⟩ := hbx.out
  clear hr hg hp HM HV
  go_enter Tryz.func5, Tryz.ntmps5
  go_wp2_with fail
  refine (HHd.out _ hB).mono ?_
  rintro e w1 ⟨rfl, hbb⟩
  replace hB := chain hB hbb
  replace hbx := Lib.hid (hbx.out.below hbb)
  clear t0 t1 t2 t3 t4 hbb HHd
  obtain ⟨t0, t1, t2, t3, t4⟩ := hbx.out
  go_wp2_with fail
  refine (HGF.out _ hB).mono ?_
  rintro e w2 ⟨gb, rfl, hsx, hbb⟩
  replace hB := chain hB hbb
  replace hbx := Lib.hid (hbx.out.below hbb)
  clear t0 t1 t2 t3 t4 hbb HGF
  obtain ⟨t0, t1, t2, t3, t4⟩ := hbx.out
  cases gb
  case true =>
    go_wp2
    go_ret
    exact ⟨rfl, hB⟩
  have HS := Lib.hid (hsx rfl)
  clear hsx
  by_cases hz : F.ths.length = 0
  · have q : ((F.ths.length : Int) == 0) = true := by simp [hz]
    have HZ := Lib.hid hz
    clear hz
    go_wp2
    go_ret
    exact ⟨rfl, hB⟩
  have hz1 : 0 < F.ths.length := by omega
  have q : ((F.ths.length : Int) == 0) = false := by rw [beq_eq_false_iff_ne]; omega
  have hn9 := HS.out.n1
  obtain ⟨t, htl, m1, m2⟩ := mod_lay a F.ths.length hz1
  obtain ⟨b1, f1, rfl, hb1, hcl⟩ := hl3 hz1
  obtain ⟨u, z0, hL⟩ := hcl t htl
  have y0 := (hB.cell (p := ⟨b1, f1 + t, none⟩) hb1).trans z0
  have hln := (HS.out.ths t htl).1
  obtain ⟨ls, hx⟩ : ∃ x, x = F.ths[t] := ⟨_, rfl⟩
  rw [← hx] at hL hln
  obtain ⟨A3, c3, rfl, he1, he2, he3⟩ := hL
  unfold maxLen at he2
  obtain ⟨k, hkl, m3, m4⟩ := mod_lay b (ls.length + 1) (Nat.succ_pos _)
  have m5 : (b : Int).tmod ((ls.length : Int) + 1) = (k : Int) := m3
  have m6 : (b : Int) % ((ls.length : Int) + 1) = (k : Int) := m4
  have hkb : k ≤ ls.length := by omega
  have hck := CodM.cnt_le ls k
  have hc1 := fun (h : k < ls.length) => CodM.cnt_take ls k h
  have HA1 := Lib.hid (show atI F t k = (cnt (ls.take k) : Nat) by rw [hx]; exact atI_in htl (by rw [← hx]; exact hkb))
  have HA0 := Lib.hid (show atI F t 0 = 0 by
    have := atI_in (k := 0) htl (Nat.zero_le _)
    rw [show ((0 : Nat) : Int) = 0 from rfl] at this
    rw [this]; rfl)
  have HLm := Lib.hid (show lineI F t (-1) = -1 by rw [lineI_in htl]; exact CodM.lnP_over (.inl (by omega)))
  have HLx := Lib.hid (fun (n : Int) => show lineI F t n = lnP ls n by rw [hx]; exact lineI_in htl)
  have HAx := Lib.hid (fun (h : k + 1 ≤ ls.length) => show atI F t ((k : Int) + 1) = (cnt (ls.take (k + 1)) : Nat) by
    have := atI_in (k := k + 1) htl (by rw [← hx]; exact h)
    rw [show (((k + 1 : Nat)) : Int) = (k : Int) + 1 by omega] at this
    rw [this, ← hx])
  have C1 := Lib.hid (HA1.out ▸ HAt.out HS.out t k)
  have C0 := Lib.hid (HA0.out ▸ HAt.out HS.out t 0)
  have Cm := Lib.hid (fun W hW => HLm.out ▸ HLn.out HS.out t (-1) W hW (by unfold NumM.inR; omega))
  have Cx := Lib.hid (fun (n : Nat) (hn : n ≤ 1000) W hW => HLx.out n ▸ HLn.out HS.out t n W hW (by unfold NumM.inR; omega))
  have Cy := Lib.hid (fun (h : k + 1 ≤ ls.length) => HAx.out h ▸ HAt.out HS.out t ((k : Int) + 1))
  have HLN := Lib.hid (fun (h : k < ls.length) (c : hasS ls[k] = true) => CodM.lnP_hit h c rfl)
  have HLO := Lib.hid (fun (h : ls.length ≤ k) => show lnP ls (cnt (ls.take k) : Nat) = -1 from CodM.lnP_over (.inr (by rw [List.take_of_length_le h]; omega)))
  have HT := Lib.hid hc1
  obtain ⟨n, hn⟩ : ∃ n, n = cnt (ls.take k) := ⟨_, rfl⟩
  rw [← hn] at C1 HLO hck
  replace HLN := Lib.hid (fun (h : k < ls.length) (c : hasS ls[k] = true) => show lnP ls n = k by rw [hn]; exact HLN.out h c)
  have HNN := Lib.hid hn
  clear hx hn hc1 HA1 HA0 HLm HLx HAx HAt HLn hcl z0
  go_wp2_with fail
  refine (C1.out _ hB).mono ?_
  rintro e w3 ⟨rfl, hbb⟩
  replace hB := chain hB hbb
  replace hbx := Lib.hid (hbx.out.below hbb)
  clear t0 t1 t2 t3 t4 y0 hbb C1
  obtain ⟨t0, t1, t2, t3, t4⟩ := hbx.out
  go_wp2_with fail
  refine (C0.out _ hB).mono ?_
  rintro e w4 ⟨rfl, hbb⟩
  replace hB := chain hB hbb
  replace hbx := Lib.hid (hbx.out.below hbb)
  clear t0 t1 t2 t3 t4 hbb C0
  obtain ⟨t0, t1, t2, t3, t4⟩ := hbx.out
  go_wp2_with fail
  refine (Cm.out _ hB).mono ?_
  rintro e w5 ⟨rfl, hbb⟩
  replace hB := chain hB hbb
  replace hbx := Lib.hid (hbx.out.below hbb)
  clear t0 t1 t2 t3 t4 hbb Cm
  obtain ⟨t0, t1, t2, t3, t4⟩ := hbx.out
  by_cases hk : k = ls.length
  · have HE := Lib.hid (HLO.out (by omega))
    have q2 : ((k : Int) == (ls.length : Int)) = true := by simp [hk]
    have HKK := Lib.hid hk
    have C2 := Lib.hid (fun W hW => HE.out ▸ Cx.out n (by omega) W hW)
    clear hk HLO HLN HT Cx Cy
    go_wp2_with fail
    refine (C2.out _ hB).mono ?_
    rintro e w6 ⟨rfl, hbb⟩
    replace hB := chain hB hbb
    clear t0 t1 t2 t3 t4 hbb C2
    go_wp2
    go_ret
    exact ⟨rfl, hB⟩
  have hkl' : k < ls.length := by omega
  have q2 : ((k : Int) == (ls.length : Int)) = false := by rw [beq_eq_false_iff_ne]; omega
  obtain ⟨b3, f3, rfl, hb3, hc3⟩ := he3 (by omega)
  obtain ⟨z0, -, -, -, -⟩ := (hc3 k hkl').below hB hb3
  replace HT := Lib.hid (HT.out hkl')
  replace HLN := Lib.hid (HLN.out hkl')
  replace Cy := Lib.hid (Cy.out hkl')
  obtain ⟨x, hx⟩ : ∃ x, x = ls[k] := ⟨_, rfl⟩
  rw [← hx] at z0 HT HLN
  clear hx hc3 he3 hk HLO
  by_cases ho : x.op = 11
  · have q3 : (x.op == 11) = true := by simp [ho]
    have HE := Lib.hid (show (cnt (ls.take (k + 1)) : Int) = n by rw [HT.out, ← HNN.out, show hasS x = false by unfold CodM.hasS; simp [ho]]; rfl)
    have C2 := Lib.hid (HE.out ▸ Cy.out)
    clear ho HT HLN Cx Cy
    go_wp2_with fail
    refine (C2.out _ hB).mono ?_
    rintro e w6 ⟨rfl, hbb⟩
    replace hB := chain hB hbb
    clear t0 t1 t2 t3 t4 hbb C2
    go_wp2
    go_ret
    exact ⟨rfl, hB⟩
  · have q3 : (x.op == 11) = false := by simpa using ho
    have hs : hasS x = true := by unfold CodM.hasS; simp [ho]
    have HE := Lib.hid (show (cnt (ls.take (k + 1)) : Int) = (n : Int) + 1 by rw [HT.out, ← HNN.out, hs]; rfl)
    have HE2 := Lib.hid (HLN.out hs)
    have C2 := Lib.hid (HE.out ▸ Cy.out)
    have C3 := Lib.hid (fun W hW => HE2.out ▸ Cx.out n (by omega) W hW)
    clear ho hs HT HLN Cx Cy
    go_wp2_with fail
    refine (C3.out _ hB).mono ?_
    rintro e w6 ⟨rfl, hbb⟩
    replace hB := chain hB hbb
    replace hbx := Lib.hid (hbx.out.below hbb)
    clear t0 t1 t2 t3 t4 hbb C3 z0
    obtain ⟨t0, t1, t2, t3, t4⟩ := hbx.out
    go_wp2_with fail
    refine (C2.out _ hB).mono ?_
    rintro e w7 ⟨rfl, hbb⟩
    replace hB := chain hB hbb
    clear t0 t1 t2 t3 t4 hbb C2
    go_wp2
    go_ret
    exact ⟨rfl, hB⟩
end Go.Proofs.YtmpiapmfdmllkaaGreatDoor
