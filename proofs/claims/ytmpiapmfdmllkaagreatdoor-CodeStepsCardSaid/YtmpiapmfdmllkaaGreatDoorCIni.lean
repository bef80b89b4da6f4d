/-
  CodeInit, as a walk over any world that holds the listed variables: it returns true.
-/
import Derived.Test.YtmpiapmfdmllkaaGreatDoorCRt
import Derived.Test.YtmpiapmfdmllkaaGreatDoorCdR
namespace Go.Proofs.YtmpiapmfdmllkaaGreatDoor
open Go.RowKit
set_option linter.unusedVariables false
set_option linter.unusedSimpArgs false
open WordM (L)
open VM
open CodM (St Pg codP codE rightP fstN lastN)

def CiRel (cs : List (L × Int)) (s : L) (w1 w : World) (x i : Value) (wr : World) : Prop :=
  ∃ (k : Nat) (n : Int), k ≤ cs.length ∧ i = .int .i64 k ∧ x = .int .i64 n ∧ n = lastN (cs.take k) s ∧ Below w.heap.size w wr ∧ Below w1.heap.size w1 wr
set_option maxHeartbeats 8000000 in
set_option maxRecDepth 100000 in
theorem cinit_law {v : Value} {F : Fl} (a : Nat) (w : World) (hr : Regs w) (hg : EA.ErrG w) (hp : PartsG w) (hv : FlV w.heap.size w v F) (hi : IntsOk F) (ha : a < 256) :
    Calls Tryz.prog 7 #[v, .int .u8 a] w fun e w' => e = .returned (.bool true) ∧ Below w.heap.size w w' := by
  obtain ⟨vi, vt, vc, rfl, hm⟩ := hv
  have HM := Lib.hid hm
  have HHd := Lib.hid (fun W (hW : Below w.heap.size w W) => chead_any W (hr.below hW) (hg.below hW) (hp.below hW))
  have HV := Lib.hid (fun W (hW : Below w.heap.size w W) => show FlV W.heap.size W (flv ⟨F.name.toArray⟩ vi vt vc F.all) F from ⟨vi, vt, vc, rfl, (HM.out.below hW).more hW.size⟩)
  have HGF := Lib.hid (fun W (hW : Below w.heap.size w W) => vgreat_any W (HV.out W hW) (Nat.le_refl _))
  have HCo := Lib.hid (fun (ok : FlOk F) W (hW : Below w.heap.size w W) => ccode_any W (hr.below hW) (hg.below hW) (HV.out W hW) (Nat.le_refl _) ok)
  have HRF := Lib.hid (fun (ok : FlOk F) W (hW : Below w.heap.size w W) => rvright_any W (HV.out W hW) (Nat.le_refl _) ok)
  have HLF := Lib.hid (fun (ok : FlOk F) W (hW : Below w.heap.size w W) => rvlocs_any W (HV.out W hW) (Nat.le_refl _) ok)
  have HI := Lib.hid hi
  obtain ⟨⟨A0, c0, rfl, hi1, hi2, hi3⟩, ⟨A2, c2, rfl, -⟩, ⟨A1, c1, rfl, -⟩⟩ := hm
  unfold flv maxLen at *
  have hB := below_al (Below.refl w.heap.size w) (.cells #[.string ⟨F.name.toArray⟩, .slice A0 F.init.length c0, .slice A2 F.ths.length c2, .bool F.all, .slice A1 F.cond.length c1] 26)
  have hbx := Lib.hid (FlBox.at (w := w) rfl ⟨F.name.toArray⟩ (.slice A0 F.init.length c0) (.slice A2 F.ths.length c2) (.slice A1 F.cond.length c1) F.all 26)
  obtain ⟨t0, t1, t2, t3, t4⟩ := hbx.out
  clear hr hg hp HM HV hi
  go_enter Tryz.func7, Tryz.ntmps7
  go_wp2_with fail
  refine (HHd.out _ hB).mono ?_
  rintro e w1 ⟨rfl, hbb⟩
  replace hB := chain hB hbb
  replace hbx := Lib.hid (hbx.out.below hbb)
  clear t0 t1 t2 t3 t4 hbb HHd
  obtain ⟨t0, t1, t2, t3, t4⟩ := hbx.out
  go_wp2_with fail
  refine (HGF.out _ hB).mono ?_
  rintro e w2 ⟨gb, rfl, hsx, hbb⟩
  replace hB := chain hB hbb
  replace hbx := Lib.hid (hbx.out.below hbb)
  clear t0 t1 t2 t3 t4 hbb HGF
  obtain ⟨t0, t1, t2, t3, t4⟩ := hbx.out
  cases gb
  case true =>
    go_wp2
    go_ret
    exact ⟨rfl, hB⟩
  have HS := Lib.hid (hsx rfl)
  have HOK := Lib.hid (HS.out.ok HI.out)
  clear hsx
  go_wp2_with fail
  refine (HRF.out HOK.out _ hB).mono ?_
  rintro e w3 ⟨rfl, hbb⟩
  replace hB := chain hB hbb
  replace hbx := Lib.hid (hbx.out.below hbb)
  clear t0 t1 t2 t3 t4 hbb HRF
  obtain ⟨t0, t1, t2, t3, t4⟩ := hbx.out
  by_cases hq : VM.right F = true
  case neg =>
    have hqf : VM.right F = false := by simpa using hq
    rw [hqf]
    clear hqf hq
    go_wp2
    go_ret
    exact ⟨rfl, hB⟩
  have HQ := Lib.hid hq
  rw [hq]
  clear hq
  go_wp2_with fail
  refine (HCo.out HOK.out _ hB).mono ?_
  rintro e w4 ⟨ui, ut, rfl, hpg, hbb⟩
  have HPG := Lib.hid hpg
  obtain ⟨⟨Ai, ni, rfl, -⟩, ⟨At, nt, rfl, -⟩⟩ := hpg
  replace hB := chain hB hbb
  replace hbx := Lib.hid (hbx.out.below hbb)
  clear t0 t1 t2 t3 t4 hbb HCo
  have hbA := below_al (Below.refl w4.heap.size w4) (.cells #[.slice Ai (codP F).init.length ni, .slice At (codP F).ths.length nt] 30)
  have HX := Lib.hid (PgBox.at (w := w4) rfl (.slice Ai (codP F).init.length ni) (.slice At (codP F).ths.length nt) 30)
  replace HPG := Lib.hid ((HPG.out.below hbA).more hbA.size)
  replace hB := chain hB hbA
  replace hbx := Lib.hid (hbx.out.below hbA)
  clear hbA
  obtain ⟨t0, t1, t2, t3, t4⟩ := hbx.out
  obtain ⟨g, hgg⟩ : ∃ g, g = w.heap.size := ⟨_, rfl⟩
  rw [← hgg] at hbx t0 t1 t2 t3 t4 ⊢
  clear hgg
  go_wp2_with fail
  refine (HLF.out HOK.out _ hB).mono ?_
  rintro e w5 ⟨vl, rfl, hol, hbb⟩
  obtain ⟨g4, hg4⟩ : ∃ g, g = w4.heap.size := ⟨_, rfl⟩
  rw [← hg4] at HX ⊢
  clear hg4
  replace hB := chain hB hbb
  replace hbx := Lib.hid (hbx.out.below hbb)
  replace HX := Lib.hid (HX.out.below hbb)
  replace HPG := Lib.hid ((HPG.out.below hbb).more hbb.size)
  have HLS := Lib.hid (strs_own hol)
  obtain ⟨AL, cL, rfl⟩ := own_slice hol
  clear t0 t1 t2 t3 t4 hbb HLF hol
  obtain ⟨t0, t1, t2, t3, t4⟩ := hbx.out
  obtain ⟨y0, y1⟩ := HX.out
  obtain ⟨l1, l2⟩ := cod_lens HQ.out
  have h4 : (locsR F).length ≤ 4 := by
    have : locsR F = locs F := by unfold locsR; rw [if_pos HQ.out]
    rw [this]; exact locs_four HQ.out
  have hin : (codP F).init = (locsR F).map (fstN F.init) := by unfold codP; rw [if_pos HQ.out]
  have qa : (((codP F).init.length : Int) != ((locsR F).length : Int)) = false := by rw [l2]; simp
  by_cases hz : (locsR F).length = 0
  · have qz : (((locsR F).length : Int) == 0) = true := by rw [hz]; rfl
    clear hz l1 l2 hin
    go_wp2
    go_ret
    exact ⟨rfl, hB⟩
  have hz0 : 0 < (locsR F).length := by omega
  have qz : (((locsR F).length : Int) == 0) = false := by rw [beq_eq_false_iff_ne]; omega
  obtain ⟨k, hk, m1, m2⟩ := mod_lay a (locsR F).length hz0
  have hk2 : k < (codP F).init.length := by rw [l2]; exact hk
  obtain ⟨AL', cL', eL, -, -, hL3⟩ := id HLS.out
  obtain ⟨bL, fL, e2, hbL, hcL⟩ := hL3 hz0
  obtain ⟨Ai', ni', ei, -, hni, hI3⟩ := id HPG.out.1
  obtain ⟨bI, fI, e3, hbI, hcI⟩ := hI3 (by omega)
  injection eL with eL _ eL2
  injection ei with ei _ ei2
  subst eL; subst ei; subst eL2; subst ei2; subst e2; subst e3
  have zL := hcL k hk
  have zI := hcI k hk2
  unfold sv at zL
  unfold IntAt at zI
  have hval : (codP F).init[k] = fstN F.init (locsR F)[k] := by
    have : (codP F).init[k]? = some (fstN F.init (locsR F)[k]) := by
      rw [hin, List.getElem?_map, List.getElem?_eq_getElem hk]; rfl
    rw [List.getElem?_eq_getElem hk2] at this
    exact Option.some.inj this
  rw [hval] at zI
  have HLA := Lib.hid (CodM.lastN_one HQ.out (locsR F)[k])
  have hcb : cL ≤ 2 ^ 63 - 1 := by
    obtain ⟨_, _, e, _, h, _⟩ := HLS.out
    injection e with _ _ e
    subst e
    unfold maxLen at h; exact h
  unfold maxLen at hni
  obtain ⟨s, hs⟩ : ∃ s, s = (locsR F)[k] := ⟨_, rfl⟩
  rw [← hs] at zL zI HLA
  obtain ⟨f, hf⟩ : ∃ f, f = fstN F.init s := ⟨_, rfl⟩
  rw [← hf] at zI HLA
  have h60 := HS.out.n2
  have ZL := Lib.hid zL
  have ZI := Lib.hid zI
  have HK2 := Lib.hid hk2
  have hil : (codP F).init.length ≤ 4 := by omega
  clear hs hf hval hin hcL hcI hL3 hI3 l1 l2 hz
  generalize (codP F).init.length = ni0 at *
  generalize (codP F).ths.length = nt0 at *
  generalize (locsR F).length = nL at *
  go_wp2
  go_loopw [10, 11] (fun x i wr => CiRel F.init s w5 w x i wr) (fun _ i _ => F.init.length - (intOf i).toNat)
  case atStart => exact ⟨0, 0, Nat.zero_le _, rfl, rfl, rfl, hB, Below.refl _ _⟩
  case round =>
    obtain ⟨m, n, hm, rfl, rfl, hn, hB2, hW⟩ := hrel
    have HN := Lib.hid hn
    clear hn t0 t1 t2 t3 t4 y0 y1 zL zI
    obtain ⟨t0, t1, t2, t3, t4⟩ := hbx.out.below hW
    obtain ⟨y0, y1⟩ := HX.out.below hW
    have zL := kc hW ZL.out
    have zI := kc hW ZI.out
    by_cases hlt : m < F.init.length
    · obtain ⟨b1, f1, rfl, hb1, hcl⟩ := hi3 (by omega)
      obtain ⟨z0, z1⟩ := (hcl m hlt).below hB2 hb1
      have HT := Lib.hid (CodM.lastN_take F.init s m hlt)
      have q := beq_dec F.init[m].1 s
      obtain ⟨x, hx⟩ : ∃ x, x = F.init[m] := ⟨_, rfl⟩
      rw [← hx] at z0 z1 HT q
      clear hx hcl hi3
      by_cases he : x.1 = s
      · rw [decide_eq_true he] at q
        have HE := Lib.hid (show lastN (F.init.take (m + 1)) s = x.2 by rw [HT.out, if_pos he])
        clear he HT
        go_wp2
        go_quiet (fail)
        go_wp2
        go_roundw
        case rel => exact ⟨m + 1, _, by omega, by go_num, rfl, HE.out.symm, below_drewN hB2 _, below_drewN hW _⟩
        case measure => simp [intOf]; omega
      · rw [decide_eq_false he] at q
        have HE := Lib.hid (show lastN (F.init.take (m + 1)) s = n by rw [HT.out, if_neg he, HN.out])
        clear he HT
        go_wp2
        go_quiet (fail)
        go_wp2
        go_roundw
        case rel => exact ⟨m + 1, _, by omega, by go_num, rfl, HE.out.symm, below_drewN hB2 _, below_drewN hW _⟩
        case measure => simp [intOf]; omega
    · obtain rfl : F.init.length = m := by omega
      have hnf : n = f := by rw [HN.out, List.take_length]; exact HLA.out
      have qn : (f == n) = true := by simp [hnf]
      clear hi3 hnf
      go_wp2
      go_ret
      exact ⟨rfl, hB2⟩
end Go.Proofs.YtmpiapmfdmllkaaGreatDoor
