/-
  THE DOCUMENT's line: a jump to a label that stands behind.
-/
import Derived.Test.YtaelfjphgdlbcaaRLn0
namespace Go.Proofs.Ytaelfjphgdlbcaa
open Go.RowKit
set_option linter.unusedVariables false
set_option linter.unusedSimpArgs false
open WordM (L)
open VM

set_option maxHeartbeats 8000000 in
set_option maxRecDepth 100000 in
theorem rline_i {B : Nat} {v : Value} {ls : List OpsM.Ln} {k : Nat} (w : World) (h : Lns B w v ls) (hBB : B ≤ w.heap.size) (hk : k < ls.length) (hn : ls.length ≤ 100000) (hs : ∀ l ∈ ls, l.reg.length ≤ 100000 ∧ l.loc.length ≤ 100000 ∧ l.label.length ≤ 100000) (hR : ¬ OpsM.rightL ls[k] = false) (h11 : ¬ ls[k].op = 11) (h6 : ¬ ls[k].op = 6) (hj : jmpB ls[k] = true) (hl : ¬ lcnt (ls.drop (k + 1)) ls[k].label = 0) :
    Calls Try.prog 67 #[v, .int .i64 k] w fun e w' => e = .returned (.int .i64 (lnC ls k)) ∧ Below w.heap.size w w' := by
  obtain ⟨A1, c1, rfl, ha1, ha2, ha3⟩ := h
  obtain ⟨b1, f1, rfl, hb1, hcl⟩ := ha3 (by omega)
  have HC := Lib.hid (lnC_take ls k hk)
  have hxs := hs ls[k] (List.getElem_mem _)
  have HS := Lib.hid hs
  have hat := hcl k hk
  have HCL := Lib.hid hcl
  have HT := Lib.hid (fun W (hW : Below w.heap.size w W) => lns_take (B := W.heap.size) (Nat.lt_of_lt_of_le hb1 (Nat.le_trans hBB hW.size)) (Nat.le_of_lt hk) ha1 ha2 (fun j hj => (hcl j hj).below (hW.mono hBB) hb1))
  have HD := Lib.hid (fun W (hW : Below w.heap.size w W) => lns_drop (B := W.heap.size) (k := k + 1) (Nat.lt_of_lt_of_le hb1 (Nat.le_trans hBB hW.size)) hk ha1 ha2 (fun j hj => (hcl j hj).below (hW.mono hBB) hb1))
  obtain ⟨x, hx⟩ : ∃ x, x = ls[k] := ⟨_, rfl⟩
  rw [← hx] at hxs hat
  obtain ⟨d0, d1, d2, d3, d4⟩ := hat
  replace HC := Lib.hid (HC.out.trans (by rw [← hx]))
  have HX := Lib.hid hx
  have hB0 := below_al (Below.refl w.heap.size w) (.cells #[.int .i64 x.op, .string ⟨x.reg.toArray⟩, .string ⟨x.loc.toArray⟩, .string ⟨x.label.toArray⟩, .int .i64 x.n] 60)
  have hbx0 := Lib.hid (show BxL (w.alloc (.cells #[.int .i64 x.op, .string ⟨x.reg.toArray⟩, .string ⟨x.loc.toArray⟩, .string ⟨x.label.toArray⟩, .int .i64 x.n] 60)) w.heap.size x from LnBox.at rfl _ _ _ _ _ _)
  have HR := Lib.hid (fun W => rright_l x W hxs.1 hxs.2.1 hxs.2.2)
  have HJ := Lib.hid (fun W => rjump_l x W)
  have HI := Lib.hid (fun W => rinstr_l x W)
  clear hx hcl ha3 hs hxs
  have hq1 : (k : Int) ≤ (ls.length : Int) := by omega
  have hq2 : (0 : Int) ≤ (k : Int) := by omega
  unfold maxLen at ha2
  have HRr := Lib.hid (show ¬ OpsM.rightL x = false by rw [HX.out]; exact hR)
  have hR' : OpsM.rightL x = true := by have := HRr.out; simpa using this
  rw [hR'] at HR
  clear hR hR'
  rw [← HX.out] at h11 h6 hj hl
  have q11 : (x.op == 11) = false := by simpa using h11
  have q6 : (x.op == 6) = false := by simpa using h6
  have hi : insB x = true := by rw [insB_iff]; exact ⟨h6, h11⟩
  have Hi := Lib.hid hi
  rw [hj] at HJ
  have hq3 : (k : Int) + 1 ≤ (ls.length : Int) := by omega
  have hq5 : (0 : Int) ≤ (k : Int) + 1 := by omega
  have hq4 : ((k + 1 : Nat) : Int) ≤ (ls.length : Int) := by omega
  have hwk : wrap64 ((k : Int) + 1) = (k : Int) + 1 := NumM.wrap64_inR _ (by unfold NumM.inR; omega)
  have hwk2 : IntKind.i64.wrap ((k : Int) + 1) = (k : Int) + 1 := IntWalk.i64_in _ (by omega)
  have E0 := Lib.hid (fun (h8 : ¬ 8 ≤ cI (ls.take k)) => (show lnC ls k = 0 by rw [HC.out]; unfold lineC; rw [if_neg HRr.out, if_neg (fun c => h11 c.1), if_neg (fun c => h6 c.1), if_neg (fun c => hl c.2), if_neg (fun c => c.elim (fun c => h8 c.2) (fun c => h11 c.1))]))
  have E5 := Lib.hid (fun (h8 : 8 ≤ cI (ls.take k)) => (show lnC ls k = 5 by rw [HC.out]; unfold lineC; rw [if_neg HRr.out, if_neg (fun c => h11 c.1), if_neg (fun c => h6 c.1), if_neg (fun c => hl c.2), if_pos (Or.inl ⟨hi, h8⟩)]))
  obtain ⟨cn, hcn⟩ : ∃ cn, cn = lcnt (ls.drop (k + 1)) x.label := ⟨_, rfl⟩
  have ql : (((cn : Nat) : Int) == 0) = false := by simpa using (by omega : ¬ cn = 0)
  have HCN := Lib.hid hcn
  clear h11 h6 HC HX HRr hj hi HT hl hcn
  go_enter Try.func67, Try.ntmps67
  go_wp2_with fail
  refine (HR.out _).mono ?_
  rintro e w1 ⟨rfl, hb⟩
  have hbx1 := Lib.hid (show BxL w1 w.heap.size x from LnBox.below hbx0.out hb)
  have hB1 := chain hB0 hb
  clear hB0 hb hbx0
  obtain ⟨t0, t1, t2, t3, t4⟩ := hbx1.out
  go_wp2
  go_quiet (fail)
  go_wp2
  refine wp_region_held_drew (S := (fun w' => w'.cell? ⟨w.heap.size, 0, none⟩ = some (.int .i64 x.op) ∧ w'.cell? ⟨w.heap.size, 1, none⟩ = some (.string ⟨x.reg.toArray⟩) ∧ w'.cell? ⟨w.heap.size, 2, none⟩ = some (.string ⟨x.loc.toArray⟩) ∧ w'.cell? ⟨w.heap.size, 3, none⟩ = some (.string ⟨x.label.toArray⟩) ∧ w'.cell? ⟨w.heap.size, 4, none⟩ = some (.int .i64 x.n) ∧ Below w.heap.size w w')) (by kernel_rfl) ⟨t0, t1, t2, t3, t4, below_drewN (below_drewN hB1 _) 1⟩ (fun hHeld => ?_)
  refine wpAnyH_take (i := 0) (v := ?_) rfl (by kernel_rfl) (by kernel_rfl) (by kernel_rfl) (fun _ _ _ h => h) (Or.inl ⟨by rfl, ?_⟩) (by assumption) ?_
  rotate_left
  · intro w hSw; (try dsimp only at hSw); go_simp; (try with_reducible rfl)
  (try simp only [Act.put, List.getElem_toArray, List.getElem_cons_zero, List.getElem_cons_succ, Array.getInternal_eq_getElem, List.setIfInBounds_toArray, List.set_cons_zero, List.set_cons_succ])
  refine wpAnyH_ready (rs := [1]) (by kernel_rfl) (by simp) ?_
  refine AllReadyH.cons rfl (fun K hK => ?_) AllReadyH.nil
  go_simp
  go_at_call 71
  refine (HJ.out _).mono ?_
  rintro e w' ⟨rfl, hb⟩
  refine hK.out _ _ (keep6 hb hHeld) (fun hHeld => ?_)
  clear hK K
  (try simp only [Act.put, List.getElem_toArray, List.getElem_cons_zero, List.getElem_cons_succ, Array.getInternal_eq_getElem, List.setIfInBounds_toArray, List.set_cons_zero, List.set_cons_succ])
  refine wpAnyH_take (i := 2) (v := ?_) rfl (by kernel_rfl) (by kernel_rfl) (by kernel_rfl) (fun _ _ _ h => h) (Or.inl ⟨by rfl, ?_⟩) (by assumption) ?_
  rotate_left
  · intro w hSw; (try dsimp only at hSw); go_simp; (try with_reducible rfl)
  (try simp only [Act.put, List.getElem_toArray, List.getElem_cons_zero, List.getElem_cons_succ, Array.getInternal_eq_getElem, List.setIfInBounds_toArray, List.set_cons_zero, List.set_cons_succ])
  refine wpAnyH_take (i := 3) (v := ?_) rfl (by kernel_rfl) (by kernel_rfl) (by kernel_rfl) (fun _ _ _ h => h) (Or.inl ⟨by rfl, ?_⟩) (by assumption) ?_
  rotate_left
  · intro w hSw; (try dsimp only at hSw); go_simp; (try with_reducible rfl)
  (try simp only [Act.put, List.getElem_toArray, List.getElem_cons_zero, List.getElem_cons_succ, Array.getInternal_eq_getElem, List.setIfInBounds_toArray, List.set_cons_zero, List.set_cons_succ])
  refine wpAnyH_take (i := 4) (v := ?_) rfl (by kernel_rfl) (by kernel_rfl) (by kernel_rfl) (fun _ _ _ h => h) (Or.inl ⟨by rfl, ?_⟩) (by assumption) ?_
  rotate_left
  · intro w hSw; (try dsimp only at hSw); go_simp; (try with_reducible rfl)
  (try simp only [Act.put, List.getElem_toArray, List.getElem_cons_zero, List.getElem_cons_succ, Array.getInternal_eq_getElem, List.setIfInBounds_toArray, List.set_cons_zero, List.set_cons_succ])
  refine wpAnyH_take (i := 5) (v := ?_) rfl (by kernel_rfl) (by kernel_rfl) (by kernel_rfl) (fun _ _ _ h => h) (Or.inl ⟨by rfl, ?_⟩) (by assumption) ?_
  rotate_left
  · intro w hSw; (try dsimp only at hSw); go_simp; (try with_reducible rfl)
  (try simp only [Act.put, List.getElem_toArray, List.getElem_cons_zero, List.getElem_cons_succ, Array.getInternal_eq_getElem, List.setIfInBounds_toArray, List.set_cons_zero, List.set_cons_succ])
  refine wpAnyH_take (i := 6) (v := ?_) rfl (by kernel_rfl) (by kernel_rfl) (by kernel_rfl) (fun _ _ _ h => h) (Or.inl ⟨by rfl, ?_⟩) (by assumption) ?_
  rotate_left
  · intro w hSw; (try dsimp only at hSw); go_simp; (try with_reducible rfl)
  (try simp only [Act.put, List.getElem_toArray, List.getElem_cons_zero, List.getElem_cons_succ, Array.getInternal_eq_getElem, List.setIfInBounds_toArray, List.set_cons_zero, List.set_cons_succ])
  refine wpAnyH_take (i := 7) (v := ?_) rfl (by kernel_rfl) (by kernel_rfl) (by kernel_rfl) (fun _ _ _ h => h) (Or.inl ⟨by rfl, ?_⟩) (by assumption) ?_
  rotate_left
  · intro w hSw; (try dsimp only at hSw); go_simp; (try with_reducible rfl)
  (try simp only [Act.put, List.getElem_toArray, List.getElem_cons_zero, List.getElem_cons_succ, Array.getInternal_eq_getElem, List.setIfInBounds_toArray, List.set_cons_zero, List.set_cons_succ])
  refine wpAnyH_take (i := 8) (v := ?_) rfl (by kernel_rfl) (by kernel_rfl) (by kernel_rfl) (fun _ _ _ h => h) (Or.inl ⟨by rfl, ?_⟩) (by assumption) ?_
  rotate_left
  · intro w hSw; (try dsimp only at hSw); go_simp; (try with_reducible rfl)
  (try simp only [Act.put, List.getElem_toArray, List.getElem_cons_zero, List.getElem_cons_succ, Array.getInternal_eq_getElem, List.setIfInBounds_toArray, List.set_cons_zero, List.set_cons_succ])
  refine wpAnyH_ready (rs := [9]) (by kernel_rfl) (by simp) ?_
  refine AllReadyH.cons rfl (fun K hK => ?_) AllReadyH.nil
  go_simp
  go_at_call 76
  refine (rlabels_same ⟨x.label.toArray⟩ _ (HD.out _ hHeld.2.2.2.2.2)).mono ?_
  rintro e w' ⟨rfl, rfl⟩
  refine hK.out _ _ hHeld (fun hHeld => ?_)
  clear hK K
  (try simp only [Act.put, List.getElem_toArray, List.getElem_cons_zero, List.getElem_cons_succ, Array.getInternal_eq_getElem, List.setIfInBounds_toArray, List.set_cons_zero, List.set_cons_succ])
  refine wpAnyH_take (i := 10) (v := ?_) rfl (by kernel_rfl) (by kernel_rfl) (by kernel_rfl) (fun _ _ _ h => h) (Or.inl ⟨by rfl, ?_⟩) (by assumption) ?_
  rotate_left
  · intro w hSw; (try dsimp only at hSw); go_simp; (try with_reducible rfl)
  (try simp only [Act.put, List.getElem_toArray, List.getElem_cons_zero, List.getElem_cons_succ, Array.getInternal_eq_getElem, List.setIfInBounds_toArray, List.set_cons_zero, List.set_cons_succ])
  refine wpAnyH_take (i := 11) (v := ?_) rfl (by kernel_rfl) (by kernel_rfl) (by kernel_rfl) (fun _ _ _ h => h) (Or.inl ⟨by rfl, ?_⟩) (by assumption) ?_
  rotate_left
  · intro w hSw; (try dsimp only at hSw); go_simp; (try with_reducible rfl)
  (try simp only [Act.put, List.getElem_toArray, List.getElem_cons_zero, List.getElem_cons_succ, Array.getInternal_eq_getElem, List.setIfInBounds_toArray, List.set_cons_zero, List.set_cons_succ])
  refine wpAnyH_done (by kernel_rfl) ?_ _
  obtain ⟨t0, t1, t2, t3, t4, hB2⟩ := hHeld
  generalize (if c1 = k + 1 then some (⟨b1, f1, none⟩ : Addr) else some ⟨b1, f1 + (k + 1) * 5, none⟩) = pa
  try rw [← HCN.out]
  try simp only [ql]
  go_wp2
  go_loopw [6, 7, 8] (fun a b i wr => RnRel ls x k w a b i wr) (fun _ _ i _ => k - (intOf i).toNat)
  case atStart => exact ⟨0, Nat.zero_le _, rfl, rfl, rfl, hB2, t0, t1, t2, t3, t4⟩
  case round =>
    obtain ⟨m, hm, rfl, rfl, rfl, hB3, hbx3⟩ := hrel
    clear t0 t1 t2 t3 t4 hB2
    by_cases hmk : m < k
    · obtain ⟨z0, z1, z2, z3, z4⟩ := (HCL.out m (by omega)).below (hB3.mono hBB) hb1
      have hI := cI_take ls m (by omega)
      have hM := cM_take ls m (by omega)
      have hIl := cI_le ls m
      have hMl := cM_le ls m
      obtain ⟨y, hy⟩ : ∃ y, y = ls[m]'(by omega) := ⟨_, rfl⟩
      rw [← hy] at z0 z1 z2 z3 z4
      simp only [← hy] at hI hM
      have hwi : wrap64 (((cI (ls.take m) : Nat) : Int) + 1) = ((cI (ls.take m) : Nat) : Int) + 1 := NumM.wrap64_inR _ (by unfold NumM.inR; omega)
      have hwm : wrap64 (((cM (ls.take m) : Nat) : Int) + 1) = ((cM (ls.take m) : Nat) : Int) + 1 := NumM.wrap64_inR _ (by unfold NumM.inR; omega)
      have HY := Lib.hid (fun W => rinstr_l y W)
      have HBX := Lib.hid hbx3
      clear hy hbx3
      cases hiy : insB y
      · rw [hiy] at HY hI
        cases hly : labB y
        · rw [hly] at hM
          have q := Lib.hid hly
          have q2 : (y.op == 11) = false := hly
          simp only [if_true, Bool.false_eq_true, if_false, Nat.add_zero] at hI hM
          have HIM := Lib.hid (And.intro hI hM)
          clear hiy hly hI hM
          go_wp2_with fail
          refine (HY.out _).mono ?_
          rintro e w2 ⟨rfl, hb⟩
          have z0' := kc hb z0
          have hB4 := chain hB3 hb
          have hbx4 := Lib.hid (show BxL w2 w.heap.size x from LnBox.below HBX.out hb)
          clear hb z0 z1 z2 z3 z4
          go_wp2
          refine ⟨⟨m + 1, by omega, by go_num, ?_, ?_, hB4, hbx4.out⟩, by simp [intOf]; omega⟩
          · first | (rw [HIM.out.1]; done) | (rw [HIM.out.1]; rfl) | (rw [HIM.out.1, hwi]; rfl)
          · first | (rw [HIM.out.2]; done) | (rw [HIM.out.2]; rfl) | (rw [HIM.out.2, hwm]; rfl)
        · rw [hly] at hM
          have q2 : (y.op == 11) = true := hly
          simp only [if_true, Bool.false_eq_true, if_false, Nat.add_zero] at hI hM
          have HIM := Lib.hid (And.intro hI hM)
          clear hiy hly hI hM
          go_wp2_with fail
          refine (HY.out _).mono ?_
          rintro e w2 ⟨rfl, hb⟩
          have z0' := kc hb z0
          have hB4 := chain hB3 hb
          have hbx4 := Lib.hid (show BxL w2 w.heap.size x from LnBox.below HBX.out hb)
          clear hb z0 z1 z2 z3 z4
          go_wp2
          refine ⟨⟨m + 1, by omega, by go_num, ?_, ?_, hB4, hbx4.out⟩, by simp [intOf]; omega⟩
          · first | (rw [HIM.out.1]; done) | (rw [HIM.out.1]; rfl) | (rw [HIM.out.1, hwi]; rfl)
          · first | (rw [HIM.out.2]; done) | (rw [HIM.out.2]; rfl) | (rw [HIM.out.2, hwm]; rfl)
      · rw [hiy] at HY hI
        cases hly : labB y
        · rw [hly] at hM
          have q2 : (y.op == 11) = false := hly
          simp only [if_true, Bool.false_eq_true, if_false, Nat.add_zero] at hI hM
          have HIM := Lib.hid (And.intro hI hM)
          clear hiy hly hI hM
          go_wp2_with fail
          refine (HY.out _).mono ?_
          rintro e w2 ⟨rfl, hb⟩
          have z0' := kc hb z0
          have hB4 := chain hB3 hb
          have hbx4 := Lib.hid (show BxL w2 w.heap.size x from LnBox.below HBX.out hb)
          clear hb z0 z1 z2 z3 z4
          go_wp2
          refine ⟨⟨m + 1, by omega, by go_num, ?_, ?_, hB4, hbx4.out⟩, by simp [intOf]; omega⟩
          · first | (rw [HIM.out.1]; done) | (rw [HIM.out.1]; rfl) | (rw [HIM.out.1, hwi]; rfl)
          · first | (rw [HIM.out.2]; done) | (rw [HIM.out.2]; rfl) | (rw [HIM.out.2, hwm]; rfl)
        · exact absurd hiy (by unfold insB; unfold labB at hly; rw [hly]; simp)
    · obtain rfl : m = k := by omega
      obtain ⟨t0, t1, t2, t3, t4⟩ := id hbx3
      have HIx := HI
      rw [Hi.out] at HIx
      have HBX := Lib.hid hbx3
      clear hbx3 HI
      by_cases h8 : 8 ≤ cI (ls.take m)
      · have E := Lib.hid (E5.out h8)
        have q8 : decide ((8 : Int) ≤ ((cI (ls.take m) : Nat) : Int)) = true := decide_eq_true (by omega)
        go_wp2_with fail
        refine (HIx.out _).mono ?_
        rintro e w2 ⟨rfl, hb⟩
        have hB4 := chain hB3 hb
        have g0 := kc hb t0
        clear hb t0 t1 t2 t3 t4
        go_wp2
        go_ret
        exact ⟨ret_int E.out.symm, hB4⟩
      · have E := Lib.hid (E0.out h8)
        have q8 : decide ((8 : Int) ≤ ((cI (ls.take m) : Nat) : Int)) = false := decide_eq_false (by omega)
        go_wp2_with fail
        refine (HIx.out _).mono ?_
        rintro e w2 ⟨rfl, hb⟩
        have hB4 := chain hB3 hb
        have g0 := kc hb t0
        clear hb t0 t1 t2 t3 t4
        go_wp2
        go_ret
        exact ⟨ret_int E.out.symm, hB4⟩
end Go.Proofs.Ytaelfjphgdlbcaa
