/-
  code.Code's closures: the steps of a thread.
  Each thread's steps, as a row of rows.
  code.Code: a program's code.
  THE DOCUMENT's Same of codes, of alike ones: true.
-/
import Derived.Test.YtaelfjphgdlbcaaGreatDoorCd2
import Derived.Deep.RegionHeld3
import Derived.Test.YtaelfjphgdlbcaaGreatDoorKeL
import Derived.Test.YtaelfjphgdlbcaaGreatDoorVMs
import Derived.OneCell
import Derived.Test.YtaelfjphgdlbcaaGreatDoorCd1
namespace Go.Proofs.YtaelfjphgdlbcaaGreatDoor
open Go.RowKit
set_option linter.unusedVariables false
set_option linter.unusedSimpArgs false
open WordM (L)
open VM
open CodM (St Pg hasS stp thrS)

theorem mkS_flat (ls : List OpsM.Ln) (locs : List L) : ∀ (xs : List OpsM.Ln), (xs.map (mkS ls locs)).flatten = (xs.filter hasS).map (stp ls locs)
  | [] => rfl
  | x :: r => by
    rw [List.map_cons, List.flatten_cons, mkS_flat ls locs r]
    unfold mkS
    cases h : hasS x
    · rw [List.filter_cons_of_neg (by simp [h])]; rfl
    · rw [List.filter_cons_of_pos h]; rfl
theorem thrS_flat (ls : List OpsM.Ln) (locs : List L) : (ls.map (mkS ls locs)).flatten = thrS locs ls := mkS_flat ls locs ls
theorem thrS_len (ls : List OpsM.Ln) (locs : List L) : (thrS locs ls).length ≤ ls.length := by
  unfold thrS; rw [List.length_map]; exact List.length_filter_le _ _
set_option maxHeartbeats 8000000 in
set_option maxRecDepth 100000 in
theorem code2_any {B gL : Nat} {vl vs : Value} {ls : List OpsM.Ln} {locs : List L} (w : World) (hr : Regs w) (hs : Lns B w vs ls) (hl : Strs B w vl locs) (hBB : B ≤ w.heap.size)
    (c0 : w.cell? ⟨gL, 0, none⟩ = some vl) (hn : ls.length ≤ 1000000) (hk : locs.length ≤ 1000000) :
    Calls Tryz.prog 21 #[.agg #[vs], .pointer (some ⟨gL, 0, none⟩)] w fun e w' =>
      ∃ v, e = .returned v ∧ w'.ownsRow w.heap.size 30 5 v (thrS locs ls).length (stsCs (thrS locs ls)) ∧ Below w.heap.size w w' := by
  have HR := Lib.hid hr
  have HS := Lib.hid hs
  have HL := Lib.hid hl
  have HN := Lib.hid (show (ls.map (mkS ls locs)).flatten.length ≤ 1000000 by rw [thrS_flat]; exact Nat.le_trans (thrS_len ls locs) hn)
  have HT := Lib.hid (thrS_flat ls locs)
  obtain ⟨A1, c1, rfl, -⟩ := hs
  obtain ⟨AL, cL, rfl, -⟩ := hl
  have hB := below_al (Below.refl w.heap.size w) (.cells #[.slice A1 ls.length c1] 45)
  have d1 := kc hB c0
  have d0 := (box_1 w #[.slice A1 ls.length c1] 45 0 rfl).1
  clear hr c0
  go_enter Tryz.func21, Tryz.ntmps21
  go_wp2
  obtain ⟨g, hg⟩ : ∃ g, g = w.heap.size := ⟨_, rfl⟩
  rw [← hg] at d0 ⊢
  have HG := Lib.hid hg
  clear hg
  refine wp_region_held_drew (S := (fun w' => (w'.cell? ⟨g, 0, none⟩ = some (.slice A1 ls.length c1) ∧ w'.cell? ⟨gL, 0, none⟩ = some (.slice AL locs.length cL)) ∧ Below w.heap.size w w')) (by kernel_rfl) ⟨⟨d0, d1⟩, below_drewN hB 1⟩ (fun hHeld => ?_)
  refine wpAnyH_take (i := 0) (v := ?_) rfl (by kernel_rfl) (by kernel_rfl) (by kernel_rfl) (fun _ _ _ h => h) (Or.inl ⟨by rfl, ?_⟩) (by assumption) ?_
  rotate_left
  · intro w hSw; (try dsimp only at hSw); go_simp; (try with_reducible rfl)
  (try simp only [Act.put, List.getElem_toArray, List.getElem_cons_zero, List.getElem_cons_succ, Array.getInternal_eq_getElem, List.setIfInBounds_toArray, List.set_cons_zero, List.set_cons_succ])
  refine wpAnyH_take (i := 1) (v := ?_) rfl (by kernel_rfl) (by kernel_rfl) (by kernel_rfl) (fun _ _ _ h => h) (Or.inl ⟨by rfl, ?_⟩) (by assumption) ?_
  rotate_left
  · intro w hSw; (try dsimp only at hSw); go_simp; (try with_reducible rfl)
  (try simp only [Act.put, List.getElem_toArray, List.getElem_cons_zero, List.getElem_cons_succ, Array.getInternal_eq_getElem, List.setIfInBounds_toArray, List.set_cons_zero, List.set_cons_succ])
  refine wpAnyH_take (i := 2) (v := ?_) rfl (by kernel_rfl) (by kernel_rfl) (by kernel_rfl) (fun _ _ _ h => h) (Or.inl ⟨by rfl, ?_⟩) (by assumption) ?_
  rotate_left
  · intro w hSw; (try dsimp only at hSw); go_simp; (try with_reducible rfl)
  (try simp only [Act.put, List.getElem_toArray, List.getElem_cons_zero, List.getElem_cons_succ, Array.getInternal_eq_getElem, List.setIfInBounds_toArray, List.set_cons_zero, List.set_cons_succ])
  refine wpAnyH_take (i := 3) (v := ?_) rfl (by kernel_rfl) (by kernel_rfl) (by kernel_rfl) (fun _ _ _ h => h) (Or.inl ⟨by rfl, ?_⟩) (by assumption) ?_
  rotate_left
  · intro w hSw; (try dsimp only at hSw); go_simp; (try with_reducible rfl)
  (try simp only [Act.put, List.getElem_toArray, List.getElem_cons_zero, List.getElem_cons_succ, Array.getInternal_eq_getElem, List.setIfInBounds_toArray, List.set_cons_zero, List.set_cons_succ])
  refine wpAnyH_ready (rs := [4]) (by kernel_rfl) (by simp) ?_
  refine AllReadyH.cons rfl (fun K hK => ?_) AllReadyH.nil
  go_simp
  refine (maker_any _ _ _ ⟨_, _, _, rfl⟩ ⟨_, _, _, rfl⟩).mono ?_
  rintro e wa ⟨gth, gl, gt, rfl, m0, m1, m2, hba⟩
  have hBa := Lib.hid (chain hHeld.2 hba)
  have M0 := Lib.hid m0
  have M1 := Lib.hid m1
  have M2 := Lib.hid m2
  clear m0 m1 m2
  refine hK.out _ _ ⟨⟨kc hba hHeld.1.1, kc hba hHeld.1.2⟩, hBa.out⟩ (fun hHeld => ?_)
  clear hba
  clear hK K
  (try simp only [Act.put, List.getElem_toArray, List.getElem_cons_zero, List.getElem_cons_succ, Array.getInternal_eq_getElem, List.setIfInBounds_toArray, List.set_cons_zero, List.set_cons_succ])
  refine wpAnyH_ready (rs := [5]) (by kernel_rfl) (by simp) ?_
  refine AllReadyH.cons rfl (fun K hK => ?_) AllReadyH.nil
  go_simp
  refine (eachl_any (B := B) wa (HR.out.below hBa.out) (HS.out.below (hBa.out.mono hBB)) (strs_below HL.out (hBa.out.mono hBB)) (Nat.le_trans hBB hBa.out.size) M0.out M1.out M2.out hn hk).mono ?_
  rintro e wb ⟨vb, us, rfl, hob, hsb, hbb⟩
  have HOb := Lib.hid hob
  have HSb := Lib.hid hsb
  have hBb := Lib.hid (chain hHeld.2 hbb)
  obtain ⟨Ab, cb, rfl⟩ := own_slice hob
  clear hob hsb
  refine hK.out _ _ ⟨⟨kc hbb hHeld.1.1, kc hbb hHeld.1.2⟩, hBb.out⟩ (fun hHeld => ?_)
  clear hbb
  clear hK K
  (try simp only [Act.put, List.getElem_toArray, List.getElem_cons_zero, List.getElem_cons_succ, Array.getInternal_eq_getElem, List.setIfInBounds_toArray, List.set_cons_zero, List.set_cons_succ])
  refine wpAnyH_ready (rs := [6]) (by kernel_rfl) (by simp) ?_
  refine AllReadyH.cons rfl (fun K hK => ?_) AllReadyH.nil
  go_simp
  refine (joined_any (tss := ls.map (mkS ls locs)) wb (by rw [List.length_map]; exact HOb.out) HSb.out (by rw [List.length_map]; exact hn) HN.out).mono ?_
  rintro e wc ⟨vc, rfl, hoc, hbc⟩
  have HOc := Lib.hid hoc
  have hBc := Lib.hid (chain hHeld.2 hbc)
  clear hoc
  refine hK.out _ _ ⟨⟨kc hbc hHeld.1.1, kc hbc hHeld.1.2⟩, hBc.out⟩ (fun hHeld => ?_)
  clear hbc
  clear hK K
  (try simp only [Act.put, List.getElem_toArray, List.getElem_cons_zero, List.getElem_cons_succ, Array.getInternal_eq_getElem, List.setIfInBounds_toArray, List.set_cons_zero, List.set_cons_succ])
  refine wpAnyH_ready (rs := [7]) (by kernel_rfl) (by simp) ?_
  refine AllReadyH.cons rfl (fun K hK => ?_) AllReadyH.nil
  go_simp
  refine hK.out _ _ hHeld (fun hHeld => ?_)
  clear hK K
  (try simp only [Act.put, List.getElem_toArray, List.getElem_cons_zero, List.getElem_cons_succ, Array.getInternal_eq_getElem, List.setIfInBounds_toArray, List.set_cons_zero, List.set_cons_succ])
  refine wpAnyH_done (by kernel_rfl) ?_ _
  have HOW := Lib.hid (HT.out ▸ own_base HOc.out hBb.out.size)
  go_wp2
  go_ret
  exact ⟨_, rfl, HOW.out, hBc.out⟩
end Go.Proofs.YtaelfjphgdlbcaaGreatDoor
namespace Go.Proofs.YtaelfjphgdlbcaaGreatDoor
open Go.RowKit
set_option linter.unusedVariables false
set_option linter.unusedSimpArgs false
open WordM (L)
open VM
open CodM (St Pg hasS stp thrS)

def EtRel (ts : List (List OpsM.Ln)) (ms : List (List St)) (w : World) (v i : Value) (wr : World) : Prop :=
  ∃ (k : Nat) (vs : List Value), k ≤ ts.length ∧ i = .int .i64 k ∧ wr.ownsRow w.heap.size 28 1 v k vs ∧ StsAll wr w.heap.size vs (ms.take k) ∧ Below w.heap.size w wr
set_option maxHeartbeats 8000000 in
set_option maxRecDepth 100000 in
theorem eacht_any {B gL : Nat} {vl vt : Value} {ts : List (List OpsM.Ln)} {locs : List L} (w : World) (hr : Regs w) (hs : Ths B w vt ts) (hl : Strs B w vl locs) (hBB : B ≤ w.heap.size)
    (c0 : w.cell? ⟨gL, 0, none⟩ = some vl) (hn : ∀ ls ∈ ts, ls.length ≤ 1000000) (hk : locs.length ≤ 1000000) (ht : ts.length ≤ 1000000) :
    Calls Tryz.prog 26 #[vt, .func (.func 21) #[] #[.pointer (some ⟨gL, 0, none⟩)]] w fun e w' =>
      ∃ v us, e = .returned v ∧ w'.ownsRow w.heap.size 28 1 v ts.length us ∧ StsAll w' w.heap.size us (ts.map (thrS locs)) ∧ Below w.heap.size w w' := by
  obtain ⟨i0, hi, hz0, hz1, hz2⟩ := info_parts info_steps
  have HR := Lib.hid hr
  have HL := Lib.hid hl
  have C0 := Lib.hid c0
  obtain ⟨A1, n1, rfl, ha1, ha2, ha3⟩ := hs
  unfold maxLen at ha2
  have hlen : (ts.map (thrS locs)).length = ts.length := by simp
  have HM := Lib.hid (fun (k : Nat) (hk : k < ts.length) => show (ts.map (thrS locs)).take (k + 1) = (ts.map (thrS locs)).take k ++ [thrS locs ts[k]] by
    rw [List.take_succ_eq_append_getElem (by rw [hlen]; exact hk), List.getElem_map])
  have HF := Lib.hid (show (ts.map (thrS locs)).take ts.length = ts.map (thrS locs) by rw [← hlen, List.take_length])
  have HK := Lib.hid (fun (v : Value) (ls : List OpsM.Ln) W (hW : Below w.heap.size w W) (hv : Lns B W v ls) (hn : ls.length ≤ 1000000) => code2_any W (HR.out.below hW) hv (strs_below HL.out (hW.mono hBB)) (Nat.le_trans hBB hW.size) (kc hW C0.out) hn hk)
  have HNN := Lib.hid hn
  generalize (ts.map (thrS locs)) = ms at *
  clear hr hl c0 hlen hn
  go_enter Tryz.func26, Tryz.ntmps26
  go_wp2
  go_loopw [5, 10] (fun v i wr => EtRel ts ms w v i wr) (fun _ i _ => ts.length - (intOf i).toNat)
  case atStart => exact ⟨0, [], Nat.zero_le _, rfl, World.ownsRow_nil _ _ _ _, ⟨by simp, fun j hj => absurd hj (by simp)⟩, Below.refl _ _⟩
  case round =>
    obtain ⟨k, vs, hk, rfl, hown, hall, hB⟩ := hrel
    by_cases hlt : k < ts.length
    · obtain ⟨b1, f1, rfl, hb1, hcl⟩ := ha3 (by omega)
      obtain ⟨u0, z0, hLn⟩ := (hcl k hlt).below (hB.mono hBB) hb1
      have HT := Lib.hid (HM.out k hlt)
      have hln := HNN.out _ (List.getElem_mem hlt)
      obtain ⟨ls, hx⟩ : ∃ x, x = ts[k] := ⟨_, rfl⟩
      rw [← hx] at hLn HT hln
      have HLn := Lib.hid hLn
      obtain ⟨A3, c3, rfl, -⟩ := hLn
      have hbA : Below wr.heap.size wr (wr.alloc (.cells #[.slice A3 ls.length c3] 45)) := below_al (Below.refl _ _) _
      have hBA := chain hB hbA
      have HC := Lib.hid (HK.out _ ls _ hBA (HLn.out.below (hbA.mono (Nat.le_trans hBB hB.size))) hln)
      have hoA := own_below hown hbA
      have hsA := hall.below hbA
      have hle := thrS_len ls locs
      generalize thrS locs ls = ss at *
      have HSA := Lib.hid hsA
      clear hx hcl ha3 hall hown hB hsA hbA HLn
      have hszA := hBA.size
      go_wp2_with fail
      refine HC.out.mono ?_
      rintro e wa ⟨u, rfl, hou, hb⟩
      have hBa := chain hBA hb
      have hOa := own_below hoA hb
      have HSa := Lib.hid (HSA.out.below hb)
      have HOu := Lib.hid (own_base hou hszA)
      obtain ⟨Au, cu, rfl⟩ := own_slice hou
      have hsz := hBa.size
      clear HC z0 hoA hou hb hBA
      go_wp2_with (at_builtin; refine wpList_append_own _ rfl _ _ 23 rfl w.heap.size 28 i0 (.slice none 0 0) 1 24 Tryz.underlying23 hi hz0 hz1 hz2 rfl (by decide) _ _ _ rfl (hOa.alloc _) ⟨wa.heap.size, 0, none⟩ 1 1 [.slice Au ss.length cu] rfl rfl (cell_one_new _ _ _) (by simp [Value.oneCell']) (by unfold maxLen; omega) (by omega) (by simp; omega) ?_; intro v1 w1 hown1 hg1 _)
      have hbb := below_al (Below.refl wa.heap.size wa) (.cells #[.slice Au ss.length cu] 28)
      have hB1 := below_append (hBa.alloc hBa.size (.cells #[.slice Au ss.length cu] 28)) (hOa.alloc _) (Nat.le_refl _) (by simp; omega) hg1
      have HS1 := Lib.hid (((HSa.out.below hbb).snoc (own_below HOu.out hbb)).grown (by decide) (hOa.alloc _) hg1)
      go_roundw
      case rel => exact ⟨k + 1, _, by omega, by go_num, hown1, by rw [HT.out]; exact HS1.out, hB1⟩
      case measure => simp [intOf]; omega
    · obtain rfl : ts.length = k := by omega
      rw [HF.out] at hall
      have HSA := Lib.hid hall
      clear ha3 hall
      go_wp2
      go_ret
      exact ⟨_, _, rfl, hown, HSA.out, hB⟩
end Go.Proofs.YtaelfjphgdlbcaaGreatDoor
namespace Go.Proofs.YtaelfjphgdlbcaaGreatDoor
open Go.RowKit
set_option linter.unusedVariables false
set_option linter.unusedSimpArgs false
open WordM (L)
open VM
open CodM (St Pg hasS stp thrS fstN codP codE)

/-- What a call says that hands back a code and an error. -/
def RetPg (P : Pg) (n : Int) (w : World) (e : Ending) (w' : World) : Prop :=
  ∃ vi vt, e = .returned (.tuple #[.agg #[vi, vt], .int .i64 n]) ∧ PgM w'.heap.size w' vi vt P ∧ Below w.heap.size w w'
theorem ints_nil (B : Nat) (w : World) : Ints B w (.slice none 0 0) [] := ⟨none, 0, rfl, Nat.le_refl _, by decide, fun k => absurd k (by decide)⟩
theorem sss_nil (B : Nat) (w : World) : Sss B w (.slice none 0 0) [] := ⟨none, 0, rfl, Nat.le_refl _, by decide, fun k => absurd k (by decide)⟩
theorem StsAll.set {W : World} {base b i : Nat} {vs : List Value} {tss : List (List St)} (h : StsAll W base vs tss) (hb : b < base) (x : Value) : StsAll (W.setCell ⟨b, i, none⟩ x) base vs tss := by
  refine ⟨h.1, fun j hj => ?_⟩
  obtain ⟨u, h1, h2⟩ := h.2 j hj
  exact ⟨u, h1, ownsRow_setCell_other h2 (fun e => by have := (h2.lt _ e).1; change base ≤ b at this; omega) x⟩
theorem own_set {W : World} {base b i T sz n : Nat} {v : Value} {xs : List Value} (h : W.ownsRow base T sz v n xs) (hb : b < base) (x : Value) : (W.setCell ⟨b, i, none⟩ x).ownsRow base T sz v n xs :=
  ownsRow_setCell_other h (fun e => by have := (h.lt _ e).1; change base ≤ b at this; omega) x
theorem pgm_own {W : World} {b1 b2 b3 b4 : Nat} {T1 T2 : TypeId} {va vb : Value} {ns : List Int} {vs : List Value} {tss : List (List St)} {P : Pg} (h1 : W.ownsRow b1 T1 1 va ns.length (intCs ns)) (h2 : W.ownsRow b2 T2 1 vb tss.length vs) (h3 : StsAll W b3 vs tss) (hB : W.heap.size ≤ b4) (hP : P = ⟨ns, tss⟩) : PgM b4 W va vb P := by
  subst hP
  refine ⟨ints_of_own h1 hB, sss_of_own h2 hB (fun j hj => ?_)⟩
  obtain ⟨u, e, h⟩ := h3.2 j hj
  exact ⟨u, e, sts_of_own h hB⟩
set_option maxHeartbeats 8000000 in
set_option maxRecDepth 100000 in
theorem ccode_any {B : Nat} {v : Value} {F : Fl} (w : World) (hr : Regs w) (hg : EA.ErrG w) (hv : FlV B w v F) (hBB : B ≤ w.heap.size) (ok : FlOk F) :
    Calls Tryz.prog 7 #[v] w (RetPg (codP F) (codE F) w) := by
  obtain ⟨vi, vt, vc, rfl, hm⟩ := hv
  unfold flv
  have hz : Tryz.prog.cellsOf 25 = 2 := by kernel_rfl
  have HM := Lib.hid hm
  have HR := Lib.hid hr
  have hB1 := below_al (Below.refl w.heap.size w) (.cells #[.string ⟨F.name.toArray⟩, vi, vt, .bool F.all, vc] 39)
  have hB2 := below_al hB1 (.cells #[.slice none 0 0, .slice none 0 0] 25)
  have hbb : Below (w.alloc (.cells #[.string ⟨F.name.toArray⟩, vi, vt, .bool F.all, vc] 39)).heap.size (w.alloc (.cells #[.string ⟨F.name.toArray⟩, vi, vt, .bool F.all, vc] 39)) ((w.alloc (.cells #[.string ⟨F.name.toArray⟩, vi, vt, .bool F.all, vc] 39)).alloc (.cells #[.slice none 0 0, .slice none 0 0] 25)) := below_al (Below.refl _ _) _
  have hbx := Lib.hid ((FlBox.at (w := w) rfl ⟨F.name.toArray⟩ vi vt vc F.all 39).below hbb)
  have hsz : (w.alloc (.cells #[.string ⟨F.name.toArray⟩, vi, vt, .bool F.all, vc] 39)).heap.size = w.heap.size + 1 := by simp
  have hbz := Lib.hid (Below.refl ((w.alloc (.cells #[.string ⟨F.name.toArray⟩, vi, vt, .bool F.all, vc] 39)).alloc (.cells #[.slice none 0 0, .slice none 0 0] 25)).heap.size ((w.alloc (.cells #[.string ⟨F.name.toArray⟩, vi, vt, .bool F.all, vc] 39)).alloc (.cells #[.slice none 0 0, .slice none 0 0] 25)))
  have HSZ := Lib.hid hsz
  have HV := Lib.hid (fun W (hW : Below w.heap.size w W) => vright_any W (hr.below hW) (hg.below hW) ⟨vi, vt, vc, rfl, hm.below (hW.mono hBB)⟩ (Nat.le_trans hBB hW.size) ok)
  have HLo := Lib.hid (fun W (hW : Below w.heap.size w W) => locs_any W (hr.below hW) (hg.below hW) ⟨vi, vt, vc, rfl, hm.below (hW.mono hBB)⟩ (Nat.le_trans hBB hW.size) ok)
  obtain ⟨⟨A0, c0, rfl, -⟩, ⟨A2, c2, rfl, -⟩, ⟨A1, c1, rfl, -⟩⟩ := hm
  have hth := ok.nums.2.1
  have HTN := Lib.hid (fun ls (h : ls ∈ F.ths) => show ls.length ≤ 1000000 by have := (ok.ths ls h).1; omega)
  unfold flv at *
  clear hbb hsz hr hg ok hB1
  obtain ⟨t0, t1, t2, t3, t4⟩ := hbx.out
  by_cases hq : VM.right F = true
  · have HE := Lib.hid (show codE F = 0 by unfold codE; rw [if_pos hq])
    have HP := Lib.hid (show codP F = ⟨(VM.locsR F).map (fstN F.init), F.ths.map (thrS (VM.locsR F))⟩ by unfold codP; rw [if_pos hq])
    have hlen : (locsR F).length ≤ 1000000 := by
      have : locsR F = locs F := by unfold locsR; rw [if_pos hq]
      rw [this]; have := locs_four hq; omega
    have htn : F.ths.length ≤ 1000000 := by omega
    replace HV := Lib.hid (hq ▸ HV.out)
    clear hq
    go_enter Tryz.func7, Tryz.ntmps7
    go_wp2_with fail
    refine (HV.out _ hB2).mono ?_
    rintro e w1 ⟨rfl, hb⟩
    have hB := chain hB2 hb
    replace hbx := Lib.hid (hbx.out.below hb)
    replace hbz := Lib.hid (chain hbz.out hb)
    clear t0 t1 t2 t3 t4 hb
    obtain ⟨t0, t1, t2, t3, t4⟩ := hbx.out
    clear HV hB2
    go_wp2_with fail
    refine (HLo.out _ hB).mono ?_
    rintro e w2 ⟨vl, rfl, hol, hb⟩
    have hBq := chain hB hb
    replace hbx := Lib.hid (hbx.out.below hb)
    replace hbz := Lib.hid (chain hbz.out hb)
    obtain ⟨AL, cL, rfl⟩ := own_slice hol
    have HLS := Lib.hid (strs_own hol)
    clear t0 t1 t2 t3 t4 hb hol HLo hB
    obtain ⟨g, hgg⟩ : ∃ g, g = w.heap.size := ⟨_, rfl⟩
    rw [← hgg] at hbx HSZ ⊢
    have HGG := Lib.hid hgg
    clear hgg
    have hgl2 : g + 2 ≤ w2.heap.size := by
      have h1 := hbz.out.size
      have h2 := HSZ.out
      rw [heap_alloc, h2] at h1
      exact h1
    have l0 := (box_1 w2 #[.slice AL (locsR F).length cL] 54 0 rfl).1
    have hbl : Below w2.heap.size w2 (w2.alloc (.cells #[.slice AL (locsR F).length cL] 54)) := below_al (Below.refl _ _) _
    have HBX := Lib.hid (hbx.out.below hbl)
    have HLO := Lib.hid (strs_more (strs_below HLS.out hbl) hbl.size)
    have hBl := chain hBq hbl
    have HBZ := Lib.hid (chain hbz.out hbl)
    clear hbx HLS hbl hBq hbz
    go_wp2
    obtain ⟨gl, hgl⟩ : ∃ gl, gl = w2.heap.size := ⟨_, rfl⟩
    have hwls := hBl.size
    have hwl0 : w2.heap.size ≤ (w2.alloc (.cells #[.slice AL (locsR F).length cL] 54)).heap.size := by simp
    rw [← hgl] at l0 hwl0 ⊢
    have hgl2 : g + 2 ≤ gl := by omega
    clear hgl
    generalize w2.alloc (.cells #[.slice AL (locsR F).length cL] 54) = wl at *
    obtain ⟨t0, t1, t2, t3, t4⟩ := HBX.out
    have HCs := Lib.hid (fun W (h : Below wl.heap.size wl W) => eachsi_any (B := wl.heap.size) (g := g) W (HBX.out.below h) (((HM.out.1.below (hBl.mono hBB)).more (Nat.le_trans hBB hBl.size)).below h) (strs_below HLO.out h) h.size hlen)
    have HCt := Lib.hid (fun W (h : Below wl.heap.size wl W) (c : W.cell? ⟨gl, 0, none⟩ = some (.slice AL (locsR F).length cL)) => eacht_any (B := wl.heap.size) W (HR.out.below (chain hBl h)) (((HM.out.2.1.below (hBl.mono hBB)).more (Nat.le_trans hBB hBl.size)).below h) (strs_below HLO.out h) h.size c HTN.out hlen htn)
    clear t0 t3 t4 HM HLO HR
    refine wp_region_held_drew (S := (fun w' => (w'.cell? ⟨g, 1, none⟩ = some (.slice A0 F.init.length c0) ∧ w'.cell? ⟨g, 2, none⟩ = some (.slice A2 F.ths.length c2) ∧ w'.cell? ⟨gl, 0, none⟩ = some (.slice AL (locsR F).length cL)) ∧ Below w.heap.size w w')) (by kernel_rfl) ⟨⟨t1, t2, l0⟩, below_drewN hBl 1⟩ (fun hHeld => ?_)
    refine wpAnyH_take (i := 0) (v := ?_) rfl (by kernel_rfl) (by kernel_rfl) (by kernel_rfl) (fun _ _ _ h => h) (Or.inl ⟨by rfl, ?_⟩) (by assumption) ?_
    rotate_left
    · intro w hSw; (try dsimp only at hSw); go_simp; (try with_reducible rfl)
    (try simp only [Act.put, List.getElem_toArray, List.getElem_cons_zero, List.getElem_cons_succ, Array.getInternal_eq_getElem, List.setIfInBounds_toArray, List.set_cons_zero, List.set_cons_succ])
    refine wpAnyH_take (i := 1) (v := ?_) rfl (by kernel_rfl) (by kernel_rfl) (by kernel_rfl) (fun _ _ _ h => h) (Or.inl ⟨by rfl, ?_⟩) (by assumption) ?_
    rotate_left
    · intro w hSw; (try dsimp only at hSw); go_simp; (try with_reducible rfl)
    (try simp only [Act.put, List.getElem_toArray, List.getElem_cons_zero, List.getElem_cons_succ, Array.getInternal_eq_getElem, List.setIfInBounds_toArray, List.set_cons_zero, List.set_cons_succ])
    refine wpAnyH_take (i := 3) (v := ?_) rfl (by kernel_rfl) (by kernel_rfl) (by kernel_rfl) (fun _ _ _ h => h) (Or.inl ⟨by rfl, ?_⟩) (by assumption) ?_
    rotate_left
    · intro w hSw; (try dsimp only at hSw); go_simp; (try with_reducible rfl)
    (try simp only [Act.put, List.getElem_toArray, List.getElem_cons_zero, List.getElem_cons_succ, Array.getInternal_eq_getElem, List.setIfInBounds_toArray, List.set_cons_zero, List.set_cons_succ])
    refine wpAnyH_take (i := 4) (v := ?_) rfl (by kernel_rfl) (by kernel_rfl) (by kernel_rfl) (fun _ _ _ h => h) (Or.inl ⟨by rfl, ?_⟩) (by assumption) ?_
    rotate_left
    · intro w hSw; (try dsimp only at hSw); go_simp; (try with_reducible rfl)
    (try simp only [Act.put, List.getElem_toArray, List.getElem_cons_zero, List.getElem_cons_succ, Array.getInternal_eq_getElem, List.setIfInBounds_toArray, List.set_cons_zero, List.set_cons_succ])
    refine wpAnyH_take (i := 5) (v := ?_) rfl (by kernel_rfl) (by kernel_rfl) (by kernel_rfl) (fun _ _ _ h => h) (Or.inl ⟨by rfl, ?_⟩) (by assumption) ?_
    rotate_left
    · intro w hSw; (try dsimp only at hSw); go_simp; (try with_reducible rfl)
    (try simp only [Act.put, List.getElem_toArray, List.getElem_cons_zero, List.getElem_cons_succ, Array.getInternal_eq_getElem, List.setIfInBounds_toArray, List.set_cons_zero, List.set_cons_succ])
    refine wpAnyH_ready (rs := [2]) (by kernel_rfl) (by simp) ?_
    refine AllReadyH.cons rfl (fun K hK => ?_) AllReadyH.nil
    go_simp
    refine (HCs.out _ (below_drewN (Below.refl _ _) 1)).mono ?_
    rintro e wa ⟨va, rfl, hoa, hba⟩
    have HBa := Lib.hid ((below_drewN (Below.refl wl.heap.size wl) 1).trans hba)
    have HOa := Lib.hid hoa
    obtain ⟨Aa, ca, rfl⟩ := own_slice hoa
    clear hoa
    refine hK.out _ _ ⟨⟨kc hba hHeld.1.1, kc hba hHeld.1.2.1, kc hba hHeld.1.2.2⟩, chain hHeld.2 hba⟩ (fun hHeld => ?_)
    clear hba
    clear hK K
    (try simp only [Act.put, List.getElem_toArray, List.getElem_cons_zero, List.getElem_cons_succ, Array.getInternal_eq_getElem, List.setIfInBounds_toArray, List.set_cons_zero, List.set_cons_succ])
    refine wpAnyH_ready (rs := [6]) (by kernel_rfl) (by simp) ?_
    refine AllReadyH.cons rfl (fun K hK => ?_) AllReadyH.nil
    go_simp
    refine (HCt.out _ HBa.out hHeld.1.2.2).mono ?_
    rintro e wb ⟨vb, us, rfl, hob, hsb, hbb⟩
    have HBb := Lib.hid (chain HBa.out hbb)
    have HOb := Lib.hid hob
    have HSb := Lib.hid hsb
    have HOa2 := Lib.hid (own_below HOa.out hbb)
    obtain ⟨Ab, cb, rfl⟩ := own_slice hob
    clear hob hsb
    have HZb := Lib.hid (chain HBZ.out HBb.out)
    refine hK.out _ _ ⟨⟨kc hbb hHeld.1.1, kc hbb hHeld.1.2.1, kc hbb hHeld.1.2.2⟩, chain hHeld.2 hbb⟩ (fun hHeld => ?_)
    clear hbb
    clear hK K
    (try simp only [Act.put, List.getElem_toArray, List.getElem_cons_zero, List.getElem_cons_succ, Array.getInternal_eq_getElem, List.setIfInBounds_toArray, List.set_cons_zero, List.set_cons_succ])
    refine wpAnyH_take (i := 7) (v := ?_) rfl (by kernel_rfl) (by kernel_rfl) (by kernel_rfl) (fun _ _ _ h => h) (Or.inl ⟨by rfl, ?_⟩) (by assumption) ?_
    rotate_left
    · intro w hSw; (try dsimp only at hSw); go_simp; (try with_reducible rfl)
    (try simp only [Act.put, List.getElem_toArray, List.getElem_cons_zero, List.getElem_cons_succ, Array.getInternal_eq_getElem, List.setIfInBounds_toArray, List.set_cons_zero, List.set_cons_succ])
    refine wpAnyH_ready (rs := [8]) (by kernel_rfl) (by simp) ?_
    refine AllReadyH.cons rfl (fun K hK => ?_) AllReadyH.nil
    obtain ⟨y0, z0⟩ := kept_box HZb.out 0 rfl
    obtain ⟨y1, z1⟩ := kept_box HZb.out 1 rfl
    rw [HSZ.out] at y0 z0 y1 z1
    go_simp
    have hne1 : g + 1 ≠ g := by omega
    have hne2 : g + 1 ≠ gl := by omega
    have HBX2 := Lib.hid ((hHeld.2.setCell (p := ⟨g + 1, 0, none⟩) (by have := HGG.out; show w.heap.size ≤ g + 1; omega) (.slice Aa (locsR F).length ca)).setCell (p := ⟨g + 1, 1, none⟩) (by have := HGG.out; show w.heap.size ≤ g + 1; omega) (.slice Ab F.ths.length cb))
    refine hK.out _ _ ⟨⟨set_oth (.inl hne1) (set_oth (.inl hne1) hHeld.1.1), set_oth (.inl hne1) (set_oth (.inl hne1) hHeld.1.2.1), set_oth (.inl hne2) (set_oth (.inl hne2) hHeld.1.2.2)⟩, HBX2.out⟩ (fun hHeld => ?_)
    clear hK K
    (try simp only [Act.put, List.getElem_toArray, List.getElem_cons_zero, List.getElem_cons_succ, Array.getInternal_eq_getElem, List.setIfInBounds_toArray, List.set_cons_zero, List.set_cons_succ])
    have r0 := set_oth (w := wb.setCell ⟨g + 1, 0, none⟩ (.slice Aa (locsR F).length ca)) (v := .slice Ab F.ths.length cb) (x := g + 1) (i := 1) (.inr (by decide)) (World.cell?_setCell_same _ _ _ y0)
    have r1 := World.cell?_setCell_same _ _ (.slice Ab F.ths.length cb) (set_oth (v := .slice Aa (locsR F).length ca) (x := g + 1) (i := 0) (.inr (by decide)) y1)
    clear y0 z0 y1 z1
    refine wpAnyH_ready (rs := [9]) (by kernel_rfl) (by simp) ?_
    refine AllReadyH.cons rfl (fun K hK => ?_) AllReadyH.nil
    go_simp
    refine hK.out _ _ hHeld (fun hHeld => ?_)
    clear hK K
    (try simp only [Act.put, List.getElem_toArray, List.getElem_cons_zero, List.getElem_cons_succ, Array.getInternal_eq_getElem, List.setIfInBounds_toArray, List.set_cons_zero, List.set_cons_succ])
    refine wpAnyH_done (by kernel_rfl) ?_ _
    have hg1 : g + 1 < wl.heap.size := by omega
    have hwa : wl.heap.size ≤ wa.heap.size := HBa.out.size
    have hsz : ((wb.setCell ⟨g + 1, 0, none⟩ (.slice Aa (locsR F).length ca)).setCell ⟨g + 1, 1, none⟩ (.slice Ab F.ths.length cb)).heap.size = wb.heap.size := by simp [World.setCell]
    have HPG := Lib.hid (pgm_own (b4 := ((wb.setCell ⟨g + 1, 0, none⟩ (.slice Aa (locsR F).length ca)).setCell ⟨g + 1, 1, none⟩ (.slice Ab F.ths.length cb)).heap.size) (ns := (locsR F).map (fstN F.init)) (tss := F.ths.map (thrS (locsR F))) (own_set (b := g + 1) (i := 1) (own_set (b := g + 1) (i := 0) (by rw [List.length_map]; exact HOa2.out) hg1 _) hg1 _)
      (own_set (b := g + 1) (i := 1) (own_set (b := g + 1) (i := 0) (by rw [List.length_map]; exact HOb.out) (by omega) _) (by omega) _) ((HSb.out.set (b := g + 1) (i := 0) (by omega) _).set (b := g + 1) (i := 1) (by omega) _) (Nat.le_refl _) HP.out)
    go_wp2
    refine bodyPost_ret (v := .tuple #[.agg #[.slice Aa (locsR F).length ca, .slice Ab F.ths.length cb], .int .i64 0]) (by simp [results, Tryz.results7, go_sem, r0, r1, hz]) rfl ⟨_, _, by rw [HE.out], HPG.out, HBX2.out⟩
  · have HE := Lib.hid (show codE F = 1 by unfold codE; rw [if_neg hq])
    have HP := Lib.hid (show codP F = ⟨[], []⟩ by unfold codP; rw [if_neg hq])
    replace HV := Lib.hid ((show VM.right F = false by simpa using hq) ▸ HV.out)
    clear hq HLo
    go_enter Tryz.func7, Tryz.ntmps7
    go_wp2_with fail
    refine (HV.out _ hB2).mono ?_
    rintro e w1 ⟨rfl, hb⟩
    have hB := chain hB2 hb
    obtain ⟨y0, z0⟩ := kept_box (chain hbz.out hb) 0 rfl
    obtain ⟨y1, z1⟩ := kept_box (chain hbz.out hb) 1 rfl
    rw [HSZ.out] at y0 z0 y1 z1
    clear t0 t1 t2 t3 t4 hb
    have HBX2 := Lib.hid ((hB.setCell (p := ⟨w.heap.size + 1, 0, none⟩) (by show w.heap.size ≤ w.heap.size + 1; omega) (.slice none 0 0)).setCell (p := ⟨w.heap.size + 1, 1, none⟩) (by show w.heap.size ≤ w.heap.size + 1; omega) (.slice none 0 0))
    have r0 := set_oth (w := w1.setCell ⟨w.heap.size + 1, 0, none⟩ (.slice none 0 0)) (v := .slice none 0 0) (x := w.heap.size + 1) (i := 1) (.inr (by decide)) (World.cell?_setCell_same _ _ (.slice none 0 0) y0)
    have r1 := World.cell?_setCell_same _ _ (.slice none 0 0) (set_oth (v := .slice none 0 0) (x := w.heap.size + 1) (i := 0) (.inr (by decide)) y1)
    go_wp2
    refine bodyPost_ret (v := .tuple #[.agg #[.slice none 0 0, .slice none 0 0], .int .i64 1]) (by simp [results, Tryz.results7, go_sem, r0, r1, hz]) rfl ⟨_, _, by rw [HE.out], by rw [HP.out]; exact ⟨ints_nil _ _, sss_nil _ _⟩, HBX2.out⟩
end Go.Proofs.YtaelfjphgdlbcaaGreatDoor
namespace Go.Proofs.YtaelfjphgdlbcaaGreatDoor
open Go.RowKit
set_option linter.unusedVariables false
set_option linter.unusedSimpArgs false
open WordM (L)
open CodM (St Pg)

def SiRel (ns : List Int) (w : World) (i : Value) (wr : World) : Prop := ∃ k : Nat, k ≤ ns.length ∧ i = .int .i64 k ∧ Below w.heap.size w wr
set_option maxHeartbeats 4000000 in
set_option maxRecDepth 100000 in
theorem sameints_any {B : Nat} {v u : Value} {ns : List Int} (w : World) (hv : Ints B w v ns) (hu : Ints B w u ns) (hBB : B ≤ w.heap.size) :
    Calls Tryz.prog 27 #[v, u] w fun e w' => e = .returned (.bool true) ∧ Below w.heap.size w w' := by
  obtain ⟨A1, c1, rfl, ha1, ha2, ha3⟩ := hv
  obtain ⟨A2, c2, rfl, hb1, hb2, hb3⟩ := hu
  unfold maxLen at ha2 hb2
  go_enter Tryz.func27, Tryz.ntmps27
  go_wp2
  go_loopw [5] (fun i wr => SiRel ns w i wr) (fun i _ => ns.length - (intOf i).toNat)
  case atStart => exact ⟨0, Nat.zero_le _, rfl, Below.refl _ _⟩
  case round =>
    obtain ⟨k, hk, rfl, hB⟩ := hrel
    by_cases hlt : k < ns.length
    · obtain ⟨b1, f1, rfl, hl1, hc1⟩ := ha3 (by omega)
      obtain ⟨b2, f2, rfl, hl2, hc2⟩ := hb3 (by omega)
      have d1 := (hc1 k hlt).below (hB.mono hBB) hl1
      have d2 := (hc2 k hlt).below (hB.mono hBB) hl2
      unfold IntAt at d1 d2
      obtain ⟨x, hx⟩ : ∃ x, x = ns[k] := ⟨_, rfl⟩
      rw [← hx] at d1 d2
      clear hx hc1 hc2 ha3 hb3
      go_wp2
      go_quiet (fail)
      go_wp2
      go_roundw
      case rel => exact ⟨k + 1, by omega, by go_num, below_drewN hB _⟩
      case measure => simp [intOf]; omega
    · obtain rfl : ns.length = k := by omega
      clear ha3 hb3
      go_wp2
      go_ret
      exact ⟨rfl, hB⟩
def SoRel (P : Pg) (w : World) (i : Value) (wr : World) : Prop := ∃ k : Nat, k ≤ P.ths.length ∧ i = .int .i64 k ∧ Below w.heap.size w wr
def SnRel (ss : List St) (w : World) (i : Value) (wr : World) : Prop := ∃ k : Nat, k ≤ ss.length ∧ i = .int .i64 k ∧ Below w.heap.size w wr
set_option maxHeartbeats 8000000 in
set_option maxRecDepth 100000 in
theorem rsame_any {B : Nat} {v u : Value} {P : Pg} (w : World) (hv : PgV B w v P) (hu : PgV B w u P) (hBB : B ≤ w.heap.size) :
    Calls Tryz.prog 9 #[v, u] w fun e w' => e = .returned (.bool true) ∧ Below w.heap.size w w' := by
  obtain ⟨vi, vt, rfl, hvi, hvt⟩ := hv
  obtain ⟨ui, ut, rfl, hui, hut⟩ := hu
  have hB1 := below_al (Below.refl w.heap.size w) (.cells #[vi, vt] 25)
  have hB2 := below_al hB1 (.cells #[ui, ut] 25)
  have hbb : Below (w.alloc (.cells #[vi, vt] 25)).heap.size (w.alloc (.cells #[vi, vt] 25)) ((w.alloc (.cells #[vi, vt] 25)).alloc (.cells #[ui, ut] 25)) := below_al (Below.refl _ _) _
  have hbx := Lib.hid ((PgBox.at (w := w) rfl vi vt 25).below hbb)
  have hsz : (w.alloc (.cells #[vi, vt] 25)).heap.size = w.heap.size + 1 := by simp
  have hby := Lib.hid (PgBox.at (w := w.alloc (.cells #[vi, vt] 25)) hsz.symm ui ut 25)
  have HSI := Lib.hid (sameints_any _ (hvi.below (hB2.mono hBB)) (hui.below (hB2.mono hBB)) (Nat.le_trans hBB hB2.size))
  obtain ⟨A0, c0, rfl, -⟩ := hvi
  obtain ⟨D0, d0, rfl, -⟩ := hui
  obtain ⟨A1, c1, rfl, ha1, ha2, ha3⟩ := hvt
  obtain ⟨D1, d1, rfl, hd1, hd2, hd3⟩ := hut
  unfold maxLen at ha2 hd2
  obtain ⟨t0, t1⟩ := hbx.out
  obtain ⟨s0, s1⟩ := hby.out
  clear hbb hsz hB1
  go_enter Tryz.func9, Tryz.ntmps9
  go_wp2_with fail
  refine HSI.out.mono ?_
  rintro e w1 ⟨rfl, hb⟩
  have hB := chain hB2 hb
  replace hbx := Lib.hid (hbx.out.below hb)
  replace hby := Lib.hid (hby.out.below hb)
  obtain ⟨g, hg⟩ : ∃ g, g = w.heap.size := ⟨_, rfl⟩
  rw [← hg] at hbx hby ⊢
  have HG := Lib.hid hg
  clear hg t0 t1 s0 s1 hb hB2 HSI
  obtain ⟨t0, t1⟩ := hbx.out
  obtain ⟨s0, s1⟩ := hby.out
  go_wp2
  go_loopw [5] (fun i wr => (∃ k : Nat, k ≤ P.ths.length ∧ i = .int .i64 k ∧ Below w.heap.size w wr ∧ Below w1.heap.size w1 wr)) (fun i _ => P.ths.length - (intOf i).toNat)
  case atStart => exact ⟨0, Nat.zero_le _, rfl, hB, Below.refl _ _⟩
  case round =>
    obtain ⟨k, hk, rfl, hB, hW⟩ := hrel
    clear t0 t1 s0 s1
    obtain ⟨t0, t1⟩ := hbx.out.below hW
    obtain ⟨s0, s1⟩ := hby.out.below hW
    by_cases hlt : k < P.ths.length
    · obtain ⟨b1, f1, rfl, hl1, hc1⟩ := ha3 (by omega)
      obtain ⟨b2, f2, rfl, hl2, hc2⟩ := hd3 (by omega)
      obtain ⟨x1, z1, hS1⟩ := hc1 k hlt
      obtain ⟨x2, z2, hS2⟩ := hc2 k hlt
      obtain ⟨ss, hx⟩ : ∃ x, x = P.ths[k] := ⟨_, rfl⟩
      rw [← hx] at hS1 hS2
      have y1 := ((hB.mono hBB).cell (p := ⟨b1, f1 + k, none⟩) hl1).trans z1
      have y2 := ((hB.mono hBB).cell (p := ⟨b2, f2 + k, none⟩) hl2).trans z2
      obtain ⟨A3, c3, rfl, he1, he2, he3⟩ := hS1
      obtain ⟨D3, d3, rfl, hf1, hf2, hf3⟩ := hS2
      unfold maxLen at he2 hf2
      have Z1 := Lib.hid z1
      have Z2 := Lib.hid z2
      clear hx hc1 hc2 ha3 hd3 z1 z2
      go_wp2
      go_quiet (fail)
      go_wp2
      go_loopw [6] (fun i wq => (∃ m : Nat, m ≤ ss.length ∧ i = .int .i64 m ∧ Below w.heap.size w wq ∧ Below w1.heap.size w1 wq)) (fun i _ => ss.length - (intOf i).toNat)
      case atStart => exact ⟨0, Nat.zero_le _, rfl, below_drewN hB _, below_drewN hW _⟩
      case round =>
        obtain ⟨m, hmk, rfl, hB3, hW3⟩ := hrel
        clear t0 t1 s0 s1 y1 y2
        obtain ⟨t0, t1⟩ := hbx.out.below hW3
        obtain ⟨s0, s1⟩ := hby.out.below hW3
        have y1 := ((hB3.mono hBB).cell (p := ⟨b1, f1 + k, none⟩) hl1).trans Z1.out
        have y2 := ((hB3.mono hBB).cell (p := ⟨b2, f2 + k, none⟩) hl2).trans Z2.out
        by_cases hlm : m < ss.length
        · obtain ⟨b3, f3, rfl, hl3, hc3⟩ := he3 (by omega)
          obtain ⟨b4, f4, rfl, hl4, hc4⟩ := hf3 (by omega)
          obtain ⟨p0, p1, p2, p3, p4⟩ := (hc3 m hlm).below (hB3.mono hBB) hl3
          obtain ⟨q0, q1, q2, q3, q4⟩ := (hc4 m hlm).below (hB3.mono hBB) hl4
          obtain ⟨x, hx⟩ : ∃ x, x = ss[m] := ⟨_, rfl⟩
          rw [← hx] at p0 p1 p2 p3 p4 q0 q1 q2 q3 q4
          clear hx hc3 hc4 he3 hf3
          go_wp2
          go_quiet (fail)
          go_wp2
          go_roundw
          case rel => exact ⟨m + 1, by omega, by go_num, below_drewN hB3 _, below_drewN hW3 _⟩
          case measure => simp [intOf]; omega
        · obtain rfl : ss.length = m := by omega
          clear he3 hf3
          go_wp2
          refine ⟨⟨k + 1, by omega, by go_num, hB3, hW3⟩, by simp [intOf]; omega⟩
    · obtain rfl : P.ths.length = k := by omega
      clear ha3 hd3
      go_wp2
      go_ret
      exact ⟨rfl, hB⟩
end Go.Proofs.YtaelfjphgdlbcaaGreatDoor
