/-
  THE DOCUMENT's Code of a program.
-/
import Derived.Test.YtaelfjphgdlbcaaRStp
import Derived.Test.YtaelfjphgdlbcaaK33
import Derived.Laws.OwnMore
import Derived.Test.YtaelfjphgdlbcaaK41
import Derived.Test.YtaelfjphgdlbcaaGreat
import Derived.Deep.RegionHeld3
import Derived.Deep.AppendLies
import Derived.Deep.DeepCutAuto
namespace Go.Proofs.Ytaelfjphgdlbcaa
open Go.RowKit
set_option linter.unusedVariables false
set_option linter.unusedSimpArgs false
open WordM (L)
open VM
open CodM (St Pg hasS stp thrS fstN codP codE locN)

set_option maxHeartbeats 8000000 in
set_option maxRecDepth 100000 in
theorem rcode7_any {B : Nat} {v : Value} {F : Fl} (w : World) (hv : FlV B w v F) (hBB : B ≤ w.heap.size) (ok : FlOk F) (hs : Small F) :
    Calls Try.prog 28 #[v] w (RetPg (codP F) (codE F) w) := by
  obtain ⟨vi, vt, vc, rfl, hm⟩ := hv
  unfold flv
  have hz : Try.prog.cellsOf 25 = 2 := by kernel_rfl
  have HM := Lib.hid hm
  have HSM := Lib.hid hs
  have hB1 := below_al (Below.refl w.heap.size w) (.cells #[.string ⟨F.name.toArray⟩, vi, vt, .bool F.all, vc] 30)
  have hB2 := below_al hB1 (.cells #[.slice none 0 0, .slice none 0 0] 25)
  have hbb : Below (w.alloc (.cells #[.string ⟨F.name.toArray⟩, vi, vt, .bool F.all, vc] 30)).heap.size (w.alloc (.cells #[.string ⟨F.name.toArray⟩, vi, vt, .bool F.all, vc] 30)) ((w.alloc (.cells #[.string ⟨F.name.toArray⟩, vi, vt, .bool F.all, vc] 30)).alloc (.cells #[.slice none 0 0, .slice none 0 0] 25)) := below_al (Below.refl _ _) _
  have hbx := Lib.hid ((FlBox.at (w := w) rfl ⟨F.name.toArray⟩ vi vt vc F.all 30).below hbb)
  have hsz : (w.alloc (.cells #[.string ⟨F.name.toArray⟩, vi, vt, .bool F.all, vc] 30)).heap.size = w.heap.size + 1 := by simp
  have hbz := Lib.hid (Below.refl ((w.alloc (.cells #[.string ⟨F.name.toArray⟩, vi, vt, .bool F.all, vc] 30)).alloc (.cells #[.slice none 0 0, .slice none 0 0] 25)).heap.size ((w.alloc (.cells #[.string ⟨F.name.toArray⟩, vi, vt, .bool F.all, vc] 30)).alloc (.cells #[.slice none 0 0, .slice none 0 0] 25)))
  have HSZ := Lib.hid hsz
  have HV := Lib.hid (fun W (hW : Below w.heap.size w W) => rvright_any W ⟨vi, vt, vc, rfl, hm.below (hW.mono hBB)⟩ (Nat.le_trans hBB hW.size) ok)
  have HLo := Lib.hid (fun W (hW : Below w.heap.size w W) => rvlocs_any W ⟨vi, vt, vc, rfl, hm.below (hW.mono hBB)⟩ (Nat.le_trans hBB hW.size) ok)
  obtain ⟨⟨A0, c0, rfl, hi1, hi2, hi3⟩, ⟨A2, c2, rfl, hj1, hj2, hj3⟩, ⟨A1, c1, rfl, -⟩⟩ := hm
  unfold flv maxLen at *
  clear hbb hsz ok hB1 hs
  obtain ⟨t0, t1, t2, t3, t4⟩ := hbx.out
  by_cases hq : VM.right F = true
  · have HE := Lib.hid (show codE F = 0 by unfold codE; rw [if_pos hq])
    have HP := Lib.hid (show codP F = ⟨(VM.locsR F).map (fstN F.init), F.ths.map (thrS (VM.locsR F))⟩ by unfold codP; rw [if_pos hq])
    have HQ := Lib.hid hq
    have hlen : (locsR F).length ≤ 4 := by
      have : locsR F = locs F := by unfold locsR; rw [if_pos hq]
      rw [this]; exact locs_four hq
    replace HV := Lib.hid (hq ▸ HV.out)
    clear hq
    go_enter Try.func28, Try.ntmps28
    go_wp2_with fail
    refine (HV.out _ hB2).mono ?_
    rintro e w1 ⟨rfl, hb⟩
    have hB := chain hB2 hb
    replace hbx := Lib.hid (hbx.out.below hb)
    replace hbz := Lib.hid (chain hbz.out hb)
    clear t0 t1 t2 t3 t4 hb
    obtain ⟨t0, t1, t2, t3, t4⟩ := hbx.out
    clear HV hB2
    go_wp2_with fail
    refine (HLo.out _ hB).mono ?_
    rintro e w2 ⟨vl, rfl, hol, hb⟩
    have hBq := chain hB hb
    replace hbx := Lib.hid (hbx.out.below hb)
    replace hbz := Lib.hid (chain hbz.out hb)
    obtain ⟨AL, cL, rfl⟩ := own_slice hol
    have HLS := Lib.hid (strs_own hol)
    clear t0 t1 t2 t3 t4 hb hol HLo hB
    obtain ⟨t0, t1, t2, t3, t4⟩ := hbx.out
    have q0 := lt_of_cell t0
    obtain ⟨ii, hii, hiz, his, hib⟩ := info_parts info_int
    obtain ⟨w3, hmk, hown3, hgr3⟩ := run_makeSlice_full (P := Try.prog) (w := w2) w2.heap.size 22 3 ii (.int .i64 0) 1 Try.underlying22 hii hiz his .i64 .i64 (locsR F).length (by omega) (by rw [hib]; omega) (by unfold maxLen; omega) (Nat.le_refl _)
    have HMK := Lib.hid hmk
    have hB3 : Below w2.heap.size w2 w3 := ⟨hgr3.os, hgr3.tape, hgr3.output, hgr3.size, fun k hk => hgr3.block k hk (by simp)⟩
    have hO0 : w3.ownsRow w2.heap.size 3 1 (.slice (some ⟨w2.heap.size, 0, none⟩) (locsR F).length (locsR F).length) (locsR F).length (intCs (CodM.initK F.init (locsR F) 0)) := by
      have : (madeCells (Value.cells (.int .i64 0)) ((locsR F).length * 1)).toList = intCs (CodM.initK F.init (locsR F) 0) := by
        unfold CodM.initK intCs
        rw [List.map_replicate]
        apply List.ext_getElem?
        intro j
        by_cases hj : j < (locsR F).length
        · simp [madeCells, hj, Value.cells, Nat.mod_one]
        · rw [List.getElem?_eq_none (by simp [madeCells]; omega), List.getElem?_eq_none (by simp; omega)]
      rw [← this]; exact hown3
    have hgp1 : w2.heap.size < w3.heap.size := (hown3.lt w2.heap.size rfl).2
    obtain ⟨gp, hgp⟩ : ∃ g, g = w3.heap.size := ⟨_, rfl⟩
    obtain ⟨gi, hgi⟩ : ∃ g, g = w2.heap.size := ⟨_, rfl⟩
    rw [← hgi] at hmk hO0 hgp1
    rw [← hgp] at hgp1
    have HIN := Lib.hid (fun (k : Nat) (h : k < F.init.length) => CodM.cells_in HQ.out h)
    have HST := Lib.hid (fun (k : Nat) (h : k < F.init.length) => CodM.initK_step F.init (locsR F) k h)
    have HEN := Lib.hid (CodM.initK_end HQ.out)
    have hil : F.init.length ≤ 60 := HSM.out.n2
    have HPl := Lib.hid (fun W (hW : Below w2.heap.size w2 W) (s : L) => place_any s W (strs_below HLS.out hW))
    have HIL := Lib.hid (fun k => CodM.initK_len F.init (locsR F) k)
    have hO0' := own_below hO0 (below_al (Below.refl w3.heap.size w3) (.cells #[.slice (some ⟨gi, 0, none⟩) (locsR F).length (locsR F).length, .slice none 0 0] 25))
    have HY := Lib.hid (box_1 w3 #[.slice (some ⟨gi, 0, none⟩) (locsR F).length (locsR F).length, .slice none 0 0] 25)
    rw [← hgp] at HY
    have hB4 := chain hB3 (below_al (Below.refl w3.heap.size w3) (.cells #[.slice (some ⟨gi, 0, none⟩) (locsR F).length (locsR F).length, .slice none 0 0] 25))
    have HO := Lib.hid hO0'
    have hg2 : w.heap.size + 2 ≤ gi := by
      have h1 := hbz.out.size
      have h2 := HSZ.out
      rw [heap_alloc, h2] at h1
      omega
    clear hown3 hgr3 hO0 hO0' hB3 HMK q0
    have HNL0 := Lib.hid (show ((locsR F).map (fstN F.init)).length = (locsR F).length from List.length_map ..)
    generalize (locsR F).length = nL at *
    generalize CodM.initK F.init (locsR F) = iK at *
    have HGP := Lib.hid hgp
    have HGI := Lib.hid hgi
    have hgle : w2.heap.size ≤ gi := by omega
    have hgle2 : gi ≤ w2.heap.size := by omega
    clear hgp hgi
    go_wp2
    rw [← HGP.out]
    generalize w3.alloc (.cells #[.slice (some ⟨gi, 0, none⟩) nL nL, .slice none 0 0] 25) = w4 at *
    clear hmk t0 t1 t2 t3 t4
    go_loopw [6] (fun i wr => (∃ k : Nat, k ≤ F.init.length ∧ i = .int .i64 k ∧ wr.ownsRow gi 3 1 (.slice (some ⟨gi, 0, none⟩) nL nL) nL (intCs (iK k)) ∧ wr.cell? ⟨gp, 0, none⟩ = some (.slice (some ⟨gi, 0, none⟩) nL nL) ∧ (wr.cell? ⟨gp, 1, none⟩ = some (.slice none 0 0) ∧ wr.frozen? ⟨gp, 1, none⟩ = false) ∧ Below w2.heap.size w2 wr)) (fun i _ => F.init.length - (intOf i).toNat)
    case atStart => exact ⟨0, Nat.zero_le _, rfl, HO.out, (HY.out 0 rfl).1, HY.out 1 rfl, hB4⟩
    case round =>
      obtain ⟨k, hk, rfl, hown, y0, ⟨y1, yz⟩, hB5⟩ := hrel
      obtain ⟨t0, t1, t2, t3, t4⟩ := hbx.out.below hB5
      by_cases hlt : k < F.init.length
      · obtain ⟨b1, f1, rfl, hb1, hcl⟩ := hi3 (by omega)
        obtain ⟨z0, z1⟩ := (hcl k hlt).below ((chain hBq hB5).mono hBB) hb1
        have hpl := HIN.out k hlt
        have hst := HST.out k hlt
        obtain ⟨x, hx⟩ : ∃ x, x = F.init[k] := ⟨_, rfl⟩
        rw [← hx] at z0 z1 hpl hst
        replace HPl := Lib.hid (fun W hW => HPl.out W hW x.1)
        generalize locN (locsR F) x.1 = pl at *
        have HS2 := Lib.hid hst
        have HOW := Lib.hid hown
        have f1' := (hown.frozenAt pl)
        clear hx hcl hi3 hst
        obtain ⟨u0, hu0⟩ : ∃ u, (intCs (iK k))[pl]? = some u := ⟨_, List.getElem?_eq_getElem (by rw [intCs_len, HIL.out k]; exact hpl)⟩
        have yP : wr.cell? ⟨gi, pl, none⟩ = some u0 := by rw [HOW.out.cellAt pl (by omega)]; exact hu0
        have HOS := Lib.hid (HOW.out.stored pl (.int .i64 x.2)).1
        have YY := Lib.hid (show wr.cell? ⟨gp, 1, none⟩ = some (.slice none 0 0) ∧ wr.frozen? ⟨gp, 1, none⟩ = false from ⟨y1, yz⟩)
        clear hu0 hown y1 yz
        go_wp2
        refine wp_region_held_drew (S := (fun w' => (w'.cell? ⟨gp, 0, none⟩ = some (.slice (some ⟨gi, 0, none⟩) nL nL) ∧ w'.cell? ⟨w.heap.size, 1, none⟩ = some (.slice (some ⟨b1, f1, none⟩) F.init.length c0) ∧ w'.cell? ⟨b1, f1 + k * 2, none⟩ = some (.string ⟨x.1.toArray⟩) ∧ w'.cell? ⟨b1, f1 + k * 2 + 1, none⟩ = some (.int .i64 x.2)) ∧ Below w2.heap.size w2 w')) (by kernel_rfl) ⟨⟨y0, t1, z0, z1⟩, below_drewN hB5 1⟩ (fun hHeld => ?_)
        refine wpAnyH_take (i := 0) (v := ?_) rfl (by kernel_rfl) (by kernel_rfl) (by kernel_rfl) (fun _ _ _ h => h) (Or.inl ⟨by rfl, ?_⟩) (by assumption) ?_
        rotate_left
        · intro w hSw; (try dsimp only at hSw); go_simp; (try with_reducible rfl)
        (try simp only [Act.put, List.getElem_toArray, List.getElem_cons_zero, List.getElem_cons_succ, Array.getInternal_eq_getElem, List.setIfInBounds_toArray, List.set_cons_zero, List.set_cons_succ])
        refine wpAnyH_take (i := 1) (v := ?_) rfl (by kernel_rfl) (by kernel_rfl) (by kernel_rfl) (fun _ _ _ h => h) (Or.inl ⟨by rfl, ?_⟩) (by assumption) ?_
        rotate_left
        · intro w hSw; (try dsimp only at hSw); go_simp; (try with_reducible rfl)
        (try simp only [Act.put, List.getElem_toArray, List.getElem_cons_zero, List.getElem_cons_succ, Array.getInternal_eq_getElem, List.setIfInBounds_toArray, List.set_cons_zero, List.set_cons_succ])
        refine wpAnyH_take (i := 2) (v := ?_) rfl (by kernel_rfl) (by kernel_rfl) (by kernel_rfl) (fun _ _ _ h => h) (Or.inl ⟨by rfl, ?_⟩) (by assumption) ?_
        rotate_left
        · intro w hSw; (try dsimp only at hSw); go_simp; (try with_reducible rfl)
        (try simp only [Act.put, List.getElem_toArray, List.getElem_cons_zero, List.getElem_cons_succ, Array.getInternal_eq_getElem, List.setIfInBounds_toArray, List.set_cons_zero, List.set_cons_succ])
        refine wpAnyH_take (i := 3) (v := ?_) rfl (by kernel_rfl) (by kernel_rfl) (by kernel_rfl) (fun _ _ _ h => h) (Or.inl ⟨by rfl, ?_⟩) (by assumption) ?_
        rotate_left
        · intro w hSw; (try dsimp only at hSw); go_simp; (try with_reducible rfl)
        (try simp only [Act.put, List.getElem_toArray, List.getElem_cons_zero, List.getElem_cons_succ, Array.getInternal_eq_getElem, List.setIfInBounds_toArray, List.set_cons_zero, List.set_cons_succ])
        refine wpAnyH_take (i := 4) (v := ?_) rfl (by kernel_rfl) (by kernel_rfl) (by kernel_rfl) (fun _ _ _ h => h) (Or.inl ⟨by rfl, ?_⟩) (by assumption) ?_
        rotate_left
        · intro w hSw; (try dsimp only at hSw); go_simp; (try with_reducible rfl)
        (try simp only [Act.put, List.getElem_toArray, List.getElem_cons_zero, List.getElem_cons_succ, Array.getInternal_eq_getElem, List.setIfInBounds_toArray, List.set_cons_zero, List.set_cons_succ])
        refine wpAnyH_take (i := 5) (v := ?_) rfl (by kernel_rfl) (by kernel_rfl) (by kernel_rfl) (fun _ _ _ h => h) (Or.inl ⟨by rfl, ?_⟩) (by assumption) ?_
        rotate_left
        · intro w hSw; (try dsimp only at hSw); go_simp; (try with_reducible rfl)
        (try simp only [Act.put, List.getElem_toArray, List.getElem_cons_zero, List.getElem_cons_succ, Array.getInternal_eq_getElem, List.setIfInBounds_toArray, List.set_cons_zero, List.set_cons_succ])
        refine wpAnyH_take (i := 6) (v := ?_) rfl (by kernel_rfl) (by kernel_rfl) (by kernel_rfl) (fun _ _ _ h => h) (Or.inl ⟨by rfl, ?_⟩) (by assumption) ?_
        rotate_left
        · intro w hSw; (try dsimp only at hSw); go_simp; (try with_reducible rfl)
        (try simp only [Act.put, List.getElem_toArray, List.getElem_cons_zero, List.getElem_cons_succ, Array.getInternal_eq_getElem, List.setIfInBounds_toArray, List.set_cons_zero, List.set_cons_succ])
        refine wpAnyH_take (i := 7) (v := ?_) rfl (by kernel_rfl) (by kernel_rfl) (by kernel_rfl) (fun _ _ _ h => h) (Or.inl ⟨by rfl, ?_⟩) (by assumption) ?_
        rotate_left
        · intro w hSw; (try dsimp only at hSw); go_simp; (try with_reducible rfl)
        (try simp only [Act.put, List.getElem_toArray, List.getElem_cons_zero, List.getElem_cons_succ, Array.getInternal_eq_getElem, List.setIfInBounds_toArray, List.set_cons_zero, List.set_cons_succ])
        refine wpAnyH_take (i := 8) (v := ?_) rfl (by kernel_rfl) (by kernel_rfl) (by kernel_rfl) (fun _ _ _ h => h) (Or.inl ⟨by rfl, ?_⟩) (by assumption) ?_
        rotate_left
        · intro w hSw; (try dsimp only at hSw); go_simp; (try with_reducible rfl)
        (try simp only [Act.put, List.getElem_toArray, List.getElem_cons_zero, List.getElem_cons_succ, Array.getInternal_eq_getElem, List.setIfInBounds_toArray, List.set_cons_zero, List.set_cons_succ])
        refine wpAnyH_take (i := 10) (v := ?_) rfl (by kernel_rfl) (by kernel_rfl) (by kernel_rfl) (fun _ _ _ h => h) (Or.inl ⟨by rfl, ?_⟩) (by assumption) ?_
        rotate_left
        · intro w hSw; (try dsimp only at hSw); go_simp; (try with_reducible rfl)
        (try simp only [Act.put, List.getElem_toArray, List.getElem_cons_zero, List.getElem_cons_succ, Array.getInternal_eq_getElem, List.setIfInBounds_toArray, List.set_cons_zero, List.set_cons_succ])
        refine wpAnyH_take (i := 11) (v := ?_) rfl (by kernel_rfl) (by kernel_rfl) (by kernel_rfl) (fun _ _ _ h => h) (Or.inl ⟨by rfl, ?_⟩) (by assumption) ?_
        rotate_left
        · intro w hSw; (try dsimp only at hSw); go_simp; (try with_reducible rfl)
        (try simp only [Act.put, List.getElem_toArray, List.getElem_cons_zero, List.getElem_cons_succ, Array.getInternal_eq_getElem, List.setIfInBounds_toArray, List.set_cons_zero, List.set_cons_succ])
        refine wpAnyH_take (i := 12) (v := ?_) rfl (by kernel_rfl) (by kernel_rfl) (by kernel_rfl) (fun _ _ _ h => h) (Or.inl ⟨by rfl, ?_⟩) (by assumption) ?_
        rotate_left
        · intro w hSw; (try dsimp only at hSw); go_simp; (try with_reducible rfl)
        (try simp only [Act.put, List.getElem_toArray, List.getElem_cons_zero, List.getElem_cons_succ, Array.getInternal_eq_getElem, List.setIfInBounds_toArray, List.set_cons_zero, List.set_cons_succ])
        refine wpAnyH_take (i := 13) (v := ?_) rfl (by kernel_rfl) (by kernel_rfl) (by kernel_rfl) (fun _ _ _ h => h) (Or.inl ⟨by rfl, ?_⟩) (by assumption) ?_
        rotate_left
        · intro w hSw; (try dsimp only at hSw); go_simp; (try with_reducible rfl)
        (try simp only [Act.put, List.getElem_toArray, List.getElem_cons_zero, List.getElem_cons_succ, Array.getInternal_eq_getElem, List.setIfInBounds_toArray, List.set_cons_zero, List.set_cons_succ])
        refine wpAnyH_take (i := 14) (v := ?_) rfl (by kernel_rfl) (by kernel_rfl) (by kernel_rfl) (fun _ _ _ h => h) (Or.inl ⟨by rfl, ?_⟩) (by assumption) ?_
        rotate_left
        · intro w hSw; (try dsimp only at hSw); go_simp; (try with_reducible rfl)
        (try simp only [Act.put, List.getElem_toArray, List.getElem_cons_zero, List.getElem_cons_succ, Array.getInternal_eq_getElem, List.setIfInBounds_toArray, List.set_cons_zero, List.set_cons_succ])
        refine wpAnyH_take (i := 15) (v := ?_) rfl (by kernel_rfl) (by kernel_rfl) (by kernel_rfl) (fun _ _ _ h => h) (Or.inl ⟨by rfl, ?_⟩) (by assumption) ?_
        rotate_left
        · intro w hSw; (try dsimp only at hSw); go_simp; (try with_reducible rfl)
        (try simp only [Act.put, List.getElem_toArray, List.getElem_cons_zero, List.getElem_cons_succ, Array.getInternal_eq_getElem, List.setIfInBounds_toArray, List.set_cons_zero, List.set_cons_succ])
        refine wpAnyH_ready (rs := [9]) (by kernel_rfl) (by simp) ?_
        refine AllReadyH.cons rfl (fun K hK => ?_) AllReadyH.nil
        go_simp
        refine (HPl.out _ hHeld.2).mono ?_
        rintro e wa ⟨rfl, rfl⟩
        refine hK.out _ _ hHeld (fun hHeld => ?_)
        clear hK K
        (try simp only [Act.put, List.getElem_toArray, List.getElem_cons_zero, List.getElem_cons_succ, Array.getInternal_eq_getElem, List.setIfInBounds_toArray, List.set_cons_zero, List.set_cons_succ])
        refine wpAnyH_take (i := 16) (v := ?_) rfl (by kernel_rfl) (by kernel_rfl) (by kernel_rfl) (fun _ _ _ h => h) (Or.inl ⟨by rfl, ?_⟩) (by assumption) ?_
        rotate_left
        · intro w hSw; (try dsimp only at hSw); go_simp; (try with_reducible rfl)
        (try simp only [Act.put, List.getElem_toArray, List.getElem_cons_zero, List.getElem_cons_succ, Array.getInternal_eq_getElem, List.setIfInBounds_toArray, List.set_cons_zero, List.set_cons_succ])
        refine wpAnyH_ready (rs := [17]) (by kernel_rfl) (by simp) ?_
        refine AllReadyH.cons rfl (fun K hK => ?_) AllReadyH.nil
        go_simp
        refine hK.out _ _ ⟨⟨set_oth (.inl (by omega)) hHeld.1.1, set_oth (.inl (by omega)) hHeld.1.2.1, set_oth (.inl (by omega)) hHeld.1.2.2.1, set_oth (.inl (by omega)) hHeld.1.2.2.2⟩, hHeld.2.setCell (p := ⟨gi, pl, none⟩) (by show w2.heap.size ≤ gi; omega) (.int .i64 x.2)⟩ (fun hHeld => ?_)
        clear hK K
        (try simp only [Act.put, List.getElem_toArray, List.getElem_cons_zero, List.getElem_cons_succ, Array.getInternal_eq_getElem, List.setIfInBounds_toArray, List.set_cons_zero, List.set_cons_succ])
        refine wpAnyH_done (by kernel_rfl) ?_ _
        go_wp2
        go_roundw
        case rel => exact ⟨k + 1, by omega, by go_num, by rw [HS2.out, intCs_set]; exact HOS.out, hHeld.1.1, ⟨set_oth (.inl (by omega)) YY.out.1, set_frozen.trans YY.out.2⟩, hHeld.2⟩
        case measure => simp [intOf]; omega
      · obtain rfl : F.init.length = k := by omega
        rw [HEN.out] at hown
        have HIO := Lib.hid hown
        clear hi3 hown HIN HST HEN HO HY HPl
        have Y0 := Lib.hid y0
        have hgpw : gp < wr.heap.size := lt_of_cell y0
        have hgB : gi < wr.heap.size := by omega
        have HNL := Lib.hid (show nL ≤ 4 from hlen)
        obtain ⟨i1, hi1', hz1, hz2, hz3⟩ := info_parts info_steps
        obtain ⟨i2, hi2', hx1, hx2, hx3⟩ := info_parts info_stepz
        have HMT := Lib.hid (fun (k : Nat) (h : k < F.ths.length) => show (F.ths.map (thrS (locsR F))).take (k + 1) = (F.ths.map (thrS (locsR F))).take k ++ [thrS (locsR F) F.ths[k]] by
          rw [List.take_succ_eq_append_getElem (by rw [List.length_map]; exact h), List.getElem_map])
        have HTF := Lib.hid (show (F.ths.map (thrS (locsR F))).take F.ths.length = F.ths.map (thrS (locsR F)) by
          rw [show F.ths.length = (F.ths.map (thrS (locsR F))).length by simp, List.take_length])
        have hth9 := HSM.out.n1
        have HB5 := Lib.hid hB5
        obtain ⟨wB, hwB⟩ : ∃ W, W = wr := ⟨_, rfl⟩
        rw [← hwB] at hgpw hgB HIO Y0 HB5
        have HP1 := Lib.hid (show wB.cell? ⟨gp, 1, none⟩ = some (.slice none 0 0) ∧ wB.frozen? ⟨gp, 1, none⟩ = false by rw [hwB]; exact ⟨y1, yz⟩)
        have hwBe := Lib.hid hwB
        clear y1 yz
        have HTL := Lib.hid (show (F.ths.map (thrS (locsR F))).length = F.ths.length from List.length_map ..)
        generalize F.ths.map (thrS (locsR F)) = ms at *
        go_wp2
        rw [← hwBe.out]
        clear hwBe hwB y0 hB5 t0 t1 t2 t3 t4
        go_loopw [7] (fun i wr => (∃ (k : Nat) (vth : Value) (us : List Value), k ≤ F.ths.length ∧ i = .int .i64 k ∧ wr.ownsRow gi 3 1 (.slice (some ⟨gi, 0, none⟩) nL nL) nL (intCs ((locsR F).map (fstN F.init))) ∧ wr.cell? ⟨gp, 0, none⟩ = some (.slice (some ⟨gi, 0, none⟩) nL nL) ∧ (wr.cell? ⟨gp, 1, none⟩ = some vth ∧ wr.frozen? ⟨gp, 1, none⟩ = false) ∧
          wr.ownsRow wB.heap.size 50 1 vth k us ∧ StsAll wr wB.heap.size us (ms.take k) ∧ Below w2.heap.size w2 wr ∧ wB.heap.size ≤ wr.heap.size)) (fun i _ => F.ths.length - (intOf i).toNat)
        case atStart => exact ⟨0, .slice none 0 0, [], Nat.zero_le _, rfl, HIO.out, Y0.out, HP1.out, World.ownsRow_nil _ _ _ _, ⟨by simp, fun j hj => absurd hj (by simp)⟩, HB5.out, Nat.le_refl _⟩
        case round =>
          obtain ⟨k, vth, us, hk, rfl, hio, y0, ⟨y1, yz⟩, hot, hst, hB6, hle⟩ := hrel
          obtain ⟨t0, t1, t2, t3, t4⟩ := hbx.out.below hB6
          by_cases hlt : k < F.ths.length
          · obtain ⟨b2, f2, rfl, hb2, hcl⟩ := hj3 (by omega)
            obtain ⟨u, z0, hL⟩ := (hcl k hlt).below ((chain hBq hB6).mono hBB) hb2
            have hmt := HMT.out k hlt
            have hlen2 := (HSM.out.ths k hlt).1
            have HSO := Lib.hid (fun (i : Nat) (hi : i < F.ths[k].length) (h : hasS F.ths[k][i] = true) => step_ok HQ.out (List.getElem_mem hlt) hi h)
            obtain ⟨ls, hx⟩ : ∃ x, x = F.ths[k] := ⟨_, rfl⟩
            rw [← hx] at hL hmt hlen2 HSO
            have HL := Lib.hid hL
            obtain ⟨A3, c3, rfl, e1, e2, e3⟩ := hL
            unfold maxLen at e2
            have HMK2 := Lib.hid hmt
            have HIO2 := Lib.hid hio
            have HOT := Lib.hid hot
            have HST2 := Lib.hid hst
            have Y1 := Lib.hid (And.intro y1 yz)
            obtain ⟨Avt, cvt, rfl⟩ := own_slice hot
            have Y0' := Lib.hid y0
            clear hx hcl hj3 hmt hio hot hst HIO HP1
            have HKE := Lib.hid (thrK_end ls (locsR F))
            have HKS := Lib.hid (fun m (h : m < ls.length) => thrK_step ls (locsR F) m h)
            have HKL := Lib.hid (fun m => thrK_len ls (locsR F) m)
            have HW6 := Lib.hid hB6
            have HRS := Lib.hid (fun (i : Nat) (hi : i < ls.length) (h : hasS ls[i] = true) W (hW : Below wr.heap.size wr W) => rstep7_any (B := w2.heap.size) i hi W ((HL.out.below (hW.mono (Nat.le_trans hBB (chain hBq HW6.out).size))).more (Nat.le_trans hBB hBq.size)) (strs_below HLS.out (chain HW6.out hW)) (chain HW6.out hW).size (by omega) (HSO.out i hi h))
            clear HSO
            generalize thrK ls (locsR F) = tk at *
            go_wp2
            go_loopw [9, 10] (fun v i wq => (∃ (m n : Nat), m ≤ ls.length ∧ i = .int .i64 m ∧ n = (tk m).length ∧ wq.ownsRow wr.heap.size 53 5 v n (stsCs (tk m)) ∧ Below wr.heap.size wr wq)) (fun _ i _ => ls.length - (intOf i).toNat)
            case atStart => exact ⟨0, 0, Nat.zero_le _, rfl, by have := HKL.out 0; omega, by rw [List.eq_nil_of_length_eq_zero (show (tk 0).length = 0 by have := HKL.out 0; omega)]; exact World.ownsRow_nil _ _ _ _, Below.refl _ _⟩
            case round =>
              obtain ⟨m, n, hm, rfl, hn, how, hBQ⟩ := hrel
              have HNn := Lib.hid hn
              have hnm : n ≤ m := by have := HKL.out m; omega
              clear hn
              by_cases hlm : m < ls.length
              · obtain ⟨b3, f3, rfl, hb3, hc3⟩ := e3 (by omega)
                obtain ⟨x0, x1, x2, x3, x4⟩ := (hc3 m hlm).below (hBQ.mono (Nat.le_trans hBB (chain hBq HW6.out).size)) hb3
                have hks := HKS.out m hlm
                have hrs := fun (h : hasS ls[m] = true) => HRS.out m hlm h _ hBQ
                obtain ⟨x, hx⟩ : ∃ x, x = ls[m] := ⟨_, rfl⟩
                rw [← hx] at x0 x1 x2 x3 x4 hks hrs
                have HX := Lib.hid hks
                clear hx hc3 e3 hks
                by_cases ho : x.op = 11
                · have q : (x.op != 11) = false := by simp [ho]
                  have HE2 := Lib.hid (show tk (m + 1) = tk m by rw [HX.out, show hasS x = false by unfold CodM.hasS; simp [ho]]; simp)
                  clear ho HX hrs
                  go_wp2
                  go_roundw
                  case rel => exact ⟨m + 1, n, by omega, by go_num, by rw [HE2.out]; exact HNn.out, by rw [HE2.out]; exact how, hBQ⟩
                  case measure => simp [intOf]; omega
                · have q : (x.op != 11) = true := by simpa using ho
                  have hsx : hasS x = true := by unfold CodM.hasS; simp [ho]
                  have HC := Lib.hid (hrs hsx)
                  have HE2 := Lib.hid (show tk (m + 1) = tk m ++ [stp ls (locsR F) x] by rw [HX.out, if_pos hsx])
                  have HSP := Lib.hid (show stsCs [stp ls (locsR F) x] = [.int .i64 x.op, .int .i64 (CodM.regI x.reg), .int .i64 (locN (locsR F) x.loc : Nat), .int .i64 x.n, .int .i64 (CodM.toN ls x.label : Nat)] from rfl)
                  generalize CodM.regI x.reg = rg at *
                  generalize locN (locsR F) x.loc = lc at *
                  generalize CodM.toN ls x.label = tn at *
                  generalize stp ls (locsR F) x = st at *
                  clear ho hsx HX hrs
                  obtain ⟨Au, cu, rfl⟩ := own_slice how
                  go_wp2_with fail
                  refine HC.out.mono ?_
                  rintro e wa ⟨rfl, hba⟩
                  have hBa := chain hBQ hba
                  have hOa := own_below how hba
                  have hsza := hBa.size
                  clear HC how hba x0 x1 x2 x3 x4
                  have HNW := Lib.hid (World.news_of_block (heap_alloc_new wa (.cells #[.int .i64 x.op, .int .i64 rg, .int .i64 (lc : Nat), .int .i64 x.n, .int .i64 (tn : Nat)] 53)))
                  have HOb := Lib.hid (hOa.alloc (.cells #[.int .i64 x.op, .int .i64 rg, .int .i64 (lc : Nat), .int .i64 x.n, .int .i64 (tn : Nat)] 53))
                  go_wp2_with (at_builtin; refine wpList_append_own _ rfl _ _ 50 rfl _ 53 i2 _ 5 40 Try.underlying50 hi2' hx1 hx2 hx3 rfl (by decide) (.slice Au n cu) n (stsCs (tk m)) rfl HOb.out ⟨wa.heap.size, 0, none⟩ 1 1 [.int .i64 x.op, .int .i64 rg, .int .i64 (lc : Nat), .int .i64 x.n, .int .i64 (tn : Nat)] rfl rfl HNW.out (by simp [Value.oneCell']) (by unfold maxLen; omega) (by omega) (by simp; omega) ?_; intro v1 wz hown1 hg1 _)
                  have hBz := below_append (hBa.alloc hBa.size (.cells #[.int .i64 x.op, .int .i64 rg, .int .i64 (lc : Nat), .int .i64 x.n, .int .i64 (tn : Nat)] 53)) (hOa.alloc _) (Nat.le_refl _) (by simp; omega) hg1
                  go_roundw
                  case rel => exact ⟨m + 1, n + 1, by omega, by go_num, by rw [HE2.out, List.length_append, ← HNn.out]; rfl, by rw [HE2.out, stsCs_app, HSP.out]; exact hown1, hBz⟩
                  case measure => simp [intOf]; omega
              · obtain rfl : ls.length = m := by omega
                clear e3
                rw [HKE.out] at how
                have hnl : n = (thrS (locsR F) ls).length := by rw [← HKE.out]; exact HNn.out
                subst hnl
                obtain ⟨Aq, cq, rfl⟩ := own_slice how
                have hot1 := own_below HOT.out hBQ
                have hst1 := HST2.out.below hBQ
                have hio1 := own_below HIO2.out hBQ
                have hB7 := chain HW6.out hBQ
                have hb8 := below_al (Below.refl wr.heap.size wr) (.cells #[.slice Aq (thrS (locsR F) ls).length cq] 50)
                have p1 := kc hBQ Y1.out.1
                have p0 := kc hBQ Y0'.out
                have f1 := (hBQ.frozen (p := ⟨gp, 1, none⟩) (lt_of_cell Y1.out.1)).trans Y1.out.2
                have f2 := (hb8.frozen (p := ⟨gp, 1, none⟩) (lt_of_cell p1)).trans f1
                have P1 := Lib.hid (kc hb8 p1)
                have P0 := Lib.hid (kc hb8 p0)
                have F2 := Lib.hid f2
                have HO8 := Lib.hid (own_below how hb8)
                have HI8 := Lib.hid (own_below hio1 hb8)
                have HS8 := Lib.hid (hst1.below hb8)
                have HT8 := Lib.hid (own_below hot1 hb8)
                have HB8 := Lib.hid (chain hB7 hb8)
                have hle8 : wB.heap.size ≤ (wr.alloc (.cells #[.slice Aq (thrS (locsR F) ls).length cq] 50)).heap.size := by have := hb8.size; have := hBQ.size; omega
                have hle5 : w2.heap.size ≤ wB.heap.size := HB5.out.size
                have hle6 : wB.heap.size ≤ wr.heap.size := by have := hBQ.size; omega
                clear how hot1 hst1 hio1 hB7 hb8 p0 f1 f2 t0 t1 t2 t3 t4 Y1 Y0' HST2 HIO2 HRS HKS HKL z0
                go_wp2_with (at_builtin; refine wpList_append_own _ rfl _ _ 23 rfl wB.heap.size 50 i1 (.slice none 0 0) 1 24 Try.underlying23 hi1' hz1 hz2 hz3 rfl (by decide) _ _ _ rfl HT8.out ⟨wr.heap.size, 0, none⟩ 1 1 [.slice Aq (thrS (locsR F) ls).length cq] rfl rfl (cell_one_new _ _ _) (by simp [Value.oneCell']) (by unfold maxLen; omega) (by omega) hle8 ?_; intro v1 wz hown1 hg1 _; obtain ⟨Av, cv, rfl⟩ := own_slice hown1; have pz1 := hg1.cell P1.out (fun c => by have := (HT8.out.lt gp c.symm).1; omega); have fz1 := (hg1.frozen_far ⟨gp, 1, none⟩ (lt_of_cell P1.out) (fun c => by have := (HT8.out.lt gp c.symm).1; omega)).trans F2.out)
                have pz0 := hg1.cell P0.out (fun c => by have := (HT8.out.lt gp c.symm).1; omega)
                have hB9 := below_append HB8.out HT8.out hle5 (Nat.le_trans hle5 hle8) hg1
                have hI9 := own_grown (by decide) HI8.out HT8.out hg1
                have hO9 := own_grown (by decide) HO8.out HT8.out hg1
                have hS9 := (HS8.out.grown (by decide) HT8.out hg1).snoc (own_base hO9 (by have := hle; omega))
                have hsz9 := hg1.size
                go_roundw
                case rel =>
                  refine ⟨k + 1, _, us ++ [.slice Aq (thrS (locsR F) ls).length cq], by omega, by go_num, ?_, set_oth (.inr (by decide)) pz0, ⟨World.cell?_setCell_same _ _ _ pz1, set_frozen.trans fz1⟩, own_set hown1 hgpw _, ?_, hB9.setCell (by show w2.heap.size ≤ gp; omega) _, ?_⟩
                  · exact ownsRow_setCell_other hI9 (fun e => by simp [Value.ownBlock] at e; omega) _
                  · rw [HMK2.out]; exact hS9.set hgpw _
                  · show wB.heap.size ≤ (wz.setCell _ _).heap.size
                    simp [World.setCell]; omega
                case measure => simp [intOf]; omega
          · obtain rfl : F.ths.length = k := by omega
            rw [HTF.out] at hst
            obtain ⟨Avt, cvt, rfl⟩ := own_slice hot
            obtain ⟨q0, s0⟩ := kept_box (chain hbz.out hB6) 0 rfl
            obtain ⟨q1, s1⟩ := kept_box (chain hbz.out hB6) 1 rfl
            rw [HSZ.out] at q0 s0 q1 s1
            have hBw := chain hBq hB6
            have HBX2 := Lib.hid ((hBw.setCell (p := ⟨w.heap.size + 1, 0, none⟩) (by show w.heap.size ≤ w.heap.size + 1; omega) (.slice (some ⟨gi, 0, none⟩) nL nL)).setCell (p := ⟨w.heap.size + 1, 1, none⟩) (by show w.heap.size ≤ w.heap.size + 1; omega) (.slice Avt F.ths.length cvt))
            have r0 := set_oth (w := wr.setCell ⟨w.heap.size + 1, 0, none⟩ (.slice (some ⟨gi, 0, none⟩) nL nL)) (v := .slice Avt F.ths.length cvt) (x := w.heap.size + 1) (i := 1) (.inr (by decide)) (World.cell?_setCell_same _ _ (.slice (some ⟨gi, 0, none⟩) nL nL) q0)
            have r1 := World.cell?_setCell_same _ _ (.slice Avt F.ths.length cvt) (set_oth (v := .slice (some ⟨gi, 0, none⟩) nL nL) (x := w.heap.size + 1) (i := 0) (.inr (by decide)) q1)
            have HPG := Lib.hid (pgm_own (b4 := ((wr.setCell ⟨w.heap.size + 1, 0, none⟩ (.slice (some ⟨gi, 0, none⟩) nL nL)).setCell ⟨w.heap.size + 1, 1, none⟩ (.slice Avt F.ths.length cvt)).heap.size) (ns := (locsR F).map (fstN F.init)) (tss := ms) (own_set (b := w.heap.size + 1) (i := 1) (own_set (b := w.heap.size + 1) (i := 0) (by rw [HNL0.out]; exact hio) (by omega) _) (by omega) _)
              (own_set (b := w.heap.size + 1) (i := 1) (own_set (b := w.heap.size + 1) (i := 0) (by rw [HTL.out]; exact hot) (by omega) _) (by omega) _) ((hst.set (b := w.heap.size + 1) (i := 0) (by omega) _).set (b := w.heap.size + 1) (i := 1) (by omega) _) (Nat.le_refl _) HP.out)
            clear hio hot hst hj3 HMT HIO hB6 HB5 t0 t1 t3 t4 hBw Y0 HP1
            go_wp2
            refine bodyPost_ret (v := .tuple #[.agg #[.slice (some ⟨gi, 0, none⟩) nL nL, .slice Avt F.ths.length cvt], .int .i64 0]) (by simp [results, Try.results28, go_sem, r0, r1, hz]) rfl ⟨_, _, by rw [HE.out], HPG.out, HBX2.out⟩
  · have HE := Lib.hid (show codE F = 1 by unfold codE; rw [if_neg hq])
    have HP := Lib.hid (show codP F = ⟨[], []⟩ by unfold codP; rw [if_neg hq])
    replace HV := Lib.hid ((show VM.right F = false by simpa using hq) ▸ HV.out)
    clear hq HLo
    go_enter Try.func28, Try.ntmps28
    go_wp2_with fail
    refine (HV.out _ hB2).mono ?_
    rintro e w1 ⟨rfl, hb⟩
    have hB := chain hB2 hb
    obtain ⟨y0, z0⟩ := kept_box (chain hbz.out hb) 0 rfl
    obtain ⟨y1, z1⟩ := kept_box (chain hbz.out hb) 1 rfl
    rw [HSZ.out] at y0 z0 y1 z1
    clear t0 t1 t2 t3 t4 hb
    have HBX2 := Lib.hid ((hB.setCell (p := ⟨w.heap.size + 1, 0, none⟩) (by show w.heap.size ≤ w.heap.size + 1; omega) (.slice none 0 0)).setCell (p := ⟨w.heap.size + 1, 1, none⟩) (by show w.heap.size ≤ w.heap.size + 1; omega) (.slice none 0 0))
    have r0 := set_oth (w := w1.setCell ⟨w.heap.size + 1, 0, none⟩ (.slice none 0 0)) (v := .slice none 0 0) (x := w.heap.size + 1) (i := 1) (.inr (by decide)) (World.cell?_setCell_same _ _ (.slice none 0 0) y0)
    have r1 := World.cell?_setCell_same _ _ (.slice none 0 0) (set_oth (v := .slice none 0 0) (x := w.heap.size + 1) (i := 0) (.inr (by decide)) y1)
    go_wp2
    refine bodyPost_ret (v := .tuple #[.agg #[.slice none 0 0, .slice none 0 0], .int .i64 1]) (by simp [results, Try.results28, go_sem, r0, r1, hz]) rfl ⟨_, _, by rw [HE.out], by rw [HP.out]; exact ⟨ints_nil _ _, sss_nil _ _⟩, HBX2.out⟩
end Go.Proofs.Ytaelfjphgdlbcaa
