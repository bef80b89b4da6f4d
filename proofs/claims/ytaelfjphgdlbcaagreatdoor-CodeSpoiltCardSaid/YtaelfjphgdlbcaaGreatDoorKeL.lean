/-
  slices.Sorted(maps.Keys(m)) of a map of the call's own: by the library's contracts.
  valid.Locs: the locations of a right program, rising.
-/
import Derived.Test.YtaelfjphgdlbcaaGreatDoorShelf
import Derived.Test.YtaelfjphgdlbcaaGreatDoorBase
import Derived.Test.YtaelfjphgdlbcaaGreatDoorChk
import Derived.Test.YtaelfjphgdlbcaaGreatDoorLocA
namespace Go.Proofs.YtaelfjphgdlbcaaGreatDoor
open Go.RowKit Go.Maps Go.Sort Go.Shelf
set_option linter.unusedVariables false

theorem sort_in (m : Nat) : AnyZ.SortsIn Tryz.prog Tryz.shSorted_ren Fence.wide m :=
  ⟨fun b o c ss W h1 h2 h3 => callsIn_wide.2 (AnyM.slices_Sort_string Tryz.shSort b o c ss W h1 h2 h3), fun p c W => callsIn_wide.2 (AnyM.slices_Sort_string_none Tryz.shSort p c W)⟩
/-- maps.Keys: a function value over one new block that holds the map. -/
theorem keys_call (mb : Option Nat) (W : World) :
    Calls Tryz.prog 34 #[.map mb] W fun e w' => e = .returned (.func (.func 47) #[] #[.pointer (some ⟨W.heap.size, 0, none⟩)]) ∧ w' = W.alloc (.cells #[.map mb] 80) :=
  callsIn_wide.1 (AnyZ.keys_in Tryz.shKeys Fence.wide 5 trivial rfl mb W)
set_option maxHeartbeats 1000000 in
/-- slices.Sorted at what maps.Keys handed back: the keys, sorted, in new memory. -/
theorem sorted_call {H : Type} (b n : Nat) (D : DataW H) (R : Value → Option (DataW H × List MemPlace)) (w : World) (hown : w.ownsMap Tryz.prog 9 R b n D) (h1 : Maps.size D ≤ maxLen) (h2 : Maps.size D * 16 ≤ 140737488355328) :
    Calls Tryz.prog 33 #[.func (.func 47) #[] #[.pointer (some ⟨w.heap.size, 0, none⟩)]] (w.alloc (.cells #[.map (some b)] 80)) fun e w' =>
      ∃ (v : Value) (ss : List (List UInt8)), e = .returned v ∧ ss.Perm (strKeys D) ∧ w'.ownsRow (w.alloc (.cells #[.map (some b)] 80)).heap.size 9 1 v ss.length ((ss.mergeSort (fun x y => decide (x ≤ y))).map encStr) ∧
        (v = .slice none 0 0 ↔ ss = []) ∧ Below (w.alloc (.cells #[.map (some b)] 80)).heap.size (w.alloc (.cells #[.map (some b)] 80)) w' := by
  have hbl := hown.lt
  have hseq : SeqGives Fence.wide 2 Tryz.prog 47 #[.pointer (some ⟨w.heap.size, 0, none⟩)] encStr (fun ss => ss.Perm (strKeys D)) (Maps.size D) (w.alloc (.cells #[.map (some b)] 80)) := by
    refine AnyZ.keys_gives (R := R) (ρ := Tryz.shKeys_ren) { Tryz.shKeys with } Fence.wide _ trivial rfl (by omega) w.heap.size b n D _ (by simp) (by simp) ?_
    obtain ⟨es, clock, hb, Ft, hs, hD⟩ := hown
    exact ⟨es, clock, (Below.heap_alloc _ _ b hbl).trans hb, Ft, hs, hD⟩
  exact callsIn_wide.1 (AnyZ.sorted_in Tryz.shSorted Fence.wide 5 trivial trivial trivial trivial rfl (by omega) (sort_in _) (enters_of Tryz.func46 (by kernel_rfl) rfl) 47 _ trivial (enters_of Tryz.func47 (by kernel_rfl) rfl) _ _ h1 h2 _ hseq)
end Go.Proofs.YtaelfjphgdlbcaaGreatDoor
namespace Go.Proofs.YtaelfjphgdlbcaaGreatDoor
open Go.RowKit Go.WideMaps Go.Maps
set_option linter.unusedVariables false
set_option linter.unusedSimpArgs false
open WordM (L)
open VM

theorem right_zero {F : Fl} (h : VM.right F = true) : frameC F = 0 ∧ (lineT F.ths).2.2 = 0 ∧ (atomT F.ths.length F.cond).2.2 = 0 ∧ locC F = 0 := by
  have hz : (chk F).2.2 = 0 := by unfold VM.right at h; simpa using h
  unfold chk at hz
  by_cases h1 : frameC F ≠ 0
  · rw [if_pos h1] at hz; exact absurd hz h1
  rw [if_neg h1] at hz
  by_cases h2 : (lineT F.ths).2.2 ≠ 0
  · rw [if_pos h2] at hz; exact absurd hz h2
  rw [if_neg h2] at hz
  by_cases h3 : (atomT F.ths.length F.cond).2.2 ≠ 0
  · rw [if_pos h3] at hz; exact absurd hz h3
  rw [if_neg h3] at hz
  by_cases h4 : locC F ≠ 0
  · rw [if_pos h4] at hz; exact absurd hz h4
  exact ⟨by omega, by omega, by omega, by omega⟩
set_option maxHeartbeats 4000000 in
set_option maxRecDepth 100000 in
theorem locs_any {B : Nat} {v : Value} {F : Fl} (w : World) (hr : Regs w) (hg : EA.ErrG w) (hv : FlV B w v F) (hBB : B ≤ w.heap.size) (ok : FlOk F) :
    Calls Tryz.prog 18 #[v] w fun e w' => RetStrs (locsR F) w e w' := by
  obtain ⟨vi, vt, vc, rfl, hm⟩ := hv
  have HM := Lib.hid hm
  have HOK := Lib.hid ok
  have hB3 := below_al (Below.refl w.heap.size w) (.cells #[.string ⟨F.name.toArray⟩, vi, vt, .bool F.all, vc] 39)
  have H1 := Lib.hid (vright_any _ (hr.below hB3) (hg.below hB3) ⟨vi, vt, vc, rfl, HM.out.below (hB3.mono hBB)⟩ (Nat.le_trans hBB hB3.size) ok)
  have H2 := Lib.hid (fun W (hW : Below w.heap.size w W) => locations_any (v := flv ⟨F.name.toArray⟩ vi vt vc F.all) W ⟨vi, vt, vc, rfl, HM.out.below (hW.mono hBB)⟩ (Nat.le_trans hBB hW.size) HOK.out)
  obtain ⟨⟨A0, c0, rfl, _⟩, ⟨A2, c2, rfl, _⟩, ⟨A1, c1, rfl, _⟩⟩ := hm
  unfold flv at *
  clear hr hg ok HM
  cases hq : VM.right F
  · have E := Lib.hid (show locsR F = [] by unfold locsR; rw [hq]; rfl)
    rw [hq] at H1
    clear hq H2
    go_enter Tryz.func18, Tryz.ntmps18
    go_wp2_with fail
    refine H1.out.mono ?_
    rintro e w1 ⟨rfl, hb⟩
    have hB := chain hB3 hb
    go_wp2
    go_ret
    unfold RetStrs
    rw [E.out]
    exact ⟨_, rfl, ⟨rfl, .inl ⟨rfl, rfl⟩⟩, hB⟩
  · have E := Lib.hid (show locsR F = locs F by unfold locsR; rw [hq]; rfl)
    have HN := Lib.hid (names_ok (right_zero hq).1 (right_zero hq).2.2.1)
    have HL := Lib.hid (show (locs F).length ≤ 4 by
      have := (right_zero hq).2.2.2
      unfold locC at this
      by_cases h : 4 < (locs F).length
      · rw [if_pos h] at this; cases this
      · omega)
    rw [hq] at H1
    clear hq
    go_enter Tryz.func18, Tryz.ntmps18
    go_wp2_with fail
    refine H1.out.mono ?_
    rintro e w1 ⟨rfl, hb⟩
    have hB := chain hB3 hb
    have ⟨t0, t1, t2, t3, t4⟩ := (FlBox.at (w := w) rfl ⟨F.name.toArray⟩ (.slice A0 F.init.length c0) (.slice A2 F.ths.length c2) (.slice A1 F.cond.length c1) F.all 39).below hb
    have H3 := Lib.hid (H2.out w1 hB)
    clear H1 hb
    go_wp2_with fail
    refine H3.out.mono ?_
    rintro e w2 ⟨rfl, ⟨n, f, D, hn, hcm, htd, hh⟩, hb2⟩
    have hB2 := chain hB hb2
    have hsz := cset_size HN.out hcm htd hh
    have hpm := cset_perm hcm htd hh (locs_nodup F) (locs_mem' HN.out)
    have HK := Lib.hid (keys_call (some (w1.heap.size + 1)) w2)
    have hll := HL.out
    have HS := Lib.hid (sorted_call _ n D _ w2 hcm.1 (by rw [hsz]; unfold maxLen; omega) (by rw [hsz]; omega))
    have HP := Lib.hid hpm
    clear hpm hsz hcm htd hh H3 H2 t0 t1 t2 t3 t4
    go_wp2_with fail
    refine HK.out.mono ?_
    rintro e w3 ⟨rfl, rfl⟩
    go_wp2_with fail
    refine HS.out.mono ?_
    rintro e w4 ⟨v, ss, rfl, hperm, hrow, _, hb4⟩
    have hB4 := hB2.trans ((below_al (Below.refl w2.heap.size w2) (.cells #[.map (some (w1.heap.size + 1))] 80)).trans (hb4.mono (by simp)) |>.mono hB2.size)
    rw [sort_locs (hperm.trans HP.out.symm)] at hrow
    have hlen : ss.length = (locs F).length := (hperm.trans HP.out.symm).length_eq
    rw [hlen] at hrow
    have HRow := Lib.hid hrow
    clear hrow HS HK
    go_wp2
    go_ret
    unfold RetStrs
    rw [E.out]
    refine ⟨v, rfl, ?_, hB4⟩
    have := own_base HRow.out (base' := w.heap.size) (by have := hB2.size; simp; omega)
    exact this
end Go.Proofs.YtaelfjphgdlbcaaGreatDoor
