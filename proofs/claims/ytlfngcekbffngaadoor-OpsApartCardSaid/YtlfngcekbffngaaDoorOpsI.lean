/-
  ops.Get, over any world that holds the registers.
-/
import Derived.Test.YtlfngcekbffngaaDoorOpsH
import Derived.Test.YtlfngcekbffngaaDoorOpsU
import Derived.Test.YtlfngcekbffngaaDoorEqual
import Derived.Test.YtlfngcekbffngaaDoorOpsL
namespace Go.Proofs.YtlfngcekbffngaaDoor
open Go.RowKit
set_option linter.unusedVariables false
set_option linter.unusedSimpArgs false
open WordM (L)

theorem rightw_any (l : OpsM.Ln) (w : World) (hr : Regs w) :
    Calls Tryd.prog 16 #[lnw l] w fun e w' => e = .returned (.bool (OpsM.rightL l)) ∧ Below w.heap.size w w' := right_any _ _ _ _ _ w hr
theorem wordsw_any (l : OpsM.Ln) (w : World) (hr : Regs w) (hn : NumM.inR l.n) (ho : l.loc.length ≤ 100000) (hb : l.label.length ≤ 100000) :
    Calls Tryd.prog 19 #[lnw l] w (RetStrs (OpsM.wordsL l) w) :=
  lwords_any _ _ _ _ _ w hr hn (by rw [Lib.size_eq]; simpa using ho) (by rw [Lib.size_eq]; simpa using hb)

set_option maxHeartbeats 2000000 in
set_option maxRecDepth 100000 in
theorem opget_any {B : Nat} {v : Value} {ls : List L} (w : World) (hr : Regs w) (h : Strs B w v ls) (hBB : B ≤ w.heap.size) (hs : ∀ l ∈ ls, l.length ≤ 100000) :
    Calls Tryd.prog 12 #[v] w fun e w' => e = .returned (.tuple #[lnw (OpsM.get ls).1, .bool (OpsM.get ls).2]) ∧ Below w.heap.size w w' := by
  have hlen := OpsM.made_len ls 100000 hs
  have hra := OpsM.made_range ls
  have HM := Lib.hid (fun W (hr : Regs W) (h : Strs B W v ls) (hB : B ≤ W.heap.size) => opmade_any W hr h hB hs)
  have HG := Lib.hid (show OpsM.get ls = if OpsM.rightL (OpsM.made ls) && decide (OpsM.wordsL (OpsM.made ls) = ls) then (OpsM.made ls, true) else (OpsM.zero, false) from rfl)
  have HR := Lib.hid (fun W h => rightw_any (OpsM.made ls) W h)
  have HS := Lib.hid (fun W h => wordsw_any (OpsM.made ls) W h hra hlen.1 hlen.2)
  have HW := Lib.hid hr
  have H := Lib.hid h
  clear hr h hs hlen hra
  generalize OpsM.get ls = res at *
  generalize OpsM.made ls = l at *
  generalize OpsM.rightL l = rb at *
  generalize OpsM.wordsL l = ws at *
  unfold lnw lnv at HM HR HS
  cases rb
  · go_enter Tryd.func12, Tryd.ntmps12
    go_wp2_with fail
    refine (HM.out _ (HW.out.below ((Below.refl _ _).alloc (Nat.le_refl _) _)) (strs_below H.out ((Below.refl _ _).alloc hBB _)) (by simp; omega)).mono ?_
    rintro e w1 ⟨rfl, hB⟩
    have HW1 := Lib.hid (HW.out.below (box_below hB))
    go_wp2_with fail
    refine (HR.out _ (HW1.out.below ((Below.refl _ _).alloc (Nat.le_refl _) _))).mono ?_
    rintro e w2 ⟨rfl, hB2⟩
    have B02 := chain hB (box_below hB2)
    obtain ⟨c0, f0⟩ := kept_box B02 0 rfl
    obtain ⟨c1, f1⟩ := kept_box B02 1 rfl
    obtain ⟨c2, f2⟩ := kept_box B02 2 rfl
    obtain ⟨c3, f3⟩ := kept_box B02 3 rfl
    obtain ⟨c4, f4⟩ := kept_box B02 4 rfl
    have hz := box_lt B02
    go_wp2
    exact bodyPost_ret (v := .tuple #[lnw OpsM.zero, .bool false]) (by simp [results, Tryd.results12, go_sem, lnw, lnv, OpsM.zero, c0, c1, c2, c3, c4, hz]) rfl ⟨by rw [HG.out]; rfl, (((((box_below B02).setCell (Nat.le_refl _) _).setCell (Nat.le_refl _) _).setCell (Nat.le_refl _) _).setCell (Nat.le_refl _) _).setCell (Nat.le_refl _) _⟩
  · go_enter Tryd.func12, Tryd.ntmps12
    go_wp2_with fail
    refine (HM.out _ (HW.out.below ((Below.refl _ _).alloc (Nat.le_refl _) _)) (strs_below H.out ((Below.refl _ _).alloc hBB _)) (by simp; omega)).mono ?_
    rintro e w1 ⟨rfl, hB⟩
    have HW1 := Lib.hid (HW.out.below (box_below hB))
    go_wp2_with fail
    refine (HR.out _ (HW1.out.below ((Below.refl _ _).alloc (Nat.le_refl _) _))).mono ?_
    rintro e w2 ⟨rfl, hB2⟩
    have HW2 := Lib.hid (HW1.out.below (box_below hB2))
    obtain ⟨b0, _⟩ := kept_box hB2 0 rfl
    obtain ⟨b1, _⟩ := kept_box hB2 1 rfl
    obtain ⟨b2, _⟩ := kept_box hB2 2 rfl
    obtain ⟨b3, _⟩ := kept_box hB2 3 rfl
    obtain ⟨b4, _⟩ := kept_box hB2 4 rfl
    go_wp2_with fail
    refine (HS.out _ HW2.out).mono ?_
    rintro e w3 ⟨u, rfl, how, hB3⟩
    clear b0 b1 b2 b3 b4
    have B13 := chain hB2 hB3
    have B03 := chain hB (box_below B13)
    obtain ⟨c0, f0⟩ := kept_box B03 0 rfl
    obtain ⟨c1, f1⟩ := kept_box B03 1 rfl
    obtain ⟨c2, f2⟩ := kept_box B03 2 rfl
    obtain ⟨c3, f3⟩ := kept_box B03 3 rfl
    obtain ⟨c4, f4⟩ := kept_box B03 4 rfl
    obtain ⟨b0, g0⟩ := kept_box B13 0 rfl
    obtain ⟨b1, g1⟩ := kept_box B13 1 rfl
    obtain ⟨b2, g2⟩ := kept_box B13 2 rfl
    obtain ⟨b3, g3⟩ := kept_box B13 3 rfl
    obtain ⟨b4, g4⟩ := kept_box B13 4 rfl
    have hz := box_lt B03
    have S1 := Lib.hid (strs_own how)
    have S2 := Lib.hid (strs_more (strs_below H.out ((box_below B03).mono hBB)) (Nat.le_trans hBB (box_below B03).size))
    clear how
    go_wp2_with fail
    refine (equal_any _ _ _ _ _ _ S1.out S2.out).mono ?_
    rintro e w4 ⟨rfl, n, rfl⟩
    by_cases hq : ws = ls
    · have hq2 : sameB ws ls = true := decide_eq_true hq
      have E := Lib.hid (show res = (l, true) by rw [HG.out, decide_eq_true hq]; rfl)
      clear hq
      go_wp2
      exact bodyPost_ret (v := .tuple #[lnw l, .bool true]) (by simp [results, Tryd.results12, go_sem, lnw, lnv, c0, c1, c2, c3, c4, hz]) rfl ⟨by rw [E.out], (((((below_drewN (box_below B03) n).setCell (Nat.le_refl _) _).setCell (Nat.le_refl _) _).setCell (Nat.le_refl _) _).setCell (Nat.le_refl _) _).setCell (Nat.le_refl _) _⟩
    · have hq2 : sameB ws ls = false := decide_eq_false hq
      have E := Lib.hid (show res = (OpsM.zero, false) by rw [HG.out, decide_eq_false hq]; rfl)
      clear hq
      go_wp2
      exact bodyPost_ret (v := .tuple #[lnw OpsM.zero, .bool false]) (by simp [results, Tryd.results12, go_sem, lnw, lnv, OpsM.zero, c0, c1, c2, c3, c4, hz]) rfl ⟨by rw [E.out], (((((below_drewN (box_below B03) n).setCell (Nat.le_refl _) _).setCell (Nat.le_refl _) _).setCell (Nat.le_refl _) _).setCell (Nat.le_refl _) _).setCell (Nat.le_refl _) _⟩
end Go.Proofs.YtlfngcekbffngaaDoor
