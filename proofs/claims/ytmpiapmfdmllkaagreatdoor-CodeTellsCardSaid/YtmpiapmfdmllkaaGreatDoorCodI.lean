/-
  THE DOCUMENT's way to what locations have at first, as mathematics: cell by cell.
-/
import Derived.Test.YtmpiapmfdmllkaaGreatDoorCdR
namespace Go.Proofs.YtmpiapmfdmllkaaGreatDoor.CodM
open WordM (L)
open OpsM (Ln)
open VM (Fl)
set_option linter.unusedVariables false
set_option linter.unusedSimpArgs false

def initK (cs : List (L × Int)) (locs : List L) : Nat → List Int
  | 0 => List.replicate locs.length 0
  | k + 1 => match cs[k]? with | some c => (initK cs locs k).set (locN locs c.1) c.2 | none => initK cs locs k
theorem initK_step (cs : List (L × Int)) (locs : List L) (k : Nat) (h : k < cs.length) : initK cs locs (k + 1) = (initK cs locs k).set (locN locs cs[k].1) cs[k].2 := by
  show (match cs[k]? with | some c => _ | none => _) = _
  rw [List.getElem?_eq_getElem h]
theorem initK_len (cs : List (L × Int)) (locs : List L) : ∀ k, (initK cs locs k).length = locs.length
  | 0 => by simp [initK]
  | k + 1 => by
    show (match cs[k]? with | some c => _ | none => _ : List Int).length = _
    cases cs[k]? with
    | none => exact initK_len cs locs k
    | some c => simp [initK_len cs locs k]
theorem initK_at {F : Fl} (h : VM.right F = true) : ∀ k, k ≤ F.init.length → ∀ j (hj : j < (VM.locs F).length), (initK F.init (VM.locs F) k)[j]? = some (lastN (F.init.take k) (VM.locs F)[j])
  | 0, _, j, hj => by simp [initK, lastN, hj]
  | k + 1, hk, j, hj => by
    rw [initK_step _ _ _ (by omega), lastN_take _ _ _ (by omega)]
    have ih := initK_at h k (by omega) j hj
    have hmem := cell_mem (F := F) (c := F.init[k]) (List.getElem_mem (by omega)) (name_ne (by
      have h1 := (frameC_zero (right_zero h).1).2
      unfold VM.cellsC at h1
      cases e : VM.firstAt (VM.cellC F.init) F.init.length with
      | some q => rw [e] at h1; exact absurd h1 (VM.firstAt_some e).2.1
      | none =>
        have h2 := VM.firstAt_none.1 e k (by omega)
        unfold VM.cellC at h2
        rw [getD_at _ _ _ (show k < F.init.length by omega)] at h2
        by_cases c1 : WordM.nameB F.init[k].1 = false
        · rw [if_pos c1] at h2; cases h2
        · simpa using c1))
    obtain ⟨hq, hql⟩ := locN_at hmem
    rw [List.getElem?_set]
    by_cases c : locN (VM.locs F) F.init[k].1 = j
    · rw [if_pos c, if_pos (by rw [initK_len]; exact hq)]
      subst c
      rw [hql, if_pos rfl]
    · rw [if_neg c, ih, if_neg]
      intro e
      apply c
      have hnd := locs_nodup F
      have e2 : (VM.locs F)[locN (VM.locs F) F.init[k].1] = (VM.locs F)[j] := hql.trans e
      exact (List.getElem_inj hnd).1 e2
theorem initK_end {F : Fl} (h : VM.right F = true) : initK F.init (VM.locsR F) F.init.length = (VM.locsR F).map (fstN F.init) := by
  rw [show VM.locsR F = VM.locs F by unfold VM.locsR; rw [if_pos h]]
  apply List.ext_getElem?
  intro j
  by_cases hj : j < (VM.locs F).length
  · rw [initK_at h _ (Nat.le_refl _) j hj, List.take_length, List.getElem?_map, List.getElem?_eq_getElem hj, lastN_one h]; rfl
  · rw [List.getElem?_eq_none (by rw [initK_len]; omega), List.getElem?_eq_none (by rw [List.length_map]; omega)]
theorem cells_in {F : Fl} (h : VM.right F = true) {k : Nat} (hk : k < F.init.length) : locN (VM.locsR F) F.init[k].1 < (VM.locsR F).length := by
  rw [show VM.locsR F = VM.locs F by unfold VM.locsR; rw [if_pos h]]
  have hmem := cell_mem (F := F) (c := F.init[k]) (List.getElem_mem hk) (name_ne (by
    have h1 := (frameC_zero (right_zero h).1).2
    unfold VM.cellsC at h1
    cases e : VM.firstAt (VM.cellC F.init) F.init.length with
    | some q => rw [e] at h1; exact absurd h1 (VM.firstAt_some e).2.1
    | none =>
      have h2 := VM.firstAt_none.1 e k hk
      unfold VM.cellC at h2
      rw [getD_at _ _ _ hk] at h2
      by_cases c1 : WordM.nameB F.init[k].1 = false
      · rw [if_pos c1] at h2; cases h2
      · simpa using c1))
  exact (locN_at hmem).1
end Go.Proofs.YtmpiapmfdmllkaaGreatDoor.CodM
