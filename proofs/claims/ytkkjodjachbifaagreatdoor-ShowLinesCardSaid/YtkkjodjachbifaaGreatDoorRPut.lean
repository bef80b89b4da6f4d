/-
  THE DOCUMENT's put: a name among others that rise.
-/
import Derived.Test.YtkkjodjachbifaaGreatDoorFrame
import Derived.Test.YtkkjodjachbifaaGreatDoorStrs
import Derived.Test.YtkkjodjachbifaaGreatDoorLocA
namespace Go.Proofs.YtkkjodjachbifaaGreatDoor
open Go.RowKit
set_option linter.unusedVariables false
set_option linter.unusedSimpArgs false
open WordM (L)
open VM

def PtRel (ls : List L) (s : L) (w : World) (v d i : Value) (wr : World) : Prop :=
  ∃ (k : Nat) (out : List L) (dn : Bool), k ≤ ls.length ∧ i = .int .i64 k ∧ d = .bool dn ∧ out.length ≤ 2 * k ∧ VM.put ls s = out ++ (if dn = true then ls.drop k else ins s (ls.drop k)) ∧ wr.ownsRow w.heap.size 9 1 v out.length (svs out) ∧ Below w.heap.size w wr
theorem pt_own {w wr w1 : World} {v v' : Value} {out : List L} {x : L} (h : w1.ownsRow w.heap.size 9 1 v' (out.length + 1) (svs out ++ [.string ⟨x.toArray⟩])) : w1.ownsRow w.heap.size 9 1 v' (out ++ [x]).length (svs (out ++ [x])) := by
  rw [svs_snoc, List.length_append]; exact h
set_option maxHeartbeats 4000000 in
set_option maxRecDepth 100000 in
theorem rput_any {B : Nat} {v : Value} {ls : List L} (s : L) (w : World) (h : Strs B w v ls) (hBB : B ≤ w.heap.size) (hn : ls.length ≤ 1000000000000) :
    Calls Tryz.prog 68 #[v, .string ⟨s.toArray⟩] w (RetStrs (VM.put ls s) w) := by
  obtain ⟨i0, hi, hz0, hz1, hz2⟩ := info_parts info_string
  obtain ⟨A1, c1, rfl, ha1, ha2, ha3⟩ := h
  unfold maxLen at ha2
  have H0 := Lib.hid (show VM.put ls s = [] ++ (if decide (s = []) = true then ls.drop 0 else ins s (ls.drop 0)) by
    unfold VM.put; by_cases e : s = [] <;> simp [e])
  have q0 := beq_dec s ([] : L)
  obtain ⟨d0, hd0⟩ : ∃ d, d = decide (s = []) := ⟨_, rfl⟩
  rw [← hd0] at H0 q0
  clear hd0
  go_enter Tryz.func68, Tryz.ntmps68
  go_wp2
  go_loopw [5, 6, 7] (fun v d i wr => PtRel ls s w v d i wr) (fun _ _ i _ => ls.length - (intOf i).toNat)
  case atStart => exact ⟨0, [], d0, Nat.zero_le _, rfl, rfl, Nat.le_refl _, H0.out, World.ownsRow_nil _ _ _ _, Below.refl _ _⟩
  case round =>
    obtain ⟨k, out, dn, hk, rfl, rfl, ho, hsp, hown, hB⟩ := hrel
    clear q0
    by_cases hlt : k < ls.length
    · obtain ⟨b1, f1, rfl, hb1, hcl⟩ := ha3 (by omega)
      have e0 := hcl k hlt
      have hdr := List.drop_eq_getElem_cons hlt
      obtain ⟨x, hx⟩ : ∃ x, x = ls[k] := ⟨_, rfl⟩
      rw [← hx] at e0 hdr
      rw [hdr] at hsp
      have e1 : wr.cell? ⟨b1, f1 + k, none⟩ = some (.string ⟨x.toArray⟩) := ((hB.mono hBB).cell (p := ⟨b1, f1 + k, none⟩) hb1).trans e0
      have E0 := Lib.hid e0
      clear hx hcl ha3 e0 hdr
      cases dn
      · simp only [Bool.false_eq_true, if_false] at hsp
        rcases le_cases s x with ⟨q3, hle⟩ | ⟨q3, q4, hle⟩ | ⟨q3, q4, hle⟩
        · have hne : ¬ s = x := by intro e; subst e; rw [bytes_lt] at q3; exact List.lt_irrefl _ (of_decide_eq_true q3)
          have q4 : (s == x) = false := by rw [beq_dec]; exact decide_eq_false hne
          have q5 : (x == s) = false := by rw [beq_dec]; exact decide_eq_false (fun e => hne e.symm)
          have HS := Lib.hid (show VM.put ls s = ((out ++ [s]) ++ [x]) ++ (if true = true then ls.drop (k + 1) else ins s (ls.drop (k + 1))) by
            rw [hsp]; unfold ins; rw [if_pos hle, if_neg hne]; simp)
          clear hsp hle hne
          go_wp2_with (first | (at_builtin; refine wpList_append_own _ rfl _ _ 40 rfl w.heap.size 9 i0 (.string ⟨#[]⟩) 1 16 Tryz.underlying40 hi hz0 hz1 hz2 rfl (by decide) _ _ _ rfl (hown.alloc _) ⟨wr.heap.size, 0, none⟩ 1 1 [.string ⟨s.toArray⟩] rfl rfl (cell_one_new _ _ _) (by simp [Value.oneCell']) (by unfold maxLen; omega) (by omega) (by have := hB.size; simp; omega) ?_; intro v1 w1 hown1 hg1 _; have hB1 := below_append (hB.alloc hB.size (.cells #[.string ⟨s.toArray⟩] 9)) (hown.alloc _) (Nat.le_refl _) (by have := hB.size; simp; omega) hg1; have hown1' := pt_own (wr := wr) (v := .bool true) hown1; have e1' := (show w1.cell? ⟨b1, f1 + k, none⟩ = some (.string ⟨x.toArray⟩) from ((hB1.mono hBB).cell (p := ⟨b1, f1 + k, none⟩) hb1).trans E0.out)) | (at_builtin; refine wpList_append_own _ rfl _ _ 40 rfl w.heap.size 9 i0 (.string ⟨#[]⟩) 1 16 Tryz.underlying40 hi hz0 hz1 hz2 rfl (by decide) _ _ _ rfl (hown1'.alloc _) ⟨w1.heap.size, 0, none⟩ 1 1 [.string ⟨x.toArray⟩] rfl rfl (cell_one_new _ _ _) (by simp [Value.oneCell']) (by unfold maxLen; simp; omega) (by simp; omega) (by have := hB1.size; simp; omega) ?_; intro v2 w2 hown2 hg2 _))
          have hB2 := below_append (hB1.alloc hB1.size (.cells #[.string ⟨x.toArray⟩] 9)) (hown1'.alloc _) (Nat.le_refl _) (by have := hB1.size; simp; omega) hg2
          go_roundw
          case rel => exact ⟨k + 1, _, true, by omega, by go_num, rfl, by simp; omega, HS.out, pt_own (wr := wr) (v := .bool true) hown2, hB2⟩
          case measure => simp [intOf]; omega
        · have e := (show s = x from by rw [beq_dec] at q4; exact of_decide_eq_true q4)
          have q5 : (x == s) = true := by rw [e]; simp
          have HS := Lib.hid (show VM.put ls s = (out ++ [x]) ++ (if true = true then ls.drop (k + 1) else ins s (ls.drop (k + 1))) by
            rw [hsp]; unfold ins; rw [if_pos hle, if_pos e]; simp)
          clear hsp hle e
          go_wp2_with (at_builtin; refine wpList_append_own _ rfl _ _ 40 rfl w.heap.size 9 i0 (.string ⟨#[]⟩) 1 16 Tryz.underlying40 hi hz0 hz1 hz2 rfl (by decide) _ _ _ rfl (hown.alloc _) ⟨wr.heap.size, 0, none⟩ 1 1 [.string ⟨x.toArray⟩] rfl rfl (cell_one_new _ _ _) (by simp [Value.oneCell']) (by unfold maxLen; omega) (by omega) (by have := hB.size; simp; omega) ?_; intro v1 w1 hown1 hg1 _)
          have hB1 := below_append (hB.alloc hB.size (.cells #[.string ⟨x.toArray⟩] 9)) (hown.alloc _) (Nat.le_refl _) (by have := hB.size; simp; omega) hg1
          go_roundw
          case rel => exact ⟨k + 1, _, true, by omega, by go_num, rfl, by simp; omega, HS.out, pt_own (wr := wr) (v := .bool true) hown1, hB1⟩
          case measure => simp [intOf]; omega
        · have HS := Lib.hid (show VM.put ls s = (out ++ [x]) ++ (if false = true then ls.drop (k + 1) else ins s (ls.drop (k + 1))) by
            rw [hsp, show ins s (x :: ls.drop (k + 1)) = x :: ins s (ls.drop (k + 1)) from if_neg hle]; simp)
          clear hsp hle
          go_wp2_with (at_builtin; refine wpList_append_own _ rfl _ _ 40 rfl w.heap.size 9 i0 (.string ⟨#[]⟩) 1 16 Tryz.underlying40 hi hz0 hz1 hz2 rfl (by decide) _ _ _ rfl (hown.alloc _) ⟨wr.heap.size, 0, none⟩ 1 1 [.string ⟨x.toArray⟩] rfl rfl (cell_one_new _ _ _) (by simp [Value.oneCell']) (by unfold maxLen; omega) (by omega) (by have := hB.size; simp; omega) ?_; intro v1 w1 hown1 hg1 _)
          have hB1 := below_append (hB.alloc hB.size (.cells #[.string ⟨x.toArray⟩] 9)) (hown.alloc _) (Nat.le_refl _) (by have := hB.size; simp; omega) hg1
          go_roundw
          case rel => exact ⟨k + 1, _, false, by omega, by go_num, rfl, by simp; omega, HS.out, pt_own (wr := wr) (v := .bool true) hown1, hB1⟩
          case measure => simp [intOf]; omega
      · simp only [if_true] at hsp
        have HS := Lib.hid (show VM.put ls s = (out ++ [x]) ++ (if true = true then ls.drop (k + 1) else ins s (ls.drop (k + 1))) by
          rw [hsp]; simp)
        clear hsp
        go_wp2_with (at_builtin; refine wpList_append_own _ rfl _ _ 40 rfl w.heap.size 9 i0 (.string ⟨#[]⟩) 1 16 Tryz.underlying40 hi hz0 hz1 hz2 rfl (by decide) _ _ _ rfl (hown.alloc _) ⟨wr.heap.size, 0, none⟩ 1 1 [.string ⟨x.toArray⟩] rfl rfl (cell_one_new _ _ _) (by simp [Value.oneCell']) (by unfold maxLen; omega) (by omega) (by have := hB.size; simp; omega) ?_; intro v1 w1 hown1 hg1 _)
        have hB1 := below_append (hB.alloc hB.size (.cells #[.string ⟨x.toArray⟩] 9)) (hown.alloc _) (Nat.le_refl _) (by have := hB.size; simp; omega) hg1
        go_roundw
        case rel => exact ⟨k + 1, _, true, by omega, by go_num, rfl, by simp; omega, HS.out, pt_own (wr := wr) (v := .bool true) hown1, hB1⟩
        case measure => simp [intOf]; omega
    · obtain rfl : ls.length = k := by omega
      rw [List.drop_length] at hsp
      clear ha3
      cases dn
      · simp only [Bool.false_eq_true, if_false] at hsp
        have HS := Lib.hid (show VM.put ls s = out ++ [s] by rw [hsp]; rfl)
        clear hsp
        go_wp2_with (at_builtin; refine wpList_append_own _ rfl _ _ 40 rfl w.heap.size 9 i0 (.string ⟨#[]⟩) 1 16 Tryz.underlying40 hi hz0 hz1 hz2 rfl (by decide) _ _ _ rfl (hown.alloc _) ⟨wr.heap.size, 0, none⟩ 1 1 [.string ⟨s.toArray⟩] rfl rfl (cell_one_new _ _ _) (by simp [Value.oneCell']) (by unfold maxLen; omega) (by omega) (by have := hB.size; simp; omega) ?_; intro v1 w1 hown1 hg1 _)
        have hB1 := below_append (hB.alloc hB.size (.cells #[.string ⟨s.toArray⟩] 9)) (hown.alloc _) (Nat.le_refl _) (by have := hB.size; simp; omega) hg1
        go_ret
        unfold RetStrs
        rw [HS.out]
        exact ⟨v1, rfl, pt_own (wr := wr) (v := .bool true) hown1, hB1⟩
      · simp only [if_true, List.append_nil] at hsp
        have HS := Lib.hid hsp
        clear hsp
        go_wp2
        go_ret
        unfold RetStrs
        rw [HS.out]
        exact ⟨_, rfl, hown, hB⟩
end Go.Proofs.YtkkjodjachbifaaGreatDoor
