/-
  THE DOCUMENT's small tests of layer 4: whether a line is an instruction, a jump; how often a label stands in some lines.
-/
import Derived.Test.YtmpiapmfdmllkaaGreatDoorLms
namespace Go.Proofs.YtmpiapmfdmllkaaGreatDoor
open Go.RowKit
set_option linter.unusedVariables false
set_option linter.unusedSimpArgs false
open WordM (L)

set_option maxHeartbeats 1000000 in
theorem rinstr_any (op n : Int) (r o b : ByteArray) (w : World) :
    Calls Tryz.prog 77 #[lnv op r o b n] w fun e w' => e = .returned (.bool (!(op == 6) && !(op == 11))) ∧ Below w.heap.size w w' := by
  unfold lnv
  by_cases h6 : op = 6
  · have E := Lib.hid (show (!(op == 6) && !(op == 11)) = false by rw [h6]; rfl)
    go_enter Tryz.func77, Tryz.ntmps77
    go_wp2
    go_ret
    exact ⟨ret_bool (by rw [E.out]), (Below.refl _ _).alloc (Nat.le_refl _) _⟩
  · by_cases h11 : op = 11
    · have E := Lib.hid (show (!(op == 6) && !(op == 11)) = false by rw [h11]; rfl)
      go_enter Tryz.func77, Tryz.ntmps77
      go_wp2
      go_ret
      exact ⟨ret_bool (by rw [E.out]), (Below.refl _ _).alloc (Nat.le_refl _) _⟩
    · have E := Lib.hid (show (!(op == 6) && !(op == 11)) = true by simp [h6, h11])
      go_enter Tryz.func77, Tryz.ntmps77
      go_wp2
      go_ret
      exact ⟨by rw [show Ending.returned (Value.bool (!(op == 6) && !(op == 11))) = Ending.returned (.bool true) by rw [E.out]]; simp [h6, h11], (Below.refl _ _).alloc (Nat.le_refl _) _⟩
set_option maxHeartbeats 1000000 in
theorem rjump_any (op n : Int) (r o b : ByteArray) (w : World) :
    Calls Tryz.prog 24 #[lnv op r o b n] w fun e w' => e = .returned (.bool (decide (8 ≤ op) && decide (op ≤ 10))) ∧ Below w.heap.size w w' := by
  unfold lnv
  by_cases h8 : 8 ≤ op
  · by_cases h10 : op ≤ 10
    · have E := Lib.hid (show (decide (8 ≤ op) && decide (op ≤ 10)) = true by simp [h8, h10])
      go_enter Tryz.func24, Tryz.ntmps24
      go_wp2
      go_ret
      exact ⟨ret_bool (by rw [E.out]), (Below.refl _ _).alloc (Nat.le_refl _) _⟩
    · have E := Lib.hid (show (decide (8 ≤ op) && decide (op ≤ 10)) = false by simp [h10])
      go_enter Tryz.func24, Tryz.ntmps24
      go_wp2
      go_ret
      exact ⟨ret_bool (by simp [h10]), (Below.refl _ _).alloc (Nat.le_refl _) _⟩
  · have E := Lib.hid (show (decide (8 ≤ op) && decide (op ≤ 10)) = false by simp [h8])
    go_enter Tryz.func24, Tryz.ntmps24
    go_wp2
    go_ret
    exact ⟨ret_bool (by rw [E.out]), (Below.refl _ _).alloc (Nat.le_refl _) _⟩

def RlRel (ls : List OpsM.Ln) (s : L) (c i : Value) : Prop :=
  ∃ k : Nat, k ≤ ls.length ∧ i = .int .i64 k ∧ c = .int .i64 (lcnt (ls.take k) s : Nat)
set_option maxHeartbeats 2000000 in
set_option maxRecDepth 100000 in
theorem rlabels_same {B : Nat} {v : Value} {ls : List OpsM.Ln} (s : ByteArray) (w : World) (h : Lns B w v ls) :
    Calls Tryz.prog 76 #[v, .string s] w fun e w' => e = .returned (.int .i64 (lcnt ls s.data.toList : Nat)) ∧ w = w' := by
  obtain ⟨A1, c1, rfl, ha1, ha2, ha3⟩ := h
  unfold maxLen at ha2
  go_enter Tryz.func76, Tryz.ntmps76
  go_wp2
  go_loop [5, 6] (fun c i => RlRel ls s.data.toList c i) (fun _ i => ls.length - (intOf i).toNat)
  case atStart => exact ⟨0, Nat.zero_le _, rfl, rfl⟩
  case round =>
    obtain ⟨k, hk, rfl, rfl⟩ := hrel
    by_cases hlt : k < ls.length
    · obtain ⟨b1, f1, rfl, hb1, hcl⟩ := ha3 (by omega)
      obtain ⟨d0, d1, d2, d3, d4⟩ := hcl k hlt
      have HT := Lib.hid (lcnt_take ls k hlt s.data.toList)
      have hcl1 := lcnt_le (ls.take k) s.data.toList
      have hkl : (ls.take k).length ≤ k := List.length_take_le _ _
      obtain ⟨x, hx⟩ : ∃ x, x = ls[k] := ⟨_, rfl⟩
      rw [← hx] at d0 d1 d2 d3 d4
      have HX := Lib.hid hx
      generalize hcn : lcnt (ls.take k) s.data.toList = cn at *
      have HN := Lib.hid hcn
      have hw : wrap64 ((cn : Int) + 1) = (cn : Int) + 1 := NumM.wrap64_inR _ (by unfold NumM.inR; omega)
      clear hx hcl ha3 hcn
      go_wp2
      · rename_i q1 q2
        have e2 : x.label = s.data.toList := by rw [← Lib.toList_data]; simpa using q2
        refine ⟨⟨k + 1, by omega, by go_num, ?_⟩, by simp [intOf]; omega⟩
        rw [HT.out, ← HX.out, if_pos ⟨q1, e2⟩]; rfl
      · rename_i q1 q2
        have e2 : ¬ x.label = s.data.toList := by rw [← Lib.toList_data]; simpa using q2
        refine ⟨⟨k + 1, by omega, by go_num, ?_⟩, by simp [intOf]; omega⟩
        rw [HT.out, ← HX.out, if_neg (fun h => e2 h.2)]; rfl
      · rename_i q1
        refine ⟨⟨k + 1, by omega, by go_num, ?_⟩, by simp [intOf]; omega⟩
        rw [HT.out, ← HX.out, if_neg (fun h => q1 h.1)]; rfl
    · obtain rfl : ls.length = k := by omega
      rw [List.take_length]
      go_wp2
      go_ret
      exact ⟨rfl, rfl⟩
end Go.Proofs.YtmpiapmfdmllkaaGreatDoor
