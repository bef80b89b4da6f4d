/-
  slices.Sorted(maps.Keys(m)) of a map of the call's own: by the library's contracts.
-/
import Derived.Test.YtclhgmopphhalaaGreatDoorShelf
import Derived.Test.YtclhgmopphhalaaGreatDoorKit
namespace Go.Proofs.YtclhgmopphhalaaGreatDoor
open Go.RowKit Go.Maps Go.Sort Go.Shelf
set_option linter.unusedVariables false

theorem sort_in (m : Nat) : AnyZ.SortsIn Tryz.prog Tryz.shSorted_ren Fence.wide m :=
  ⟨fun b o c ss W h1 h2 h3 => callsIn_wide.2 (AnyM.slices_Sort_string Tryz.shSort b o c ss W h1 h2 h3), fun p c W => callsIn_wide.2 (AnyM.slices_Sort_string_none Tryz.shSort p c W)⟩
/-- maps.Keys: a function value over one new block that holds the map. -/
theorem keys_call (mb : Option Nat) (W : World) :
    Calls Tryz.prog 31 #[.map mb] W fun e w' => e = .returned (.func (.func 48) #[] #[.pointer (some ⟨W.heap.size, 0, none⟩)]) ∧ w' = W.alloc (.cells #[.map mb] 65) :=
  callsIn_wide.1 (AnyZ.keys_in Tryz.shKeys Fence.wide 5 trivial rfl mb W)
set_option maxHeartbeats 1000000 in
/-- slices.Sorted at what maps.Keys handed back: the keys, sorted, in new memory. -/
theorem sorted_call {H : Type} (b n : Nat) (D : DataW H) (R : Value → Option (DataW H × List MemPlace)) (w : World) (hown : w.ownsMap Tryz.prog 9 R b n D) (h1 : Maps.size D ≤ maxLen) (h2 : Maps.size D * 16 ≤ 140737488355328) :
    Calls Tryz.prog 30 #[.func (.func 48) #[] #[.pointer (some ⟨w.heap.size, 0, none⟩)]] (w.alloc (.cells #[.map (some b)] 65)) fun e w' =>
      ∃ (v : Value) (ss : List (List UInt8)), e = .returned v ∧ ss.Perm (strKeys D) ∧ w'.ownsRow (w.alloc (.cells #[.map (some b)] 65)).heap.size 9 1 v ss.length ((ss.mergeSort (fun x y => decide (x ≤ y))).map encStr) ∧
        (v = .slice none 0 0 ↔ ss = []) ∧ Below (w.alloc (.cells #[.map (some b)] 65)).heap.size (w.alloc (.cells #[.map (some b)] 65)) w' := by
  have hbl := hown.lt
  have hseq : SeqGives Fence.wide 2 Tryz.prog 48 #[.pointer (some ⟨w.heap.size, 0, none⟩)] encStr (fun ss => ss.Perm (strKeys D)) (Maps.size D) (w.alloc (.cells #[.map (some b)] 65)) := by
    refine AnyZ.keys_gives (R := R) (ρ := Tryz.shKeys_ren) { Tryz.shKeys with } Fence.wide _ trivial rfl (by omega) w.heap.size b n D _ (by simp) (by simp) ?_
    obtain ⟨es, clock, hb, Ft, hs, hD⟩ := hown
    exact ⟨es, clock, (Below.heap_alloc _ _ b hbl).trans hb, Ft, hs, hD⟩
  exact callsIn_wide.1 (AnyZ.sorted_in Tryz.shSorted Fence.wide 5 trivial trivial trivial trivial rfl (by omega) (sort_in _) (enters_of Tryz.func47 (by kernel_rfl) rfl) 48 _ trivial (enters_of Tryz.func48 (by kernel_rfl) rfl) _ _ h1 h2 _ hseq)
end Go.Proofs.YtclhgmopphhalaaGreatDoor
