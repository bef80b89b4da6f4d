/-
  THE DOCUMENT's Get, of no words, and of many, over any world.
-/
import Derived.Test.YtlfngcekbffngaaDoorRefJ
import Derived.Test.YtlfngcekbffngaaDoorNumR
import Derived.Deep.RegionHeld3
namespace Go.Proofs.YtlfngcekbffngaaDoor
open Go.RowKit
set_option linter.unusedVariables false
set_option linter.unusedSimpArgs false
open WordM (L)

set_option maxHeartbeats 2000000 in
set_option maxRecDepth 100000 in
theorem rget3_0 (A : Option Addr) (c : Nat) (w : World) :
    Calls Tryd.prog 13 #[.slice A 0 c] w fun e w' => e = .returned (.tuple #[lnw OpsM.zero, .bool false]) ∧ Below w.heap.size w w' := by
  go_enter Tryd.func13, Tryd.ntmps13
  go_wp2
  go_loopw [9] (fun i wr => i = .int .i64 0 ∧ wr = w.alloc (.cells #[.int .i64 0, .string ⟨#[]⟩, .string ⟨#[]⟩, .string ⟨#[]⟩, .int .i64 0] 23)) (fun _ _ => 0)
  case atStart => exact ⟨rfl, rfl⟩
  case round =>
    obtain ⟨rfl, rfl⟩ := hrel
    go_wp2
    exact bodyPost_ret (v := .tuple #[lnw OpsM.zero, .bool false]) (by simp [results, Tryd.results13, go_sem, lnw, lnv, OpsM.zero]) rfl ⟨rfl, (Below.refl _ _).alloc (Nat.le_refl _) _⟩
set_option maxHeartbeats 2000000 in
set_option maxRecDepth 100000 in
theorem rget3_4 (A : Option Addr) (n c : Nat) (h4 : 4 ≤ n) (w : World) :
    Calls Tryd.prog 13 #[.slice A n c] w fun e w' => e = .returned (.tuple #[lnw OpsM.zero, .bool false]) ∧ Below w.heap.size w w' := by
  have q1 : ((n : Int) == 1) = false := beq_eq_false_iff_ne.2 (by omega)
  have q2 : ((n : Int) == 2) = false := beq_eq_false_iff_ne.2 (by omega)
  have q3 : ((n : Int) == 3) = false := beq_eq_false_iff_ne.2 (by omega)
  clear h4
  go_enter Tryd.func13, Tryd.ntmps13
  go_wp2
  go_loopw [9] (fun i wr => i = .int .i64 0 ∧ wr = w.alloc (.cells #[.int .i64 0, .string ⟨#[]⟩, .string ⟨#[]⟩, .string ⟨#[]⟩, .int .i64 0] 23)) (fun _ _ => 0)
  case atStart => exact ⟨rfl, rfl⟩
  case round =>
    obtain ⟨rfl, rfl⟩ := hrel
    go_wp2
    exact bodyPost_ret (v := .tuple #[lnw OpsM.zero, .bool false]) (by simp [results, Tryd.results13, go_sem, lnw, lnv, OpsM.zero]) rfl ⟨rfl, (Below.refl _ _).alloc (Nat.le_refl _) _⟩
end Go.Proofs.YtlfngcekbffngaaDoor
