/-
  LAYER 10: the walk of ScReads.
-/
import Derived.Test.YtoeginglmgjojaaScT4A
import Derived.Test.YtoeginglmgjojaaScT4B
import Derived.Test.YtoeginglmgjojaaScT4C
import Derived.Test.YtoeginglmgjojaaScT4D
import Derived.Test.YtoeginglmgjojaaScT4E
import Derived.Test.YtoeginglmgjojaaScT4F
import Derived.Test.YtoeginglmgjojaaScT4G
import Derived.Test.YtoeginglmgjojaaScT4H
import Derived.Deep.RegionHeld3
import Derived.Deep.DeepCutAuto
namespace Go.Proofs.Ytoeginglmgjojaa
open Go.RowKit
set_option linter.unusedVariables false
set_option linter.unusedSimpArgs false
open CodM (St Pg rightP hReg hLoc)
open BfM (Wr plc)
open ScM

theorem screads_any {B : Nat} {v u : Value} {P : Pg} {s : Sta} (t : Int) (b : Nat) (hb256 : b < 256) (w : World) (hv : PgZ B w v P) (hu : StaV B w u s) (hBB : B ≤ w.heap.size) :
    Calls Try.prog 6 #[v, u, .int .i64 t, .int .u8 b] w fun e w' => e = .returned (.bool true) ∧ Below w.heap.size w w' := by
  cases h : atS P s t with
  | none => exact screads_t7 t b hb256 (fun x e => by rw [h] at e; cases e) w hv hu hBB
  | some y =>
    by_cases hj : ((b % 4 : Nat) : Int) = y.reg
    · by_cases h1 : y.op = 1
      · exact screads_t1 t b hb256 (fun x e => by rw [h] at e; injection e with e; rw [← e]; exact ⟨h1, hj⟩) w hv hu hBB
      by_cases h2 : y.op = 2
      · exact screads_t2 t b hb256 (fun x e => by rw [h] at e; injection e with e; rw [← e]; exact ⟨h2, hj⟩) w hv hu hBB
      by_cases h3 : y.op = 3
      · exact screads_t3 t b hb256 (fun x e => by rw [h] at e; injection e with e; rw [← e]; exact ⟨h3, hj⟩) w hv hu hBB
      by_cases h4 : y.op = 4
      · exact screads_t4 t b hb256 (fun x e => by rw [h] at e; injection e with e; rw [← e]; exact ⟨h4, hj⟩) w hv hu hBB
      by_cases h5 : y.op = 5
      · exact screads_t5 t b hb256 (fun x e => by rw [h] at e; injection e with e; rw [← e]; exact ⟨h5, hj⟩) w hv hu hBB
      by_cases h7 : y.op = 7
      · exact screads_t7 t b hb256 (fun x e => by rw [h] at e; injection e with e; rw [← e]; exact ⟨h7, hj⟩) w hv hu hBB
      exact screads_te t b hb256 (fun x e => by rw [h] at e; injection e with e; rw [← e]; exact ⟨⟨h1, h2, h3, h4, h5, h7⟩, hj⟩) w hv hu hBB
    · by_cases h1 : y.op = 1
      · exact screads_f1 t b hb256 (fun x e => by rw [h] at e; injection e with e; rw [← e]; exact ⟨h1, hj⟩) w hv hu hBB
      by_cases h2 : y.op = 2
      · exact screads_f2 t b hb256 (fun x e => by rw [h] at e; injection e with e; rw [← e]; exact ⟨h2, hj⟩) w hv hu hBB
      by_cases h3 : y.op = 3
      · exact screads_f3 t b hb256 (fun x e => by rw [h] at e; injection e with e; rw [← e]; exact ⟨h3, hj⟩) w hv hu hBB
      by_cases h4 : y.op = 4
      · exact screads_f4 t b hb256 (fun x e => by rw [h] at e; injection e with e; rw [← e]; exact ⟨h4, hj⟩) w hv hu hBB
      by_cases h5 : y.op = 5
      · exact screads_f5 t b hb256 (fun x e => by rw [h] at e; injection e with e; rw [← e]; exact ⟨h5, hj⟩) w hv hu hBB
      by_cases h7 : y.op = 7
      · exact screads_f7 t b hb256 (fun x e => by rw [h] at e; injection e with e; rw [← e]; exact ⟨h7, hj⟩) w hv hu hBB
      exact screads_fe t b hb256 (fun x e => by rw [h] at e; injection e with e; rw [← e]; exact ⟨⟨h1, h2, h3, h4, h5, h7⟩, hj⟩) w hv hu hBB
end Go.Proofs.Ytoeginglmgjojaa
