/-
  LAYER 13: ends and picks, alike.
-/
import Derived.Test.YtbffjhdocicfoaaK27
import Derived.Test.YtbffjhdocicfoaaK36
import Derived.Test.YtbffjhdocicfoaaScX
import Derived.Deep.RegionHeld3
import Derived.Deep.DeepCutAuto
namespace Go.Proofs.Ytbffjhdocicfoaa
open Go.RowKit
set_option linter.unusedVariables false
set_option linter.unusedSimpArgs false
open CodM (St Pg rightP)
open BfM (Wr plc)
open ScM

set_option maxHeartbeats 4000000 in
set_option maxRecDepth 100000 in
theorem osame_any {B : Nat} {v u : Value} {o : List Int × List Int} (w : World) (hv : OutR B w v o) (hu : OutR B w u o) (hBB : B ≤ w.heap.size) :
    Calls Try.prog 12 #[v, u] w fun e w' => e = .returned (.bool true) ∧ Below w.heap.size w w' := by
  obtain ⟨vm, vr, rfl, h1, h2⟩ := hv
  obtain ⟨um, ur, rfl, g1, g2⟩ := hu
  have HC1 := Lib.hid (fun W (hW : Below w.heap.size w W) => nsame_any W (h1.below (hW.mono hBB)) (g1.below (hW.mono hBB)) (Nat.le_trans hBB hW.size))
  have HC2 := Lib.hid (fun W (hW : Below w.heap.size w W) => nsame_any W (h2.below (hW.mono hBB)) (g2.below (hW.mono hBB)) (Nat.le_trans hBB hW.size))
  obtain ⟨A1, c1, rfl, -⟩ := h1
  obtain ⟨A2, c2, rfl, -⟩ := h2
  obtain ⟨D1, e1, rfl, -⟩ := g1
  obtain ⟨D2, e2, rfl, -⟩ := g2
  obtain ⟨l1, hl1⟩ : ∃ n, n = o.1.length := ⟨_, rfl⟩
  obtain ⟨l2, hl2⟩ : ∃ n, n = o.2.length := ⟨_, rfl⟩
  rw [← hl1] at HC1
  rw [← hl2] at HC2
  rw [← hl1, ← hl2]
  obtain ⟨W2, hW2⟩ : ∃ W, W = (w.alloc (.cells #[.slice A1 l1 c1, .slice A2 l2 c2] 33)).alloc (.cells #[.slice D1 l1 e1, .slice D2 l2 e2] 33) := ⟨_, rfl⟩
  obtain ⟨ga, hga⟩ : ∃ g, g = w.heap.size := ⟨_, rfl⟩
  obtain ⟨gb, hgb⟩ : ∃ g, g = w.heap.size + 1 := ⟨_, rfl⟩
  have HX := Lib.hid (show BoxC W2 ga 33 #[.slice A1 l1 c1, .slice A2 l2 c2] from by rw [hW2, hga]; exact (BoxC.new w _ _).alloc _)
  have HY := Lib.hid (show BoxC W2 gb 33 #[.slice D1 l1 e1, .slice D2 l2 e2] from by rw [hW2, hgb]; have := BoxC.new (w.alloc (.cells #[.slice A1 l1 c1, .slice A2 l2 c2] 33)) 33 #[.slice D1 l1 e1, .slice D2 l2 e2]; rw [World.size_alloc] at this; exact this)
  have HB2 := Lib.hid (show Below w.heap.size w W2 from by rw [hW2]; exact below_al (below_al (Below.refl _ _) _) _)
  clear hl1 hl2
  go_enter Try.func12, Try.ntmps12
  go_upto_region 1 with fail
  rw [← hW2]
  (try rw [← hgb])
  (try rw [← hga])
  clear hW2 hga hgb
  have x0 := HX.out.cell 0 _ rfl
  have y0 := HY.out.cell 0 _ rfl
  go_wp2_with fail
  refine (HC1.out _ HB2.out).mono ?_
  rintro e V1 ⟨rfl, hb⟩
  have HB3 := Lib.hid (chain HB2.out hb)
  have HX3 := Lib.hid (HX.out.below hb HX.out.lt)
  have HY3 := Lib.hid (HY.out.below hb HY.out.lt)
  clear hb x0 y0
  have x1 := HX3.out.cell 1 _ rfl
  have y1 := HY3.out.cell 1 _ rfl
  go_wp2_with fail
  refine (HC2.out _ HB3.out).mono ?_
  rintro e V2 ⟨rfl, hb⟩
  have HB4 := Lib.hid (chain HB3.out hb)
  clear hb x1 y1
  go_wp2
  go_ret
  exact ⟨rfl, HB4.out⟩
end Go.Proofs.Ytbffjhdocicfoaa
