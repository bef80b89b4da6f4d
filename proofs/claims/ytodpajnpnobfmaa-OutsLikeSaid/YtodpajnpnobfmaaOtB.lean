/-
  ENDS: order, Less, alike.
-/
import Derived.Test.YtodpajnpnobfmaaOtA
namespace Go.Proofs.Ytodpajnpnobfmaa
open Go.RowKit
set_option linter.unusedVariables false
set_option linter.unusedSimpArgs false
open OtM

theorem asend_any (a b : Value) (h1 : ∃ A n c, a = .slice A n c) (h2 : ∃ A n c, b = .slice A n c) (w : World) :
    Calls Try.prog 38 #[.agg #[a, b]] w fun e w' => e = .returned (.iface 58 (.agg #[a, b])) ∧ Bg w w' := by
  obtain ⟨A1, n1, c1, rfl⟩ := h1
  obtain ⟨A2, n2, c2, rfl⟩ := h2
  have hb := Lib.hid (Bg.al w (.cells #[.slice A1 n1 c1, .slice A2 n2 c2] 24))
  have hx := box2 (w := w) (.slice A1 n1 c1) (.slice A2 n2 c2) 24
  obtain ⟨x0, x1⟩ := hx
  go_enter Try.func38, Try.ntmps38
  go_wp2
  go_ret
  exact ⟨rfl, hb.out⟩
theorem keep4 {w W W' : World} {g k : Nat} {a b c d : Value} (h : W.cell? ⟨g, 0, none⟩ = some a ∧ W.cell? ⟨g, 1, none⟩ = some b ∧ W.cell? ⟨k, 0, none⟩ = some c ∧ W.cell? ⟨k, 1, none⟩ = some d ∧ Bg w W) (hb : Bg W W') :
    W'.cell? ⟨g, 0, none⟩ = some a ∧ W'.cell? ⟨g, 1, none⟩ = some b ∧ W'.cell? ⟨k, 0, none⟩ = some c ∧ W'.cell? ⟨k, 1, none⟩ = some d ∧ Bg w W' :=
  ⟨kc hb.1 h.1, kc hb.1 h.2.1, kc hb.1 h.2.2.1, kc hb.1 h.2.2.2.1, h.2.2.2.2.trans hb⟩
theorem bg4 {w W : World} {g k : Nat} {a b c d : Value} (h : W.cell? ⟨g, 0, none⟩ = some a ∧ W.cell? ⟨g, 1, none⟩ = some b ∧ W.cell? ⟨k, 0, none⟩ = some c ∧ W.cell? ⟨k, 1, none⟩ = some d ∧ Bg w W) : Bg w W := h.2.2.2.2
theorem IntR.sl {B : Nat} {w : World} {v : Value} {l : List Int} (h : IntR B w v l) : ∃ A n c, v = .slice A n c := by obtain ⟨A, c, rfl, _⟩ := h; exact ⟨_, _, _, rfl⟩
set_option maxHeartbeats 4000000 in
set_option maxRecDepth 100000 in
theorem order_any {B : Nat} {v u : Value} {a b : Ot} (w : World) (hv : OutR B w v a) (hu : OutR B w u b) (hBB : B ≤ w.heap.size) :
    Calls Try.prog 25 #[v, u] w fun e w' => e = .returned (.int .i64 (cmpO a b)) ∧ Bg w w' := by
  have HC := Lib.hid (fun W (hW : Bg w W) => against_any W (hv.below (hW.1.mono hBB)) (hu.below (hW.1.mono hBB)) (Nat.le_trans hBB hW.1.size))
  obtain ⟨vm, vr, rfl, h1, h2⟩ := hv
  obtain ⟨um, ur, rfl, g1, g2⟩ := hu
  have HA := Lib.hid (fun W => asend_any vm vr h1.sl h2.sl W)
  obtain ⟨A1, n1, c1, rfl⟩ := h1.sl
  obtain ⟨A2, n2, c2, rfl⟩ := h2.sl
  obtain ⟨D1, n3, e1, rfl⟩ := g1.sl
  obtain ⟨D2, n4, e2, rfl⟩ := g2.sl
  clear h1 h2 g1 g2
  obtain ⟨r, hr⟩ : ∃ r, r = cmpO a b := ⟨_, rfl⟩
  rw [← hr] at HC ⊢
  clear hr
  obtain ⟨W2, hW2⟩ : ∃ W, W = (w.alloc (.cells #[.slice A1 n1 c1, .slice A2 n2 c2] 24)).alloc (.cells #[.slice D1 n3 e1, .slice D2 n4 e2] 24) := ⟨_, rfl⟩
  obtain ⟨ga, hga⟩ : ∃ g, g = w.heap.size := ⟨_, rfl⟩
  obtain ⟨gb, hgb⟩ : ∃ g, g = w.heap.size + 1 := ⟨_, rfl⟩
  have HX := Lib.hid (show BoxC W2 ga 24 #[.slice A1 n1 c1, .slice A2 n2 c2] from by rw [hW2, hga]; exact (BoxC.new w _ _).alloc _)
  have HY := Lib.hid (show BoxC W2 gb 24 #[.slice D1 n3 e1, .slice D2 n4 e2] from by rw [hW2, hgb]; have := BoxC.new (w.alloc (.cells #[.slice A1 n1 c1, .slice A2 n2 c2] 24)) 24 #[.slice D1 n3 e1, .slice D2 n4 e2]; rw [World.size_alloc] at this; exact this)
  have HB2 := Lib.hid (show Bg w W2 from by rw [hW2]; exact (Bg.al _ _).trans (Bg.al _ _))
  have meth : ∀ W, (method 199 58 (.agg #[.slice A1 n1 c1, .slice A2 n2 c2]) "fencepost/outs.against").run Try.prog W = .ok (78, .agg #[.slice A1 n1 c1, .slice A2 n2 c2]) W := fun W => by kernel_rfl
  go_enter Try.func25, Try.ntmps25
  go_upto_region 1 with fail
  rw [← hW2]
  (try rw [← hgb])
  (try rw [← hga])
  clear hW2 hga hgb
  have x0 := HX.out.cell 0 (.slice A1 n1 c1) rfl
  have x1 := HX.out.cell 1 (.slice A2 n2 c2) rfl
  have y0 := HY.out.cell 0 (.slice D1 n3 e1) rfl
  have y1 := HY.out.cell 1 (.slice D2 n4 e2) rfl
  have hS : W2.cell? ⟨ga, 0, none⟩ = some (.slice A1 n1 c1) ∧ W2.cell? ⟨ga, 1, none⟩ = some (.slice A2 n2 c2) ∧ W2.cell? ⟨gb, 0, none⟩ = some (.slice D1 n3 e1) ∧ W2.cell? ⟨gb, 1, none⟩ = some (.slice D2 n4 e2) ∧ Bg w W2 := ⟨x0, x1, y0, y1, HB2.out⟩
  clear x0 x1 y0 y1
  go_region_held3 (fun w' => w'.cell? ⟨ga, 0, none⟩ = some (.slice A1 n1 c1) ∧ w'.cell? ⟨ga, 1, none⟩ = some (.slice A2 n2 c2) ∧ w'.cell? ⟨gb, 0, none⟩ = some (.slice D1 n3 e1) ∧ w'.cell? ⟨gb, 1, none⟩ = some (.slice D2 n4 e2) ∧ Bg w w') (first | (exact keep4 (by assumption) (by assumption)) | (exact keep4 (by assumption) (Bg.dn _ 1)))
    (first | (go_at_call 38; refine (HA.out _).mono ?_; rintro e w' ⟨rfl, hb2⟩) | (go_at_call 78; refine (HC.out _ (bg4 (by assumption))).mono ?_; rintro e w' ⟨rfl, hb2⟩))
  all_goals
    rename_i hHeld
    go_wp2
    go_ret
    exact ⟨rfl, bg4 hHeld⟩
set_option maxHeartbeats 4000000 in
set_option maxRecDepth 100000 in
/-- What a function of two ends says that asks order. -/
theorem oless_any {B : Nat} {v u : Value} {a b : Ot} (w : World) (hv : OutR B w v a) (hu : OutR B w u b) (hBB : B ≤ w.heap.size) :
    Calls Try.prog 11 #[v, u] w fun e w' => e = .returned (.bool (decide (Lt a b))) ∧ Bg w w' := by
  have HC := Lib.hid (fun W (hW : Bg w W) => order_any W (hv.below (hW.1.mono hBB)) (hu.below (hW.1.mono hBB)) (Nat.le_trans hBB hW.1.size))
  obtain ⟨vm, vr, rfl, h1, h2⟩ := hv
  obtain ⟨um, ur, rfl, g1, g2⟩ := hu
  obtain ⟨A1, n1, c1, rfl⟩ := h1.sl
  obtain ⟨A2, n2, c2, rfl⟩ := h2.sl
  obtain ⟨D1, n3, e1, rfl⟩ := g1.sl
  obtain ⟨D2, n4, e2, rfl⟩ := g2.sl
  clear h1 h2 g1 g2
  have HZ := Lib.hid (show decide (cmpO a b < 0) = decide (Lt a b) from by rw [decide_eq_decide]; exact Iff.rfl)
  obtain ⟨r, hr⟩ : ∃ r, r = cmpO a b := ⟨_, rfl⟩
  rw [← hr] at HC HZ
  clear hr
  obtain ⟨W2, hW2⟩ : ∃ W, W = (w.alloc (.cells #[.slice A1 n1 c1, .slice A2 n2 c2] 24)).alloc (.cells #[.slice D1 n3 e1, .slice D2 n4 e2] 24) := ⟨_, rfl⟩
  obtain ⟨ga, hga⟩ : ∃ g, g = w.heap.size := ⟨_, rfl⟩
  obtain ⟨gb, hgb⟩ : ∃ g, g = w.heap.size + 1 := ⟨_, rfl⟩
  have HX := Lib.hid (show BoxC W2 ga 24 #[.slice A1 n1 c1, .slice A2 n2 c2] from by rw [hW2, hga]; exact (BoxC.new w _ _).alloc _)
  have HY := Lib.hid (show BoxC W2 gb 24 #[.slice D1 n3 e1, .slice D2 n4 e2] from by rw [hW2, hgb]; have := BoxC.new (w.alloc (.cells #[.slice A1 n1 c1, .slice A2 n2 c2] 24)) 24 #[.slice D1 n3 e1, .slice D2 n4 e2]; rw [World.size_alloc] at this; exact this)
  have HB2 := Lib.hid (show Bg w W2 from by rw [hW2]; exact (Bg.al _ _).trans (Bg.al _ _))
  go_enter Try.func11, Try.ntmps11
  go_upto_region 1 with fail
  rw [← hW2]
  (try rw [← hgb])
  (try rw [← hga])
  clear hW2 hga hgb
  have x0 := HX.out.cell 0 (.slice A1 n1 c1) rfl
  have x1 := HX.out.cell 1 (.slice A2 n2 c2) rfl
  have y0 := HY.out.cell 0 (.slice D1 n3 e1) rfl
  have y1 := HY.out.cell 1 (.slice D2 n4 e2) rfl
  go_wp2_with fail
  refine (HC.out _ HB2.out).mono ?_
  rintro e w' ⟨rfl, hb⟩
  go_wp2
  go_ret
  exact ⟨by rw [← HZ.out]; rfl, HB2.out.trans hb⟩
set_option maxHeartbeats 4000000 in
set_option maxRecDepth 100000 in
/-- What a function of two ends says that asks order. -/
theorem alike_any {B : Nat} {v u : Value} {a b : Ot} (w : World) (hv : OutR B w v a) (hu : OutR B w u b) (hBB : B ≤ w.heap.size) :
    Calls Try.prog 32 #[v, u] w fun e w' => e = .returned (.bool (decide (a = b))) ∧ Bg w w' := by
  have HC := Lib.hid (fun W (hW : Bg w W) => order_any W (hv.below (hW.1.mono hBB)) (hu.below (hW.1.mono hBB)) (Nat.le_trans hBB hW.1.size))
  obtain ⟨vm, vr, rfl, h1, h2⟩ := hv
  obtain ⟨um, ur, rfl, g1, g2⟩ := hu
  obtain ⟨A1, n1, c1, rfl⟩ := h1.sl
  obtain ⟨A2, n2, c2, rfl⟩ := h2.sl
  obtain ⟨D1, n3, e1, rfl⟩ := g1.sl
  obtain ⟨D2, n4, e2, rfl⟩ := g2.sl
  clear h1 h2 g1 g2
  have HZ := Lib.hid (show decide (cmpO a b = 0) = decide (a = b) from by rw [decide_eq_decide]; exact cmpO_zero a b)
  obtain ⟨r, hr⟩ : ∃ r, r = cmpO a b := ⟨_, rfl⟩
  rw [← hr] at HC HZ
  clear hr
  obtain ⟨W2, hW2⟩ : ∃ W, W = (w.alloc (.cells #[.slice A1 n1 c1, .slice A2 n2 c2] 24)).alloc (.cells #[.slice D1 n3 e1, .slice D2 n4 e2] 24) := ⟨_, rfl⟩
  obtain ⟨ga, hga⟩ : ∃ g, g = w.heap.size := ⟨_, rfl⟩
  obtain ⟨gb, hgb⟩ : ∃ g, g = w.heap.size + 1 := ⟨_, rfl⟩
  have HX := Lib.hid (show BoxC W2 ga 24 #[.slice A1 n1 c1, .slice A2 n2 c2] from by rw [hW2, hga]; exact (BoxC.new w _ _).alloc _)
  have HY := Lib.hid (show BoxC W2 gb 24 #[.slice D1 n3 e1, .slice D2 n4 e2] from by rw [hW2, hgb]; have := BoxC.new (w.alloc (.cells #[.slice A1 n1 c1, .slice A2 n2 c2] 24)) 24 #[.slice D1 n3 e1, .slice D2 n4 e2]; rw [World.size_alloc] at this; exact this)
  have HB2 := Lib.hid (show Bg w W2 from by rw [hW2]; exact (Bg.al _ _).trans (Bg.al _ _))
  go_enter Try.func32, Try.ntmps32
  go_upto_region 1 with fail
  rw [← hW2]
  (try rw [← hgb])
  (try rw [← hga])
  clear hW2 hga hgb
  have x0 := HX.out.cell 0 (.slice A1 n1 c1) rfl
  have x1 := HX.out.cell 1 (.slice A2 n2 c2) rfl
  have y0 := HY.out.cell 0 (.slice D1 n3 e1) rfl
  have y1 := HY.out.cell 1 (.slice D2 n4 e2) rfl
  go_wp2_with fail
  refine (HC.out _ HB2.out).mono ?_
  rintro e w' ⟨rfl, hb⟩
  go_wp2
  go_ret
  exact ⟨by rw [← HZ.out]; exact congrArg (fun b => Ending.returned (.bool b)) (by by_cases h : r = 0 <;> simp [h]), HB2.out.trans hb⟩
end Go.Proofs.Ytodpajnpnobfmaa
