/-
  THE DOCUMENT's Same of layer 10, of alike states; of alike threads, rows of writes and of numbers.
-/
import Derived.Test.YtlpjgaeelnlipaaGreatK03
import Derived.Test.YtlpjgaeelnlipaaGreatCdC
import Derived.Deep.RegionHeld3
import Derived.Deep.DeepCutAuto
namespace Go.Proofs.YtlpjgaeelnlipaaGreat
open Go.RowKit
set_option linter.unusedVariables false
set_option linter.unusedSimpArgs false
open BfM (Wr plc)
open ScM

set_option maxHeartbeats 4000000 in
set_option maxRecDepth 100000 in
theorem nsame_any {B : Nat} {v u : Value} {ns : List Int} (w : World) (hv : IntR B w v ns) (hu : IntR B w u ns) (hBB : B ≤ w.heap.size) :
    Calls Tryz.prog 14 #[v, u] w fun e w' => e = .returned (.bool true) ∧ Below w.heap.size w w' := by
  obtain ⟨A1, c1, rfl, ha1, ha2, -, ha3⟩ := hv
  obtain ⟨A2, c2, rfl, hb1, hb2, -, hb3⟩ := hu
  unfold maxLen at ha2 hb2
  have ha3 := nu_at (c := c1) ha3
  have hb3 := nu_at (c := c2) hb3
  go_enter Tryz.func14, Tryz.ntmps14
  go_wp2
  go_loopw [5] (fun i wr => ∃ k : Nat, k ≤ ns.length ∧ i = .int .i64 k ∧ Below w.heap.size w wr) (fun i _ => ns.length - (intOf i).toNat)
  case atStart => exact ⟨0, Nat.zero_le _, rfl, Below.refl _ _⟩
  case round =>
    obtain ⟨k, hk, rfl, hB⟩ := hrel
    by_cases hlt : k < ns.length
    · obtain ⟨b1, f1, rfl, hl1, hc1⟩ := ha3 (by omega)
      obtain ⟨b2, f2, rfl, hl2, hc2⟩ := hb3 (by omega)
      have d1 := ((hB.mono hBB).cell (p := ⟨b1, f1 + k, none⟩) hl1).trans (hc1 k hlt)
      have d2 := ((hB.mono hBB).cell (p := ⟨b2, f2 + k, none⟩) hl2).trans (hc2 k hlt)
      obtain ⟨x, hx⟩ : ∃ x, x = ns[k] := ⟨_, rfl⟩
      rw [← hx] at d1 d2
      clear hx hc1 hc2 ha3 hb3
      go_wp2
      go_quiet (fail)
      go_wp2
      go_roundw
      case rel => exact ⟨k + 1, by omega, by go_num, below_drewN hB _⟩
      case measure => simp [intOf]; omega
    · obtain rfl : ns.length = k := by omega
      clear ha3 hb3
      go_wp2
      go_ret
      exact ⟨rfl, hB⟩
set_option maxHeartbeats 4000000 in
set_option maxRecDepth 100000 in
theorem wsame_any {B : Nat} {v u : Value} {ns : List Wr} (w : World) (hv : WrR B w v ns) (hu : WrR B w u ns) (hBB : B ≤ w.heap.size) :
    Calls Tryz.prog 42 #[v, u] w fun e w' => e = .returned (.bool true) ∧ Below w.heap.size w w' := by
  obtain ⟨A1, c1, rfl, ha1, ha2, -, ha3⟩ := hv
  obtain ⟨A2, c2, rfl, hb1, hb2, -, hb3⟩ := hu
  unfold maxLen at ha2 hb2
  have ha3 := wr_at (c := c1) ha3
  have hb3 := wr_at (c := c2) hb3
  go_enter Tryz.func42, Tryz.ntmps42
  go_wp2
  go_loopw [5] (fun i wr => ∃ k : Nat, k ≤ ns.length ∧ i = .int .i64 k ∧ Below w.heap.size w wr) (fun i _ => ns.length - (intOf i).toNat)
  case atStart => exact ⟨0, Nat.zero_le _, rfl, Below.refl _ _⟩
  case round =>
    obtain ⟨k, hk, rfl, hB⟩ := hrel
    by_cases hlt : k < ns.length
    · obtain ⟨b1, f1, rfl, hl1, hc1⟩ := ha3 (by omega)
      obtain ⟨b2, f2, rfl, hl2, hc2⟩ := hb3 (by omega)
      obtain ⟨p0, p1⟩ := hc1 k hlt
      obtain ⟨q0, q1⟩ := hc2 k hlt
      have d1 := ((hB.mono hBB).cell (p := ⟨b1, f1 + k * 2, none⟩) hl1).trans p0
      have d2 := ((hB.mono hBB).cell (p := ⟨b1, f1 + k * 2 + 1, none⟩) hl1).trans p1
      have d3 := ((hB.mono hBB).cell (p := ⟨b2, f2 + k * 2, none⟩) hl2).trans q0
      have d4 := ((hB.mono hBB).cell (p := ⟨b2, f2 + k * 2 + 1, none⟩) hl2).trans q1
      obtain ⟨x, hx⟩ : ∃ x, x = ns[k] := ⟨_, rfl⟩
      rw [← hx] at d1 d2 d3 d4
      clear hx hc1 hc2 ha3 hb3 p0 p1 q0 q1
      go_wp2
      go_quiet (fail)
      go_wp2
      go_roundw
      case rel => exact ⟨k + 1, by omega, by go_num, below_drewN hB _⟩
      case measure => simp [intOf]; omega
    · obtain rfl : ns.length = k := by omega
      clear ha3 hb3
      go_wp2
      go_ret
      exact ⟨rfl, hB⟩
/-- A thread as a value. -/
def ThV (B : Nat) (w : World) (v : Value) (t : Th) : Prop := ∃ vr vb, v = .agg #[.int .i64 t.at', vr, .bool t.eq, vb] ∧ IntR B w vr t.regs ∧ WrR B w vb t.buf
theorem box4 {w : World} (a b c d : Value) (T : TypeId) : (w.alloc (.cells #[a, b, c, d] T)).cell? ⟨w.heap.size, 0, none⟩ = some a ∧ (w.alloc (.cells #[a, b, c, d] T)).cell? ⟨w.heap.size, 1, none⟩ = some b ∧ (w.alloc (.cells #[a, b, c, d] T)).cell? ⟨w.heap.size, 2, none⟩ = some c ∧ (w.alloc (.cells #[a, b, c, d] T)).cell? ⟨w.heap.size, 3, none⟩ = some d := by
  refine ⟨?_, ?_, ?_, ?_⟩ <;> (rw [World.cell?_alloc_at _ _ _ _ rfl]; rfl)
theorem kc4 {W w' : World} {g : Nat} {a b c d : Value} (hB : Below W.heap.size W w') (h : W.cell? ⟨g, 0, none⟩ = some a ∧ W.cell? ⟨g, 1, none⟩ = some b ∧ W.cell? ⟨g, 2, none⟩ = some c ∧ W.cell? ⟨g, 3, none⟩ = some d) :
    w'.cell? ⟨g, 0, none⟩ = some a ∧ w'.cell? ⟨g, 1, none⟩ = some b ∧ w'.cell? ⟨g, 2, none⟩ = some c ∧ w'.cell? ⟨g, 3, none⟩ = some d := ⟨kc hB h.1, kc hB h.2.1, kc hB h.2.2.1, kc hB h.2.2.2⟩
set_option maxHeartbeats 4000000 in
set_option maxRecDepth 100000 in
theorem sameth_any {B : Nat} {v u : Value} {t : Th} (w : World) (hv : ThV B w v t) (hu : ThV B w u t) (hBB : B ≤ w.heap.size) :
    Calls Tryz.prog 19 #[v, u] w fun e w' => e = .returned (.bool true) ∧ Below w.heap.size w w' := by
  obtain ⟨vr, vb, rfl, hr, hb⟩ := hv
  obtain ⟨ur, ub, rfl, ir, ib⟩ := hu
  obtain ⟨a, rs, q, bs⟩ := t
  have HNI := Lib.hid (fun W (hW : Below w.heap.size w W) => nsame_any W ((hr.below (hW.mono hBB)).more (Nat.le_trans hBB hW.size)) ((ir.below (hW.mono hBB)).more (Nat.le_trans hBB hW.size)) (Nat.le_refl _))
  have HWI := Lib.hid (fun W (hW : Below w.heap.size w W) => wsame_any W ((hb.below (hW.mono hBB)).more (Nat.le_trans hBB hW.size)) ((ib.below (hW.mono hBB)).more (Nat.le_trans hBB hW.size)) (Nat.le_refl _))
  obtain ⟨A1, c1, rfl, -⟩ := hr
  obtain ⟨A2, c2, rfl, -⟩ := hb
  obtain ⟨A3, c3, rfl, -⟩ := ir
  obtain ⟨A4, c4, rfl, -⟩ := ib
  have hB1 := below_al (Below.refl w.heap.size w) (.cells #[.int .i64 a, .slice A1 rs.length c1, .bool q, .slice A2 bs.length c2] 44)
  have hB2 := below_al hB1 (.cells #[.int .i64 a, .slice A3 rs.length c3, .bool q, .slice A4 bs.length c4] 44)
  have HX := Lib.hid (kc4 (below_al (Below.refl _ _) (.cells #[.int .i64 a, .slice A3 rs.length c3, .bool q, .slice A4 bs.length c4] 44)) (box4 (w := w) (.int .i64 a) (.slice A1 rs.length c1) (.bool q) (.slice A2 bs.length c2) 44))
  have HY := Lib.hid (box4 (w := w.alloc (.cells #[.int .i64 a, .slice A1 rs.length c1, .bool q, .slice A2 bs.length c2] 44)) (.int .i64 a) (.slice A3 rs.length c3) (.bool q) (.slice A4 bs.length c4) 44)
  rw [show (w.alloc (.cells #[.int .i64 a, .slice A1 rs.length c1, .bool q, .slice A2 bs.length c2] 44)).heap.size = w.heap.size + 1 from by simp] at HY
  obtain ⟨x0, x1, x2, x3⟩ := HX.out
  obtain ⟨y0, y1, y2, y3⟩ := HY.out
  clear hB1
  go_enter Tryz.func19, Tryz.ntmps19
  go_wp2_with fail
  refine (HNI.out _ hB2).mono ?_
  rintro e w1 ⟨rfl, hbb⟩
  replace HX := Lib.hid (kc4 hbb HX.out)
  replace HY := Lib.hid (kc4 hbb HY.out)
  have hB3 := chain hB2 hbb
  clear x0 x1 x2 x3 y0 y1 y2 y3 hbb hB2 HNI
  obtain ⟨x0, x1, x2, x3⟩ := HX.out
  obtain ⟨y0, y1, y2, y3⟩ := HY.out
  go_wp2_with fail
  refine (HWI.out _ hB3).mono ?_
  rintro e w2 ⟨rfl, hbb⟩
  have hB4 := chain hB3 hbb
  clear x0 x1 x2 x3 y0 y1 y2 y3 hbb hB3 HWI HX HY
  go_wp2
  go_ret
  exact ⟨rfl, hB4⟩
end Go.Proofs.YtlpjgaeelnlipaaGreat
