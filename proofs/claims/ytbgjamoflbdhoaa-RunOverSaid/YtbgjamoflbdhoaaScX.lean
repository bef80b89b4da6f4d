/-
  THE DOCUMENT's Same of layer 10, of alike states; of alike threads, rows of writes and of numbers.
-/
import Derived.Test.YtbgjamoflbdhoaaK02
import Derived.Test.YtbgjamoflbdhoaaCdC
import Derived.Deep.RegionHeld3
import Derived.Deep.DeepCutAuto
namespace Go.Proofs.Ytbgjamoflbdhoaa
open Go.RowKit
set_option linter.unusedVariables false
set_option linter.unusedSimpArgs false
open BfM (Wr plc)
open ScM

set_option maxHeartbeats 4000000 in
set_option maxRecDepth 100000 in
theorem nsame_any {B : Nat} {v u : Value} {ns : List Int} (w : World) (hv : IntR B w v ns) (hu : IntR B w u ns) (hBB : B ≤ w.heap.size) :
    Calls Try.prog 27 #[v, u] w fun e w' => e = .returned (.bool true) ∧ Below w.heap.size w w' := by
  obtain ⟨A1, c1, rfl, ha1, ha2, -, ha3⟩ := hv
  obtain ⟨A2, c2, rfl, hb1, hb2, -, hb3⟩ := hu
  unfold maxLen at ha2 hb2
  have ha3 := nu_at (c := c1) ha3
  have hb3 := nu_at (c := c2) hb3
  go_enter Try.func27, Try.ntmps27
  go_wp2
  go_loopw [5] (fun i wr => ∃ k : Nat, k ≤ ns.length ∧ i = .int .i64 k ∧ Below w.heap.size w wr) (fun i _ => ns.length - (intOf i).toNat)
  case atStart => exact ⟨0, Nat.zero_le _, rfl, Below.refl _ _⟩
  case round =>
    obtain ⟨k, hk, rfl, hB⟩ := hrel
    by_cases hlt : k < ns.length
    · obtain ⟨b1, f1, rfl, hl1, hc1⟩ := ha3 (by omega)
      obtain ⟨b2, f2, rfl, hl2, hc2⟩ := hb3 (by omega)
      have d1 := ((hB.mono hBB).cell (p := ⟨b1, f1 + k, none⟩) hl1).trans (hc1 k hlt)
      have d2 := ((hB.mono hBB).cell (p := ⟨b2, f2 + k, none⟩) hl2).trans (hc2 k hlt)
      obtain ⟨x, hx⟩ : ∃ x, x = ns[k] := ⟨_, rfl⟩
      rw [← hx] at d1 d2
      clear hx hc1 hc2 ha3 hb3
      go_wp2
      go_quiet (fail)
      go_wp2
      go_roundw
      case rel => exact ⟨k + 1, by omega, by go_num, below_drewN hB _⟩
      case measure => simp [intOf]; omega
    · obtain rfl : ns.length = k := by omega
      clear ha3 hb3
      go_wp2
      go_ret
      exact ⟨rfl, hB⟩
set_option maxHeartbeats 4000000 in
set_option maxRecDepth 100000 in
theorem wsame_any {B : Nat} {v u : Value} {ns : List Wr} (w : World) (hv : WrR B w v ns) (hu : WrR B w u ns) (hBB : B ≤ w.heap.size) :
    Calls Try.prog 49 #[v, u] w fun e w' => e = .returned (.bool true) ∧ Below w.heap.size w w' := by
  obtain ⟨A1, c1, rfl, ha1, ha2, -, ha3⟩ := hv
  obtain ⟨A2, c2, rfl, hb1, hb2, -, hb3⟩ := hu
  unfold maxLen at ha2 hb2
  have ha3 := wr_at (c := c1) ha3
  have hb3 := wr_at (c := c2) hb3
  go_enter Try.func49, Try.ntmps49
  go_wp2
  go_loopw [5] (fun i wr => ∃ k : Nat, k ≤ ns.length ∧ i = .int .i64 k ∧ Below w.heap.size w wr) (fun i _ => ns.length - (intOf i).toNat)
  case atStart => exact ⟨0, Nat.zero_le _, rfl, Below.refl _ _⟩
  case round =>
    obtain ⟨k, hk, rfl, hB⟩ := hrel
    by_cases hlt : k < ns.length
    · obtain ⟨b1, f1, rfl, hl1, hc1⟩ := ha3 (by omega)
      obtain ⟨b2, f2, rfl, hl2, hc2⟩ := hb3 (by omega)
      obtain ⟨p0, p1⟩ := hc1 k hlt
      obtain ⟨q0, q1⟩ := hc2 k hlt
      have d1 := ((hB.mono hBB).cell (p := ⟨b1, f1 + k * 2, none⟩) hl1).trans p0
      have d2 := ((hB.mono hBB).cell (p := ⟨b1, f1 + k * 2 + 1, none⟩) hl1).trans p1
      have d3 := ((hB.mono hBB).cell (p := ⟨b2, f2 + k * 2, none⟩) hl2).trans q0
      have d4 := ((hB.mono hBB).cell (p := ⟨b2, f2 + k * 2 + 1, none⟩) hl2).trans q1
      obtain ⟨x, hx⟩ : ∃ x, x = ns[k] := ⟨_, rfl⟩
      rw [← hx] at d1 d2 d3 d4
      clear hx hc1 hc2 ha3 hb3 p0 p1 q0 q1
      go_wp2
      go_quiet (fail)
      go_wp2
      go_roundw
      case rel => exact ⟨k + 1, by omega, by go_num, below_drewN hB _⟩
      case measure => simp [intOf]; omega
    · obtain rfl : ns.length = k := by omega
      clear ha3 hb3
      go_wp2
      go_ret
      exact ⟨rfl, hB⟩
/-- A thread as a value. -/
def ThV (B : Nat) (w : World) (v : Value) (t : Th) : Prop := ∃ vr vb, v = .agg #[.int .i64 t.at', vr, .bool t.eq, vb] ∧ IntR B w vr t.regs ∧ WrR B w vb t.buf
theorem ThV.below {B : Nat} {w w' : World} {v : Value} {t : Th} (h : ThV B w v t) (hb : Below B w w') : ThV B w' v t := by
  obtain ⟨a, b, e, h1, h2⟩ := h; exact ⟨a, b, e, h1.below hb, h2.below hb⟩
theorem ThV.more {B B' : Nat} {w : World} {v : Value} {t : Th} (h : ThV B w v t) (hb : B ≤ B') : ThV B' w v t := by
  obtain ⟨a, b, e, h1, h2⟩ := h; exact ⟨a, b, e, h1.more hb, h2.more hb⟩
theorem box4 {w : World} (a b c d : Value) (T : TypeId) : (w.alloc (.cells #[a, b, c, d] T)).cell? ⟨w.heap.size, 0, none⟩ = some a ∧ (w.alloc (.cells #[a, b, c, d] T)).cell? ⟨w.heap.size, 1, none⟩ = some b ∧ (w.alloc (.cells #[a, b, c, d] T)).cell? ⟨w.heap.size, 2, none⟩ = some c ∧ (w.alloc (.cells #[a, b, c, d] T)).cell? ⟨w.heap.size, 3, none⟩ = some d := by
  refine ⟨?_, ?_, ?_, ?_⟩ <;> (rw [World.cell?_alloc_at _ _ _ _ rfl]; rfl)
theorem kc4 {W w' : World} {g : Nat} {a b c d : Value} (hB : Below W.heap.size W w') (h : W.cell? ⟨g, 0, none⟩ = some a ∧ W.cell? ⟨g, 1, none⟩ = some b ∧ W.cell? ⟨g, 2, none⟩ = some c ∧ W.cell? ⟨g, 3, none⟩ = some d) :
    w'.cell? ⟨g, 0, none⟩ = some a ∧ w'.cell? ⟨g, 1, none⟩ = some b ∧ w'.cell? ⟨g, 2, none⟩ = some c ∧ w'.cell? ⟨g, 3, none⟩ = some d := ⟨kc hB h.1, kc hB h.2.1, kc hB h.2.2.1, kc hB h.2.2.2⟩
set_option maxHeartbeats 4000000 in
set_option maxRecDepth 100000 in
theorem sameth_any {B : Nat} {v u : Value} {t : Th} (w : World) (hv : ThV B w v t) (hu : ThV B w u t) (hBB : B ≤ w.heap.size) :
    Calls Try.prog 37 #[v, u] w fun e w' => e = .returned (.bool true) ∧ Below w.heap.size w w' := by
  obtain ⟨vr, vb, rfl, hr, hb⟩ := hv
  obtain ⟨ur, ub, rfl, ir, ib⟩ := hu
  obtain ⟨a, rs, q, bs⟩ := t
  have HNI := Lib.hid (fun W (hW : Below w.heap.size w W) => nsame_any W ((hr.below (hW.mono hBB)).more (Nat.le_trans hBB hW.size)) ((ir.below (hW.mono hBB)).more (Nat.le_trans hBB hW.size)) (Nat.le_refl _))
  have HWI := Lib.hid (fun W (hW : Below w.heap.size w W) => wsame_any W ((hb.below (hW.mono hBB)).more (Nat.le_trans hBB hW.size)) ((ib.below (hW.mono hBB)).more (Nat.le_trans hBB hW.size)) (Nat.le_refl _))
  obtain ⟨A1, c1, rfl, -⟩ := hr
  obtain ⟨A2, c2, rfl, -⟩ := hb
  obtain ⟨A3, c3, rfl, -⟩ := ir
  obtain ⟨A4, c4, rfl, -⟩ := ib
  have hB1 := below_al (Below.refl w.heap.size w) (.cells #[.int .i64 a, .slice A1 rs.length c1, .bool q, .slice A2 bs.length c2] 55)
  have hB2 := below_al hB1 (.cells #[.int .i64 a, .slice A3 rs.length c3, .bool q, .slice A4 bs.length c4] 55)
  have HX := Lib.hid (kc4 (below_al (Below.refl _ _) (.cells #[.int .i64 a, .slice A3 rs.length c3, .bool q, .slice A4 bs.length c4] 55)) (box4 (w := w) (.int .i64 a) (.slice A1 rs.length c1) (.bool q) (.slice A2 bs.length c2) 55))
  have HY := Lib.hid (box4 (w := w.alloc (.cells #[.int .i64 a, .slice A1 rs.length c1, .bool q, .slice A2 bs.length c2] 55)) (.int .i64 a) (.slice A3 rs.length c3) (.bool q) (.slice A4 bs.length c4) 55)
  rw [show (w.alloc (.cells #[.int .i64 a, .slice A1 rs.length c1, .bool q, .slice A2 bs.length c2] 55)).heap.size = w.heap.size + 1 from by simp] at HY
  obtain ⟨x0, x1, x2, x3⟩ := HX.out
  obtain ⟨y0, y1, y2, y3⟩ := HY.out
  clear hB1
  go_enter Try.func37, Try.ntmps37
  go_wp2_with fail
  refine (HNI.out _ hB2).mono ?_
  rintro e w1 ⟨rfl, hbb⟩
  replace HX := Lib.hid (kc4 hbb HX.out)
  replace HY := Lib.hid (kc4 hbb HY.out)
  have hB3 := chain hB2 hbb
  clear x0 x1 x2 x3 y0 y1 y2 y3 hbb hB2 HNI
  obtain ⟨x0, x1, x2, x3⟩ := HX.out
  obtain ⟨y0, y1, y2, y3⟩ := HY.out
  go_wp2_with fail
  refine (HWI.out _ hB3).mono ?_
  rintro e w2 ⟨rfl, hbb⟩
  have hB4 := chain hB3 hbb
  clear x0 x1 x2 x3 y0 y1 y2 y3 hbb hB3 HWI HX HY
  go_wp2
  go_ret
  exact ⟨rfl, hB4⟩
set_option maxHeartbeats 8000000 in
set_option maxRecDepth 100000 in
theorem stsame_any {B : Nat} {v u : Value} {a : Sta} (w : World) (hv : StaV B w v a) (hu : StaV B w u a) (hBB : B ≤ w.heap.size) :
    Calls Try.prog 17 #[v, u] w fun e w' => e = .returned (.bool true) ∧ Below w.heap.size w w' := by
  obtain ⟨vm, vt, rfl, hvm, hvt⟩ := hv
  obtain ⟨um, ut, rfl, hum, hut⟩ := hu
  have HNI := Lib.hid (fun W (hW : Below w.heap.size w W) => nsame_any W ((hvm.below (hW.mono hBB)).more (Nat.le_trans hBB hW.size)) ((hum.below (hW.mono hBB)).more (Nat.le_trans hBB hW.size)) (Nat.le_refl _))
  obtain ⟨A7, c7, rfl, -⟩ := hvm
  obtain ⟨A8, c8, rfl, -⟩ := hum
  obtain ⟨A1, c1, rfl, g1, g2, -, g3⟩ := hvt
  obtain ⟨A2, c2, rfl, g4, g5, -, g6⟩ := hut
  unfold maxLen at g2 g5
  have hB1 := below_al (Below.refl w.heap.size w) (.cells #[.slice A7 a.mem.length c7, .slice A1 a.ths.length c1] 31)
  have hB2 := below_al hB1 (.cells #[.slice A8 a.mem.length c8, .slice A2 a.ths.length c2] 31)
  have HX := Lib.hid ((PgBox.at (w := w) rfl (.slice A7 a.mem.length c7) (.slice A1 a.ths.length c1) 31).below (below_al (Below.refl _ _) (.cells #[.slice A8 a.mem.length c8, .slice A2 a.ths.length c2] 31)))
  have hsz : (w.alloc (.cells #[.slice A7 a.mem.length c7, .slice A1 a.ths.length c1] 31)).heap.size = w.heap.size + 1 := by simp
  have HY := Lib.hid (PgBox.at (w := w.alloc (.cells #[.slice A7 a.mem.length c7, .slice A1 a.ths.length c1] 31)) hsz.symm (.slice A8 a.mem.length c8) (.slice A2 a.ths.length c2) 31)
  obtain ⟨t0, t1⟩ := HX.out
  obtain ⟨s0, s1⟩ := HY.out
  clear hB1 hsz
  go_enter Try.func17, Try.ntmps17
  go_wp2_with fail
  refine (HNI.out _ hB2).mono ?_
  rintro e w1 ⟨rfl, hbb⟩
  replace HX := Lib.hid (HX.out.below hbb)
  replace HY := Lib.hid (HY.out.below hbb)
  have hB := chain hB2 hbb
  clear t0 t1 s0 s1 hbb hB2 HNI
  obtain ⟨t0, t1⟩ := HX.out
  obtain ⟨s0, s1⟩ := HY.out
  go_wp2
  go_loopw [5] (fun i wr => (∃ k : Nat, k ≤ a.ths.length ∧ i = .int .i64 k ∧ Below w.heap.size w wr ∧ Below w1.heap.size w1 wr)) (fun i _ => a.ths.length - (intOf i).toNat)
  case atStart => exact ⟨0, Nat.zero_le _, rfl, hB, Below.refl _ _⟩
  case round =>
    obtain ⟨k, hk, rfl, hB, hW⟩ := hrel
    clear t0 t1 s0 s1
    obtain ⟨t0, t1⟩ := HX.out.below hW
    obtain ⟨s0, s1⟩ := HY.out.below hW
    by_cases hlt : k < a.ths.length
    · obtain ⟨b1, f1, rfl, hb1, hc1⟩ := g3 (by omega)
      obtain ⟨b2, f2, rfl, hb2, hc2⟩ := g6 (by omega)
      obtain ⟨vr, vb, p0, p1, p2, p3, hr, hb⟩ := (hc1 k hlt).below (hB.mono hBB) hb1
      obtain ⟨ur, ub, r0, r1, r2, r3, ir, ib⟩ := (hc2 k hlt).below (hB.mono hBB) hb2
      obtain ⟨x, hx⟩ : ∃ x, x = a.ths[k] := ⟨_, rfl⟩
      rw [← hx] at p0 p2 hr hb r0 r2 ir ib
      have hBw := Nat.le_trans hBB hB.size
      have HST := Lib.hid (fun W (hW : Below wr.heap.size wr W) => sameth_any W (show ThV W.heap.size W (.agg #[.int .i64 x.at', vr, .bool x.eq, vb]) x from ⟨_, _, rfl, (hr.below (hW.mono hBw)).more (Nat.le_trans hBw hW.size), (hb.below (hW.mono hBw)).more (Nat.le_trans hBw hW.size)⟩)
        (show ThV W.heap.size W (.agg #[.int .i64 x.at', ur, .bool x.eq, ub]) x from ⟨_, _, rfl, (ir.below (hW.mono hBw)).more (Nat.le_trans hBw hW.size), (ib.below (hW.mono hBw)).more (Nat.le_trans hBw hW.size)⟩) (Nat.le_refl _))
      obtain ⟨A3, c3, rfl, -⟩ := hr
      obtain ⟨A4, c4, rfl, -⟩ := hb
      obtain ⟨A5, c5, rfl, -⟩ := ir
      obtain ⟨A6, c6, rfl, -⟩ := ib
      clear hx hc1 hc2 g3 g6
      go_upto_region 6 with fail
      refine wp_region_held_drew (S := (fun w' => (w'.cell? ⟨w.heap.size, 1, none⟩ = some (.slice (some ⟨b1, f1, none⟩) a.ths.length c1) ∧ w'.cell? ⟨w.heap.size + 1, 1, none⟩ = some (.slice (some ⟨b2, f2, none⟩) a.ths.length c2) ∧ w'.cell? ⟨b1, f1 + k * 4, none⟩ = some (.int .i64 x.at') ∧ w'.cell? ⟨b1, f1 + k * 4 + 1, none⟩ = some (.slice A3 x.regs.length c3) ∧ w'.cell? ⟨b1, f1 + k * 4 + 2, none⟩ = some (.bool x.eq) ∧ w'.cell? ⟨b1, f1 + k * 4 + 3, none⟩ = some (.slice A4 x.buf.length c4) ∧ w'.cell? ⟨b2, f2 + k * 4, none⟩ = some (.int .i64 x.at') ∧ w'.cell? ⟨b2, f2 + k * 4 + 1, none⟩ = some (.slice A5 x.regs.length c5) ∧ w'.cell? ⟨b2, f2 + k * 4 + 2, none⟩ = some (.bool x.eq) ∧ w'.cell? ⟨b2, f2 + k * 4 + 3, none⟩ = some (.slice A6 x.buf.length c6)) ∧ Below wr.heap.size wr w')) (by kernel_rfl) ⟨⟨t1, s1, p0, p1, p2, p3, r0, r1, r2, r3⟩, below_drewN (Below.refl _ _) 1⟩ (fun hHeld => ?_)
      refine wpAnyH_take (i := 0) (v := ?_) rfl (by kernel_rfl) (by kernel_rfl) (by kernel_rfl) (fun _ _ _ h => h) (Or.inl ⟨by rfl, ?_⟩) (by assumption) ?_
      rotate_left
      · intro w hSw; (try dsimp only at hSw); go_simp; (try with_reducible rfl)
      (try simp only [Act.put, pt8])
      refine wpAnyH_take (i := 1) (v := ?_) rfl (by kernel_rfl) (by kernel_rfl) (by kernel_rfl) (fun _ _ _ h => h) (Or.inl ⟨by rfl, ?_⟩) (by assumption) ?_
      rotate_left
      · intro w hSw; (try dsimp only at hSw); go_simp; (try with_reducible rfl)
      (try simp only [Act.put, pt8])
      refine wpAnyH_take (i := 2) (v := ?_) rfl (by kernel_rfl) (by kernel_rfl) (by kernel_rfl) (fun _ _ _ h => h) (Or.inl ⟨by rfl, ?_⟩) (by assumption) ?_
      rotate_left
      · intro w hSw; (try dsimp only at hSw); go_simp; (try with_reducible rfl)
      (try simp only [Act.put, pt8])
      refine wpAnyH_take (i := 3) (v := ?_) rfl (by kernel_rfl) (by kernel_rfl) (by kernel_rfl) (fun _ _ _ h => h) (Or.inl ⟨by rfl, ?_⟩) (by assumption) ?_
      rotate_left
      · intro w hSw; (try dsimp only at hSw); go_simp; (try with_reducible rfl)
      (try simp only [Act.put, pt8])
      refine wpAnyH_take (i := 4) (v := ?_) rfl (by kernel_rfl) (by kernel_rfl) (by kernel_rfl) (fun _ _ _ h => h) (Or.inl ⟨by rfl, ?_⟩) (by assumption) ?_
      rotate_left
      · intro w hSw; (try dsimp only at hSw); go_simp; (try with_reducible rfl)
      (try simp only [Act.put, pt8])
      refine wpAnyH_take (i := 5) (v := ?_) rfl (by kernel_rfl) (by kernel_rfl) (by kernel_rfl) (fun _ _ _ h => h) (Or.inl ⟨by rfl, ?_⟩) (by assumption) ?_
      rotate_left
      · intro w hSw; (try dsimp only at hSw); go_simp; (try with_reducible rfl)
      (try simp only [Act.put, pt8])
      refine wpAnyH_take (i := 6) (v := ?_) rfl (by kernel_rfl) (by kernel_rfl) (by kernel_rfl) (fun _ _ _ h => h) (Or.inl ⟨by rfl, ?_⟩) (by assumption) ?_
      rotate_left
      · intro w hSw; (try dsimp only at hSw); go_simp; (try with_reducible rfl)
      (try simp only [Act.put, pt8])
      refine wpAnyH_take (i := 7) (v := ?_) rfl (by kernel_rfl) (by kernel_rfl) (by kernel_rfl) (fun _ _ _ h => h) (Or.inl ⟨by rfl, ?_⟩) (by assumption) ?_
      rotate_left
      · intro w hSw; (try dsimp only at hSw); go_simp; (try with_reducible rfl)
      (try simp only [Act.put, pt8])
      refine wpAnyH_take (i := 8) (v := ?_) rfl (by kernel_rfl) (by kernel_rfl) (by kernel_rfl) (fun _ _ _ h => h) (Or.inl ⟨by rfl, ?_⟩) (by assumption) ?_
      rotate_left
      · intro w hSw; (try dsimp only at hSw); go_simp; (try with_reducible rfl)
      (try simp only [Act.put, pt8])
      refine wpAnyH_take (i := 9) (v := ?_) rfl (by kernel_rfl) (by kernel_rfl) (by kernel_rfl) (fun _ _ _ h => h) (Or.inl ⟨by rfl, ?_⟩) (by assumption) ?_
      rotate_left
      · intro w hSw; (try dsimp only at hSw); go_simp; (try with_reducible rfl)
      (try simp only [Act.put, pt8])
      refine wpAnyH_ready (rs := [10]) (by kernel_rfl) (by simp) ?_
      refine AllReadyH.cons rfl (fun K hK => ?_) AllReadyH.nil
      go_simp
      refine (HST.out _ hHeld.2).mono ?_
      rintro e wa ⟨rfl, hba⟩
      obtain ⟨q0, q1, q2, q3, q4, q5, q6, q7, q8, q9⟩ := hHeld.1
      refine hK.out _ _ ⟨⟨kc hba q0, kc hba q1, kc hba q2, kc hba q3, kc hba q4, kc hba q5, kc hba q6, kc hba q7, kc hba q8, kc hba q9⟩, chain hHeld.2 hba⟩ (fun hHeld => ?_)
      clear hba q0 q1 q2 q3 q4 q5 q6 q7 q8 q9
      clear hK K
      (try simp only [Act.put, pt8])
      refine wpAnyH_take (i := 11) (v := ?_) rfl (by kernel_rfl) (by kernel_rfl) (by kernel_rfl) (fun _ _ _ h => h) (Or.inl ⟨by rfl, ?_⟩) (by assumption) ?_
      rotate_left
      · intro w hSw; (try dsimp only at hSw); go_simp; (try with_reducible rfl)
      (try simp only [Act.put, pt8])
      refine wpAnyH_done (by kernel_rfl) ?_ _
      have hE := chain hB hHeld.2
      have hE1 := chain hW hHeld.2
      clear hHeld
      go_wp2
      go_roundw
      case rel => exact ⟨k + 1, by omega, by go_num, hE, hE1⟩
      case measure => simp [intOf]; omega
    · obtain rfl : a.ths.length = k := by omega
      clear g3 g6
      go_wp2
      go_ret
      exact ⟨rfl, hB⟩
end Go.Proofs.Ytbgjamoflbdhoaa
