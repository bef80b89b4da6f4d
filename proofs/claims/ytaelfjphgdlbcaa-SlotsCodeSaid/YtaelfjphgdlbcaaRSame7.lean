/-
  THE DOCUMENT's Same of codes, of alike ones: true.
-/
import Derived.Test.YtaelfjphgdlbcaaM03
namespace Go.Proofs.Ytaelfjphgdlbcaa
open Go.RowKit
set_option linter.unusedVariables false
set_option linter.unusedSimpArgs false
open WordM (L)
open CodM (St Pg)

def SiRel (ns : List Int) (w : World) (i : Value) (wr : World) : Prop := ∃ k : Nat, k ≤ ns.length ∧ i = .int .i64 k ∧ Below w.heap.size w wr
set_option maxHeartbeats 4000000 in
set_option maxRecDepth 100000 in
theorem sameints_any {B : Nat} {v u : Value} {ns : List Int} (w : World) (hv : Ints B w v ns) (hu : Ints B w u ns) (hBB : B ≤ w.heap.size) :
    Calls Try.prog 45 #[v, u] w fun e w' => e = .returned (.bool true) ∧ Below w.heap.size w w' := by
  obtain ⟨A1, c1, rfl, ha1, ha2, ha3⟩ := hv
  obtain ⟨A2, c2, rfl, hb1, hb2, hb3⟩ := hu
  unfold maxLen at ha2 hb2
  go_enter Try.func45, Try.ntmps45
  go_wp2
  go_loopw [5] (fun i wr => SiRel ns w i wr) (fun i _ => ns.length - (intOf i).toNat)
  case atStart => exact ⟨0, Nat.zero_le _, rfl, Below.refl _ _⟩
  case round =>
    obtain ⟨k, hk, rfl, hB⟩ := hrel
    by_cases hlt : k < ns.length
    · obtain ⟨b1, f1, rfl, hl1, hc1⟩ := ha3 (by omega)
      obtain ⟨b2, f2, rfl, hl2, hc2⟩ := hb3 (by omega)
      have d1 := (hc1 k hlt).below (hB.mono hBB) hl1
      have d2 := (hc2 k hlt).below (hB.mono hBB) hl2
      unfold IntAt at d1 d2
      obtain ⟨x, hx⟩ : ∃ x, x = ns[k] := ⟨_, rfl⟩
      rw [← hx] at d1 d2
      clear hx hc1 hc2 ha3 hb3
      go_wp2
      go_quiet (fail)
      go_wp2
      go_roundw
      case rel => exact ⟨k + 1, by omega, by go_num, below_drewN hB _⟩
      case measure => simp [intOf]; omega
    · obtain rfl : ns.length = k := by omega
      clear ha3 hb3
      go_wp2
      go_ret
      exact ⟨rfl, hB⟩
def SoRel (P : Pg) (w : World) (i : Value) (wr : World) : Prop := ∃ k : Nat, k ≤ P.ths.length ∧ i = .int .i64 k ∧ Below w.heap.size w wr
def SnRel (ss : List St) (w : World) (i : Value) (wr : World) : Prop := ∃ k : Nat, k ≤ ss.length ∧ i = .int .i64 k ∧ Below w.heap.size w wr
set_option maxHeartbeats 8000000 in
set_option maxRecDepth 100000 in
theorem rsame_any {B : Nat} {v u : Value} {P : Pg} (w : World) (hv : PgV B w v P) (hu : PgV B w u P) (hBB : B ≤ w.heap.size) :
    Calls Try.prog 21 #[v, u] w fun e w' => e = .returned (.bool true) ∧ Below w.heap.size w w' := by
  obtain ⟨vi, vt, rfl, hvi, hvt⟩ := hv
  obtain ⟨ui, ut, rfl, hui, hut⟩ := hu
  have hB1 := below_al (Below.refl w.heap.size w) (.cells #[vi, vt] 25)
  have hB2 := below_al hB1 (.cells #[ui, ut] 25)
  have hbb : Below (w.alloc (.cells #[vi, vt] 25)).heap.size (w.alloc (.cells #[vi, vt] 25)) ((w.alloc (.cells #[vi, vt] 25)).alloc (.cells #[ui, ut] 25)) := below_al (Below.refl _ _) _
  have hbx := Lib.hid ((PgBox.at (w := w) rfl vi vt 25).below hbb)
  have hsz : (w.alloc (.cells #[vi, vt] 25)).heap.size = w.heap.size + 1 := by simp
  have hby := Lib.hid (PgBox.at (w := w.alloc (.cells #[vi, vt] 25)) hsz.symm ui ut 25)
  have HSI := Lib.hid (sameints_any _ (hvi.below (hB2.mono hBB)) (hui.below (hB2.mono hBB)) (Nat.le_trans hBB hB2.size))
  obtain ⟨A0, c0, rfl, -⟩ := hvi
  obtain ⟨D0, d0, rfl, -⟩ := hui
  obtain ⟨A1, c1, rfl, ha1, ha2, ha3⟩ := hvt
  obtain ⟨D1, d1, rfl, hd1, hd2, hd3⟩ := hut
  unfold maxLen at ha2 hd2
  obtain ⟨t0, t1⟩ := hbx.out
  obtain ⟨s0, s1⟩ := hby.out
  clear hbb hsz hB1
  go_enter Try.func21, Try.ntmps21
  go_wp2_with fail
  refine HSI.out.mono ?_
  rintro e w1 ⟨rfl, hb⟩
  have hB := chain hB2 hb
  replace hbx := Lib.hid (hbx.out.below hb)
  replace hby := Lib.hid (hby.out.below hb)
  obtain ⟨g, hg⟩ : ∃ g, g = w.heap.size := ⟨_, rfl⟩
  rw [← hg] at hbx hby ⊢
  have HG := Lib.hid hg
  clear hg t0 t1 s0 s1 hb hB2 HSI
  obtain ⟨t0, t1⟩ := hbx.out
  obtain ⟨s0, s1⟩ := hby.out
  go_wp2
  go_loopw [5] (fun i wr => (∃ k : Nat, k ≤ P.ths.length ∧ i = .int .i64 k ∧ Below w.heap.size w wr ∧ Below w1.heap.size w1 wr)) (fun i _ => P.ths.length - (intOf i).toNat)
  case atStart => exact ⟨0, Nat.zero_le _, rfl, hB, Below.refl _ _⟩
  case round =>
    obtain ⟨k, hk, rfl, hB, hW⟩ := hrel
    clear t0 t1 s0 s1
    obtain ⟨t0, t1⟩ := hbx.out.below hW
    obtain ⟨s0, s1⟩ := hby.out.below hW
    by_cases hlt : k < P.ths.length
    · obtain ⟨b1, f1, rfl, hl1, hc1⟩ := ha3 (by omega)
      obtain ⟨b2, f2, rfl, hl2, hc2⟩ := hd3 (by omega)
      obtain ⟨x1, z1, hS1⟩ := hc1 k hlt
      obtain ⟨x2, z2, hS2⟩ := hc2 k hlt
      obtain ⟨ss, hx⟩ : ∃ x, x = P.ths[k] := ⟨_, rfl⟩
      rw [← hx] at hS1 hS2
      have y1 := ((hB.mono hBB).cell (p := ⟨b1, f1 + k, none⟩) hl1).trans z1
      have y2 := ((hB.mono hBB).cell (p := ⟨b2, f2 + k, none⟩) hl2).trans z2
      obtain ⟨A3, c3, rfl, he1, he2, he3⟩ := hS1
      obtain ⟨D3, d3, rfl, hf1, hf2, hf3⟩ := hS2
      unfold maxLen at he2 hf2
      have Z1 := Lib.hid z1
      have Z2 := Lib.hid z2
      clear hx hc1 hc2 ha3 hd3 z1 z2
      go_wp2
      go_quiet (fail)
      go_wp2
      go_loopw [6] (fun i wq => (∃ m : Nat, m ≤ ss.length ∧ i = .int .i64 m ∧ Below w.heap.size w wq ∧ Below w1.heap.size w1 wq)) (fun i _ => ss.length - (intOf i).toNat)
      case atStart => exact ⟨0, Nat.zero_le _, rfl, below_drewN hB _, below_drewN hW _⟩
      case round =>
        obtain ⟨m, hmk, rfl, hB3, hW3⟩ := hrel
        clear t0 t1 s0 s1 y1 y2
        obtain ⟨t0, t1⟩ := hbx.out.below hW3
        obtain ⟨s0, s1⟩ := hby.out.below hW3
        have y1 := ((hB3.mono hBB).cell (p := ⟨b1, f1 + k, none⟩) hl1).trans Z1.out
        have y2 := ((hB3.mono hBB).cell (p := ⟨b2, f2 + k, none⟩) hl2).trans Z2.out
        by_cases hlm : m < ss.length
        · obtain ⟨b3, f3, rfl, hl3, hc3⟩ := he3 (by omega)
          obtain ⟨b4, f4, rfl, hl4, hc4⟩ := hf3 (by omega)
          obtain ⟨p0, p1, p2, p3, p4⟩ := (hc3 m hlm).below (hB3.mono hBB) hl3
          obtain ⟨q0, q1, q2, q3, q4⟩ := (hc4 m hlm).below (hB3.mono hBB) hl4
          obtain ⟨x, hx⟩ : ∃ x, x = ss[m] := ⟨_, rfl⟩
          rw [← hx] at p0 p1 p2 p3 p4 q0 q1 q2 q3 q4
          clear hx hc3 hc4 he3 hf3
          go_wp2
          go_quiet (fail)
          go_wp2
          go_roundw
          case rel => exact ⟨m + 1, by omega, by go_num, below_drewN hB3 _, below_drewN hW3 _⟩
          case measure => simp [intOf]; omega
        · obtain rfl : ss.length = m := by omega
          clear he3 hf3
          go_wp2
          refine ⟨⟨k + 1, by omega, by go_num, hB3, hW3⟩, by simp [intOf]; omega⟩
    · obtain rfl : P.ths.length = k := by omega
      clear ha3 hd3
      go_wp2
      go_ret
      exact ⟨rfl, hB⟩
end Go.Proofs.Ytaelfjphgdlbcaa
