/-
  THE DOCUMENT's Last, View, SameInts, Same (of alike rows).
-/
import Derived.Test.YtkbnppidkhbbeaaSuV
import Derived.Deep.RegionHeld3
import Derived.Deep.DeepCutAuto
namespace Go.Proofs.Ytkbnppidkhbbeaa
open Go.RowKit
set_option linter.unusedVariables false
set_option linter.unusedSimpArgs false
open BfM

theorem lastV_hit {b : List Wr} {l : Int} {k : Nat} (hk : k < b.length) (h : last (b.take (k + 1)) l = last b l) (hl : b[k].loc = l) : lastV b l = .tuple #[.int .i64 b[k].n, .bool true] := by
  unfold lastV; rw [last_hit hk h hl]
theorem lastV_no {b : List Wr} {l : Int} (h : last (b.take 0) l = last b l) : lastV b l = .tuple #[.int .i64 0, .bool false] := by
  unfold lastV; rw [← h]; rfl
set_option maxHeartbeats 4000000 in
set_option maxRecDepth 100000 in
theorem rlast_any {B : Nat} {v : Value} {b : List Wr} (l : Int) (w : World) (hv : WrR B w v b) (hBB : B ≤ w.heap.size) (hl : b.length ≤ 1000000) :
    Calls Try.prog 49 #[v, .int .i64 l] w fun e w' => e = .returned (lastV b l) ∧ Below w.heap.size w w' := by
  obtain ⟨A1, c1, rfl, g1, g2, -, g3⟩ := hv
  unfold maxLen at g2
  have g3 := wr_at (c := c1) g3
  go_enter Try.func49, Try.ntmps49
  go_wp2
  go_loopw [6] (fun i wr => ∃ k : Nat, k ≤ b.length ∧ i = .int .i64 ((k : Int) - 1) ∧ last (b.take k) l = last b l ∧ Below w.heap.size w wr) (fun i _ => (intOf i + 1).toNat)
  case atStart => exact ⟨b.length, Nat.le_refl _, rfl, by rw [List.take_length], Below.refl _ _⟩
  case round =>
    obtain ⟨k, hk, rfl, hla, hB⟩ := hrel
    have HLA := Lib.hid hla
    clear hla
    rcases Nat.eq_zero_or_pos k with rfl | hpos
    · have HN := Lib.hid (lastV_no HLA.out)
      go_wp2
      go_ret2
      exact ⟨by rw [HN.out]; rfl, hB⟩
    · obtain ⟨k, rfl⟩ : ∃ j, k = j + 1 := ⟨k - 1, by omega⟩
      have hkl : k < b.length := by omega
      obtain ⟨b2, f2, rfl, hb2, hc2⟩ := g3 (by omega)
      obtain ⟨y0, y1⟩ := hc2 k hkl
      have z0 := ((hB.mono hBB).cell (p := ⟨b2, f2 + k * 2, none⟩) hb2).trans y0
      have z1 := ((hB.mono hBB).cell (p := ⟨b2, f2 + k * 2 + 1, none⟩) hb2).trans y1
      have HH := Lib.hid (fun h => lastV_hit hkl HLA.out h)
      have HM := Lib.hid (fun h => last_miss hkl HLA.out h)
      have hkk : ((k + 1 : Nat) : Int) - 1 = (k : Int) := by omega
      rw [hkk]
      generalize b[k] = x at *
      clear y0 y1 hc2 g3 hkk
      by_cases hx : x.loc = l
      · have hh := Lib.hid (HH.out hx)
        go_wp2
        go_ret2
        exact ⟨by rw [hh.out]; rfl, hB⟩
      · have hmm := Lib.hid (HM.out hx)
        go_wp2
        go_roundw
        case rel => exact ⟨k, by omega, by go_num, hmm.out, hB⟩
        case measure => simp [intOf]
set_option maxHeartbeats 4000000 in
set_option maxRecDepth 100000 in
theorem rview_any {B : Nat} {v u : Value} {b : List Wr} {m : List Int} (l : Int) (w : World) (hv : WrR B w v b) (hu : IntR B w u m) (hBB : B ≤ w.heap.size) (hl : b.length ≤ 1000000) (hm : m.length ≤ 1000000) :
    Calls Try.prog 34 #[v, u, .int .i64 l] w fun e w' => e = .returned (viewV b m l) ∧ Below w.heap.size w w' := by
  have HLA := Lib.hid (rlast_any l w hv hBB hl)
  obtain ⟨A1, c1, rfl, -⟩ := hv
  obtain ⟨A2, c2, rfl, g1, g2, -, g3⟩ := hu
  unfold maxLen at g2
  have g3 := nu_at (c := c2) g3
  cases hla : last b l with
  | some n =>
    have hV : viewV b m l = .tuple #[.int .i64 n, .bool true] := by unfold viewV view; rw [hla]
    have hL : lastV b l = .tuple #[.int .i64 n, .bool true] := by unfold lastV; rw [hla]
    rw [hL] at HLA
    rw [hV]
    clear hla hV hL g3
    go_enter Try.func34, Try.ntmps34
    go_wp2_with fail
    refine HLA.out.mono ?_
    rintro e w1 ⟨rfl, hb1⟩
    go_wp2
    go_ret2
    exact ⟨rfl, hb1⟩
  | none =>
    have hL : lastV b l = .tuple #[.int .i64 0, .bool false] := by unfold lastV; rw [hla]
    rw [hL] at HLA
    by_cases hlo : l < 0
    · have hp : ¬ plc m.length l = true := by unfold plc; rw [decide_eq_true_eq]; omega
      have hV : viewV b m l = .tuple #[.int .i64 0, .bool false] := by unfold viewV view; rw [hla]; simp [hp]
      rw [hV]
      clear hla hV hL g3 hp
      go_enter Try.func34, Try.ntmps34
      go_wp2_with fail
      refine HLA.out.mono ?_
      rintro e w1 ⟨rfl, hb1⟩
      go_wp2
      go_ret2
      exact ⟨rfl, hb1⟩
    by_cases hhi : l < m.length
    · have hp : plc m.length l = true := by unfold plc; rw [decide_eq_true_eq]; omega
      obtain ⟨k, rfl⟩ : ∃ k : Nat, l = k := ⟨l.toNat, by omega⟩
      have hk : k < m.length := by omega
      have hV : viewV b m k = .tuple #[.int .i64 m[k], .bool true] := by unfold viewV view; rw [hla]; simp [hp, hk]
      rw [hV]
      obtain ⟨b2, f2, rfl, hb2, hc2⟩ := g3 (by omega)
      have hc := Lib.hid (hc2 k hk)
      generalize m[k] = x at *
      clear hla hV hL g3 hp hc2 hlo hhi
      go_enter Try.func34, Try.ntmps34
      go_wp2_with fail
      refine HLA.out.mono ?_
      rintro e w1 ⟨rfl, hb1⟩
      have hcc := ((hb1.mono hBB).cell (p := ⟨b2, f2 + k, none⟩) hb2).trans hc.out
      clear HLA
      go_wp2
      go_ret2
      exact ⟨rfl, hb1⟩
    · have hp : ¬ plc m.length l = true := by unfold plc; rw [decide_eq_true_eq]; omega
      have hV : viewV b m l = .tuple #[.int .i64 0, .bool false] := by unfold viewV view; rw [hla]; simp [hp]
      rw [hV]
      clear hla hV hL g3 hp
      go_enter Try.func34, Try.ntmps34
      go_wp2_with fail
      refine HLA.out.mono ?_
      rintro e w1 ⟨rfl, hb1⟩
      go_wp2
      go_ret2
      exact ⟨rfl, hb1⟩
set_option maxHeartbeats 4000000 in
set_option maxRecDepth 100000 in
theorem bints_any {B : Nat} {v u : Value} {ns : List Int} (w : World) (hv : IntR B w v ns) (hu : IntR B w u ns) (hBB : B ≤ w.heap.size) :
    Calls Try.prog 25 #[v, u] w fun e w' => e = .returned (.bool true) ∧ Below w.heap.size w w' := by
  obtain ⟨A1, c1, rfl, ha1, ha2, -, ha3⟩ := hv
  obtain ⟨A2, c2, rfl, hb1, hb2, -, hb3⟩ := hu
  unfold maxLen at ha2 hb2
  have ha3 := nu_at (c := c1) ha3
  have hb3 := nu_at (c := c2) hb3
  go_enter Try.func25, Try.ntmps25
  go_wp2
  go_loopw [5] (fun i wr => ∃ k : Nat, k ≤ ns.length ∧ i = .int .i64 k ∧ Below w.heap.size w wr) (fun i _ => ns.length - (intOf i).toNat)
  case atStart => exact ⟨0, Nat.zero_le _, rfl, Below.refl _ _⟩
  case round =>
    obtain ⟨k, hk, rfl, hB⟩ := hrel
    by_cases hlt : k < ns.length
    · obtain ⟨b1, f1, rfl, hl1, hc1⟩ := ha3 (by omega)
      obtain ⟨b2, f2, rfl, hl2, hc2⟩ := hb3 (by omega)
      have d1 := ((hB.mono hBB).cell (p := ⟨b1, f1 + k, none⟩) hl1).trans (hc1 k hlt)
      have d2 := ((hB.mono hBB).cell (p := ⟨b2, f2 + k, none⟩) hl2).trans (hc2 k hlt)
      obtain ⟨x, hx⟩ : ∃ x, x = ns[k] := ⟨_, rfl⟩
      rw [← hx] at d1 d2
      clear hx hc1 hc2 ha3 hb3
      go_wp2
      go_quiet (fail)
      go_wp2
      go_roundw
      case rel => exact ⟨k + 1, by omega, by go_num, below_drewN hB _⟩
      case measure => simp [intOf]; omega
    · obtain rfl : ns.length = k := by omega
      clear ha3 hb3
      go_wp2
      go_ret
      exact ⟨rfl, hB⟩
set_option maxHeartbeats 4000000 in
set_option maxRecDepth 100000 in
theorem bsame_any {B : Nat} {v u : Value} {ns : List Wr} (w : World) (hv : WrR B w v ns) (hu : WrR B w u ns) (hBB : B ≤ w.heap.size) :
    Calls Try.prog 41 #[v, u] w fun e w' => e = .returned (.bool true) ∧ Below w.heap.size w w' := by
  obtain ⟨A1, c1, rfl, ha1, ha2, -, ha3⟩ := hv
  obtain ⟨A2, c2, rfl, hb1, hb2, -, hb3⟩ := hu
  unfold maxLen at ha2 hb2
  have ha3 := wr_at (c := c1) ha3
  have hb3 := wr_at (c := c2) hb3
  go_enter Try.func41, Try.ntmps41
  go_wp2
  go_loopw [5] (fun i wr => ∃ k : Nat, k ≤ ns.length ∧ i = .int .i64 k ∧ Below w.heap.size w wr) (fun i _ => ns.length - (intOf i).toNat)
  case atStart => exact ⟨0, Nat.zero_le _, rfl, Below.refl _ _⟩
  case round =>
    obtain ⟨k, hk, rfl, hB⟩ := hrel
    by_cases hlt : k < ns.length
    · obtain ⟨b1, f1, rfl, hl1, hc1⟩ := ha3 (by omega)
      obtain ⟨b2, f2, rfl, hl2, hc2⟩ := hb3 (by omega)
      obtain ⟨p0, p1⟩ := hc1 k hlt
      obtain ⟨q0, q1⟩ := hc2 k hlt
      have d1 := ((hB.mono hBB).cell (p := ⟨b1, f1 + k * 2, none⟩) hl1).trans p0
      have d2 := ((hB.mono hBB).cell (p := ⟨b1, f1 + k * 2 + 1, none⟩) hl1).trans p1
      have d3 := ((hB.mono hBB).cell (p := ⟨b2, f2 + k * 2, none⟩) hl2).trans q0
      have d4 := ((hB.mono hBB).cell (p := ⟨b2, f2 + k * 2 + 1, none⟩) hl2).trans q1
      obtain ⟨x, hx⟩ : ∃ x, x = ns[k] := ⟨_, rfl⟩
      rw [← hx] at d1 d2 d3 d4
      clear hx hc1 hc2 ha3 hb3 p0 p1 q0 q1
      go_wp2
      go_quiet (fail)
      go_wp2
      go_roundw
      case rel => exact ⟨k + 1, by omega, by go_num, below_drewN hB _⟩
      case measure => simp [intOf]; omega
    · obtain rfl : ns.length = k := by omega
      clear ha3 hb3
      go_wp2
      go_ret
      exact ⟨rfl, hB⟩
end Go.Proofs.Ytkbnppidkhbbeaa
