/-
  THE DOCUMENT's Last, View, SameInts, Same (of alike rows).
  THE DOCUMENT's Push: two appends in a region that draws its order.
  THE DOCUMENT's Step of layer 11: a step of a thread.
  tso.able: the picks that can be done, one by one, for every loop body.
  THE DOCUMENT's Picks of layer 11.
  THE DOCUMENT's Begin of layer 10.
  LAYER 13: THE DOCUMENT's Step of a run, and its Run.
  LAYER 13: THE DOCUMENT's Strict.
  LAYER 14: what cross.Lower and cross.Raise ask at each way of a run.
  slots.with[fencepost/api.Step]: each thread's steps, with one more ahead of those that are told.
  slots.without[fencepost/api.Line]: each thread's lines, without those that are told.
-/
import Derived.Test.YtlpjgaeelnlipaaK11
import Derived.Deep.RegionHeld3
import Derived.Deep.DeepCutAuto
import Derived.Test.YtlpjgaeelnlipaaK21
import Derived.Test.YtlpjgaeelnlipaaScSt
import Derived.RangeFuncNested
import Derived.RangeFuncBound
import Derived.RangeFuncCalls
import Derived.RangeFuncLeaves
import Derived.RangeFuncBox
import Derived.Shelf.Abstract
import Derived.WalkKit
import Derived.OwnWalkIn
import Derived.TacticsInMore
import Derived.LoopNIn
import Derived.LoopIn
import Derived.Maps.OwnIn
import Derived.Test.YtlpjgaeelnlipaaK12
import Derived.Test.YtlpjgaeelnlipaaScP
import Derived.Test.YtlpjgaeelnlipaaScAt
import Derived.Test.YtlpjgaeelnlipaaK27
import Derived.Maps.AppendAt
import Derived.Test.YtlpjgaeelnlipaaK10
import Derived.Test.YtlpjgaeelnlipaaK09
import Derived.Test.YtlpjgaeelnlipaaK01
import Derived.Maps.OwnSet
set_option linter.unusedVariables false
set_option linter.unusedSimpArgs false
namespace Go.Proofs.Ytlpjgaeelnlipaa
open Go.RowKit
set_option linter.unusedVariables false
set_option linter.unusedSimpArgs false
open BfM

theorem lastV_hit {b : List Wr} {l : Int} {k : Nat} (hk : k < b.length) (h : last (b.take (k + 1)) l = last b l) (hl : b[k].loc = l) : lastV b l = .tuple #[.int .i64 b[k].n, .bool true] := by
  unfold lastV; rw [last_hit hk h hl]
theorem lastV_no {b : List Wr} {l : Int} (h : last (b.take 0) l = last b l) : lastV b l = .tuple #[.int .i64 0, .bool false] := by
  unfold lastV; rw [← h]; rfl
set_option maxHeartbeats 4000000 in
set_option maxRecDepth 100000 in
theorem rlast_any {B : Nat} {v : Value} {b : List Wr} (l : Int) (w : World) (hv : WrR B w v b) (hBB : B ≤ w.heap.size) (hl : b.length ≤ 1000000) :
    Calls Try.prog 80 #[v, .int .i64 l] w fun e w' => e = .returned (lastV b l) ∧ Below w.heap.size w w' := by
  obtain ⟨A1, c1, rfl, g1, g2, -, g3⟩ := hv
  unfold maxLen at g2
  have g3 := wr_at (c := c1) g3
  go_enter Try.func80, Try.ntmps80
  go_wp2
  go_loopw [6] (fun i wr => ∃ k : Nat, k ≤ b.length ∧ i = .int .i64 ((k : Int) - 1) ∧ last (b.take k) l = last b l ∧ Below w.heap.size w wr) (fun i _ => (intOf i + 1).toNat)
  case atStart => exact ⟨b.length, Nat.le_refl _, rfl, by rw [List.take_length], Below.refl _ _⟩
  case round =>
    obtain ⟨k, hk, rfl, hla, hB⟩ := hrel
    have HLA := Lib.hid hla
    clear hla
    rcases Nat.eq_zero_or_pos k with rfl | hpos
    · have HN := Lib.hid (lastV_no HLA.out)
      go_wp2
      go_ret2
      exact ⟨by rw [HN.out]; rfl, hB⟩
    · obtain ⟨k, rfl⟩ : ∃ j, k = j + 1 := ⟨k - 1, by omega⟩
      have hkl : k < b.length := by omega
      obtain ⟨b2, f2, rfl, hb2, hc2⟩ := g3 (by omega)
      obtain ⟨y0, y1⟩ := hc2 k hkl
      have z0 := ((hB.mono hBB).cell (p := ⟨b2, f2 + k * 2, none⟩) hb2).trans y0
      have z1 := ((hB.mono hBB).cell (p := ⟨b2, f2 + k * 2 + 1, none⟩) hb2).trans y1
      have HH := Lib.hid (fun h => lastV_hit hkl HLA.out h)
      have HM := Lib.hid (fun h => last_miss hkl HLA.out h)
      have hkk : ((k + 1 : Nat) : Int) - 1 = (k : Int) := by omega
      rw [hkk]
      generalize b[k] = x at *
      clear y0 y1 hc2 g3 hkk
      by_cases hx : x.loc = l
      · have hh := Lib.hid (HH.out hx)
        go_wp2
        go_ret2
        exact ⟨by rw [hh.out]; rfl, hB⟩
      · have hmm := Lib.hid (HM.out hx)
        go_wp2
        go_roundw
        case rel => exact ⟨k, by omega, by go_num, hmm.out, hB⟩
        case measure => simp [intOf]
set_option maxHeartbeats 4000000 in
set_option maxRecDepth 100000 in
theorem rview_any {B : Nat} {v u : Value} {b : List Wr} {m : List Int} (l : Int) (w : World) (hv : WrR B w v b) (hu : IntR B w u m) (hBB : B ≤ w.heap.size) (hl : b.length ≤ 1000000) (hm : m.length ≤ 1000000) :
    Calls Try.prog 57 #[v, u, .int .i64 l] w fun e w' => e = .returned (viewV b m l) ∧ Below w.heap.size w w' := by
  have HLA := Lib.hid (rlast_any l w hv hBB hl)
  obtain ⟨A1, c1, rfl, -⟩ := hv
  obtain ⟨A2, c2, rfl, g1, g2, -, g3⟩ := hu
  unfold maxLen at g2
  have g3 := nu_at (c := c2) g3
  cases hla : last b l with
  | some n =>
    have hV : viewV b m l = .tuple #[.int .i64 n, .bool true] := by unfold viewV view; rw [hla]
    have hL : lastV b l = .tuple #[.int .i64 n, .bool true] := by unfold lastV; rw [hla]
    rw [hL] at HLA
    rw [hV]
    clear hla hV hL g3
    go_enter Try.func57, Try.ntmps57
    go_wp2_with fail
    refine HLA.out.mono ?_
    rintro e w1 ⟨rfl, hb1⟩
    go_wp2
    go_ret2
    exact ⟨rfl, hb1⟩
  | none =>
    have hL : lastV b l = .tuple #[.int .i64 0, .bool false] := by unfold lastV; rw [hla]
    rw [hL] at HLA
    by_cases hlo : l < 0
    · have hp : ¬ plc m.length l = true := by unfold plc; rw [decide_eq_true_eq]; omega
      have hV : viewV b m l = .tuple #[.int .i64 0, .bool false] := by unfold viewV view; rw [hla]; simp [hp]
      rw [hV]
      clear hla hV hL g3 hp
      go_enter Try.func57, Try.ntmps57
      go_wp2_with fail
      refine HLA.out.mono ?_
      rintro e w1 ⟨rfl, hb1⟩
      go_wp2
      go_ret2
      exact ⟨rfl, hb1⟩
    by_cases hhi : l < m.length
    · have hp : plc m.length l = true := by unfold plc; rw [decide_eq_true_eq]; omega
      obtain ⟨k, rfl⟩ : ∃ k : Nat, l = k := ⟨l.toNat, by omega⟩
      have hk : k < m.length := by omega
      have hV : viewV b m k = .tuple #[.int .i64 m[k], .bool true] := by unfold viewV view; rw [hla]; simp [hp, hk]
      rw [hV]
      obtain ⟨b2, f2, rfl, hb2, hc2⟩ := g3 (by omega)
      have hc := Lib.hid (hc2 k hk)
      generalize m[k] = x at *
      clear hla hV hL g3 hp hc2 hlo hhi
      go_enter Try.func57, Try.ntmps57
      go_wp2_with fail
      refine HLA.out.mono ?_
      rintro e w1 ⟨rfl, hb1⟩
      have hcc := ((hb1.mono hBB).cell (p := ⟨b2, f2 + k, none⟩) hb2).trans hc.out
      clear HLA
      go_wp2
      go_ret2
      exact ⟨rfl, hb1⟩
    · have hp : ¬ plc m.length l = true := by unfold plc; rw [decide_eq_true_eq]; omega
      have hV : viewV b m l = .tuple #[.int .i64 0, .bool false] := by unfold viewV view; rw [hla]; simp [hp]
      rw [hV]
      clear hla hV hL g3 hp
      go_enter Try.func57, Try.ntmps57
      go_wp2_with fail
      refine HLA.out.mono ?_
      rintro e w1 ⟨rfl, hb1⟩
      go_wp2
      go_ret2
      exact ⟨rfl, hb1⟩
end Go.Proofs.Ytlpjgaeelnlipaa
namespace Go.Proofs.Ytlpjgaeelnlipaa
open Go.RowKit
set_option linter.unusedVariables false
set_option linter.unusedSimpArgs false
open BfM

theorem push_own {w : World} {a c : Nat} {v : Value} {b : List Wr} {x : Wr} (h : w.ownsRow c 102 2 v (b.length + 1) (b.flatMap wrC ++ wrC x)) (ha : a ≤ c) : OwnW a w v (b ++ [x]) := by
  have := own_base h ha
  unfold OwnW
  rw [List.length_append, List.flatMap_append]
  simpa using this
set_option maxHeartbeats 4000000 in
set_option maxRecDepth 100000 in
theorem rpush_any {B : Nat} {v : Value} {b : List Wr} (x : Wr) (w : World) (hv : WrR B w v b) (hBB : B ≤ w.heap.size) (hl : b.length ≤ 1000000) :
    Calls Try.prog 58 #[v, .agg #[.int .i64 x.loc, .int .i64 x.n]] w fun e w' => ∃ u, e = .returned u ∧ OwnW w.heap.size w' u (b ++ [x]) ∧ Below w.heap.size w w' := by
  obtain ⟨A, c, rfl, h1, h2, h0, h3⟩ := hv
  obtain ⟨l, n⟩ := x
  unfold maxLen at h2
  obtain ⟨i0, hi0, hz0, hz1, hz2⟩ := info_parts info_wr
  have hB1 := below_al (Below.refl w.heap.size w) (.cells #[.int .i64 l, .int .i64 n] 102)
  have x0 : (w.alloc (.cells #[.int .i64 l, .int .i64 n] 102)).cell? ⟨w.heap.size, 0, none⟩ = some (.int .i64 l) := by rw [World.cell?_alloc_at _ _ _ _ rfl]; rfl
  have x1 : (w.alloc (.cells #[.int .i64 l, .int .i64 n] 102)).cell? ⟨w.heap.size, 1, none⟩ = some (.int .i64 n) := by rw [World.cell?_alloc_at _ _ _ _ rfl]; rfl
  have HSRC := Lib.hid (fun W (hW : Below (w.alloc (.cells #[.int .i64 l, .int .i64 n] 102)).heap.size (w.alloc (.cells #[.int .i64 l, .int .i64 n] 102)) W) => src_rw (W := W) wrC_len h0 h3 ((chain hB1 hW).mono hBB))
  clear h3
  go_enter Try.func58, Try.ntmps58
  go_upto_region 1 with fail
  obtain ⟨W1, hW1⟩ : ∃ W, W = w.alloc (.cells #[.int .i64 l, .int .i64 n] 102) := ⟨_, rfl⟩
  obtain ⟨gx, hgx⟩ : ∃ g, g = w.heap.size := ⟨_, rfl⟩
  rw [← hW1, ← hgx] at x0 x1 ⊢
  rw [← hW1] at hB1 HSRC
  have HGX := Lib.hid hgx
  clear hW1 hgx
  refine wp_region_held_drew (S := (fun w' => (w'.cell? ⟨gx, 0, none⟩ = some (.int .i64 l) ∧ w'.cell? ⟨gx, 1, none⟩ = some (.int .i64 n)) ∧ Below W1.heap.size W1 w')) (by kernel_rfl) ⟨⟨x0, x1⟩, below_drewN (Below.refl _ _) 1⟩ (fun hHeld => ?_)
  obtain ⟨Xa, hXa⟩ : ∃ W, W = W1.drew := ⟨_, rfl⟩
  have HLXa := Lib.hid (show Below W1.heap.size W1 Xa from by rw [hXa]; exact below_drewN (Below.refl _ _) 1)
  rw [← hXa] at hHeld ⊢
  clear hXa
  refine wpAnyH_take (i := 1) (v := ?_) rfl (by kernel_rfl) (by kernel_rfl) (by kernel_rfl) (fun _ _ _ h => h) (Or.inl ⟨by rfl, ?_⟩) (by assumption) ?_
  rotate_left
  · intro w hSw; (try dsimp only at hSw); go_simp; (try with_reducible rfl)
  (try simp only [Act.put, pt8])
  refine wpAnyH_take (i := 3) (v := ?_) rfl (by kernel_rfl) (by kernel_rfl) (by kernel_rfl) (fun _ _ _ h => h) (Or.inl ⟨by rfl, ?_⟩) (by assumption) ?_
  rotate_left
  · intro w hSw; (try dsimp only at hSw); go_simp; (try with_reducible rfl)
  (try simp only [Act.put, pt8])
  refine wpAnyH_ready (rs := [0, 4]) (by kernel_rfl) (by simp) ?_
  refine AllReadyH.cons rfl (fun K hK => ?_) (AllReadyH.cons rfl (fun K hK => ?_) (AllReadyH.nil))
  · -- 0 first
    go_simp
    refine hK.out _ _ ⟨⟨kc (below_al HLXa.out (.cells #[] 102)) x0, kc (below_al HLXa.out (.cells #[] 102)) x1⟩, below_al HLXa.out (.cells #[] 102)⟩ (fun hHeld => ?_)
    clear hK K
    (try simp only [Act.put, pt8])
    obtain ⟨X0, hX0⟩ : ∃ W, W = Xa.alloc (.cells #[] 102) := ⟨_, rfl⟩
    have HLX0 := Lib.hid (show Below W1.heap.size W1 X0 from by rw [hX0]; exact below_al HLXa.out (.cells #[] 102))
    have HO := Lib.hid (show X0.ownsRow W1.heap.size 102 2 (.slice (some ⟨Xa.heap.size, 0, none⟩) 0 0) 0 [] from by rw [hX0]; exact World.ownsRow_lit (base := W1.heap.size) (e := 102) (size := 2) Xa #[] 0 HLXa.out.size (by decide) rfl)
    have HS0 := Lib.hid (show X0.heap.size = Xa.heap.size + 1 from by rw [hX0]; simp)
    rw [← hX0] at hHeld ⊢
    clear hX0
    refine wpAnyH_ready (rs := [2, 4]) (by kernel_rfl) (by simp) ?_
    refine AllReadyH.cons rfl (fun K hK => ?_) (AllReadyH.cons rfl (fun K hK => ?_) (AllReadyH.nil))
    · -- 2 first
      refine step_append_src (by rfl) _ _ _ (by rfl) W1.heap.size 102 i0 (.agg #[.int .i64 0, .int .i64 0]) 2 16 Try.underlying77 hi0 hz0 hz1 hz2 (by rfl) (by decide) _ 0 [] (by rfl) HO.out A b.length c (b.flatMap wrC) (by rfl) (fl_len wrC_len b) h0 (HSRC.out _ HLX0.out) (one_w b) (by unfold maxLen; omega) (by omega) HLX0.out.size (fun v1 w2 hown2 hg2 => ?_)
      simp only [Nat.zero_add, List.nil_append] at hown2
      have HLw2 := Lib.hid (below_append HLX0.out HO.out (Nat.le_refl _) HLX0.out.size hg2)
      replace HO := Lib.hid hown2
      clear hown2 hg2
      refine hK.out _ _ ⟨⟨kc (HLw2.out) x0, kc (HLw2.out) x1⟩, HLw2.out⟩ (fun hHeld => ?_)
      clear hK K
      (try simp only [Act.put, pt8])
      refine wpAnyH_ready (rs := [4]) (by kernel_rfl) (by simp) ?_
      refine AllReadyH.cons rfl (fun K hK => ?_) AllReadyH.nil
      go_simp
      refine hK.out _ _ ⟨⟨kc (below_al HLw2.out (.cells #[.int .i64 l, .int .i64 n] 102)) x0, kc (below_al HLw2.out (.cells #[.int .i64 l, .int .i64 n] 102)) x1⟩, below_al HLw2.out (.cells #[.int .i64 l, .int .i64 n] 102)⟩ (fun hHeld => ?_)
      clear hK K
      (try simp only [Act.put, pt8])
      obtain ⟨X4, hX4⟩ : ∃ W, W = w2.alloc (.cells #[.int .i64 l, .int .i64 n] 102) := ⟨_, rfl⟩
      have HLX4 := Lib.hid (show Below W1.heap.size W1 X4 from by rw [hX4]; exact below_al HLw2.out (.cells #[.int .i64 l, .int .i64 n] 102))
      have HF := Lib.hid (fun (j : Nat) (u : Value) (h : (wrC (⟨l, n⟩ : Wr))[j]? = some u) => (show X4.cell? ⟨w2.heap.size, j, none⟩ = some u from by
        have e := World.news_of_block (heap_alloc_new w2 (.cells #[.int .i64 l, .int .i64 n] 102)) j u h
        rw [Addr.add_lit, Nat.zero_add] at e
        rw [hX4]; exact e))
      have HS4 := Lib.hid (show X4.heap.size = w2.heap.size + 1 from by rw [hX4]; simp)
      replace HO := Lib.hid (own_below HO.out (show Below w2.heap.size w2 X4 from by rw [hX4]; exact below_al (Below.refl _ _) (.cells #[.int .i64 l, .int .i64 n] 102)))
      rw [← hX4] at hHeld ⊢
      clear hX4
      refine wpAnyH_ready (rs := [5]) (by kernel_rfl) (by simp) ?_
      refine AllReadyH.cons rfl (fun K hK => ?_) AllReadyH.nil
      refine step_append_src (by rfl) _ _ _ (by rfl) W1.heap.size 102 i0 (.agg #[.int .i64 0, .int .i64 0]) 2 16 Try.underlying77 hi0 hz0 hz1 hz2 (by rfl) (by decide) _ b.length (b.flatMap wrC) (by rfl) HO.out (some ⟨w2.heap.size, 0, none⟩) 1 1 (wrC (⟨l, n⟩ : Wr)) (by rfl) (by rfl) (fun c => (by cases c)) (fun ad e j u h => by injection e with e; rw [← e, Addr.add_lit, Nat.zero_add]; exact HF.out j u h) (by simp [wrC, Value.oneCell']) (by unfold maxLen; omega) (by omega) HLX4.out.size (fun v2 w5 hown5 hg5 => ?_)
      have HL5 := Lib.hid (below_append HLX4.out HO.out (Nat.le_refl _) HLX4.out.size hg5)
      have HO5 := Lib.hid hown5
      clear hown5 hg5 HF HO
      refine hK.out _ _ ⟨⟨kc (HL5.out) x0, kc (HL5.out) x1⟩, HL5.out⟩ (fun hHeld => ?_)
      clear hK K
      (try simp only [Act.put, pt8])
      refine wpAnyH_take (i := 6) (v := ?_) rfl (by kernel_rfl) (by kernel_rfl) (by kernel_rfl) (fun _ _ _ h => h) (Or.inl ⟨by rfl, ?_⟩) (by assumption) ?_
      rotate_left
      · intro w hSw; (try dsimp only at hSw); go_simp; (try with_reducible rfl)
      (try simp only [Act.put, pt8])
      refine wpAnyH_done (by kernel_rfl) ?_ _
      clear hHeld x0 x1
      obtain ⟨A8, c8, rfl⟩ := own_slice HO5.out
      go_wp2
      go_ret
      exact ⟨_, rfl, push_own HO5.out hB1.size, chain hB1 HL5.out⟩
    · -- 4 first
      go_simp
      refine hK.out _ _ ⟨⟨kc (below_al HLX0.out (.cells #[.int .i64 l, .int .i64 n] 102)) x0, kc (below_al HLX0.out (.cells #[.int .i64 l, .int .i64 n] 102)) x1⟩, below_al HLX0.out (.cells #[.int .i64 l, .int .i64 n] 102)⟩ (fun hHeld => ?_)
      clear hK K
      (try simp only [Act.put, pt8])
      obtain ⟨X4, hX4⟩ : ∃ W, W = X0.alloc (.cells #[.int .i64 l, .int .i64 n] 102) := ⟨_, rfl⟩
      have HLX4 := Lib.hid (show Below W1.heap.size W1 X4 from by rw [hX4]; exact below_al HLX0.out (.cells #[.int .i64 l, .int .i64 n] 102))
      have HF := Lib.hid (fun (j : Nat) (u : Value) (h : (wrC (⟨l, n⟩ : Wr))[j]? = some u) => (show X4.cell? ⟨X0.heap.size, j, none⟩ = some u from by
        have e := World.news_of_block (heap_alloc_new X0 (.cells #[.int .i64 l, .int .i64 n] 102)) j u h
        rw [Addr.add_lit, Nat.zero_add] at e
        rw [hX4]; exact e))
      have HS4 := Lib.hid (show X4.heap.size = X0.heap.size + 1 from by rw [hX4]; simp)
      replace HO := Lib.hid (own_below HO.out (show Below X0.heap.size X0 X4 from by rw [hX4]; exact below_al (Below.refl _ _) (.cells #[.int .i64 l, .int .i64 n] 102)))
      rw [← hX4] at hHeld ⊢
      clear hX4
      refine wpAnyH_ready (rs := [2]) (by kernel_rfl) (by simp) ?_
      refine AllReadyH.cons rfl (fun K hK => ?_) AllReadyH.nil
      refine step_append_src (by rfl) _ _ _ (by rfl) W1.heap.size 102 i0 (.agg #[.int .i64 0, .int .i64 0]) 2 16 Try.underlying77 hi0 hz0 hz1 hz2 (by rfl) (by decide) _ 0 [] (by rfl) HO.out A b.length c (b.flatMap wrC) (by rfl) (fl_len wrC_len b) h0 (HSRC.out _ HLX4.out) (one_w b) (by unfold maxLen; omega) (by omega) HLX4.out.size (fun v1 w2 hown2 hg2 => ?_)
      simp only [Nat.zero_add, List.nil_append] at hown2
      have HLw2 := Lib.hid (below_append HLX4.out HO.out (Nat.le_refl _) HLX4.out.size hg2)
      replace HF := Lib.hid (fun (j : Nat) (u : Value) (h : (wrC (⟨l, n⟩ : Wr))[j]? = some u) => hg2.cell (HF.out j u h) (show some X0.heap.size ≠ some Xa.heap.size from fun e => by injection e with e; have h3 := HS0.out; have h9 := HS4.out; omega))
      replace HO := Lib.hid hown2
      clear hown2 hg2
      refine hK.out _ _ ⟨⟨kc (HLw2.out) x0, kc (HLw2.out) x1⟩, HLw2.out⟩ (fun hHeld => ?_)
      clear hK K
      (try simp only [Act.put, pt8])
      refine wpAnyH_ready (rs := [5]) (by kernel_rfl) (by simp) ?_
      refine AllReadyH.cons rfl (fun K hK => ?_) AllReadyH.nil
      refine step_append_src (by rfl) _ _ _ (by rfl) W1.heap.size 102 i0 (.agg #[.int .i64 0, .int .i64 0]) 2 16 Try.underlying77 hi0 hz0 hz1 hz2 (by rfl) (by decide) _ b.length (b.flatMap wrC) (by rfl) HO.out (some ⟨X0.heap.size, 0, none⟩) 1 1 (wrC (⟨l, n⟩ : Wr)) (by rfl) (by rfl) (fun c => (by cases c)) (fun ad e j u h => by injection e with e; rw [← e, Addr.add_lit, Nat.zero_add]; exact HF.out j u h) (by simp [wrC, Value.oneCell']) (by unfold maxLen; omega) (by omega) HLw2.out.size (fun v2 w5 hown5 hg5 => ?_)
      have HL5 := Lib.hid (below_append HLw2.out HO.out (Nat.le_refl _) HLw2.out.size hg5)
      have HO5 := Lib.hid hown5
      clear hown5 hg5 HF HO
      refine hK.out _ _ ⟨⟨kc (HL5.out) x0, kc (HL5.out) x1⟩, HL5.out⟩ (fun hHeld => ?_)
      clear hK K
      (try simp only [Act.put, pt8])
      refine wpAnyH_take (i := 6) (v := ?_) rfl (by kernel_rfl) (by kernel_rfl) (by kernel_rfl) (fun _ _ _ h => h) (Or.inl ⟨by rfl, ?_⟩) (by assumption) ?_
      rotate_left
      · intro w hSw; (try dsimp only at hSw); go_simp; (try with_reducible rfl)
      (try simp only [Act.put, pt8])
      refine wpAnyH_done (by kernel_rfl) ?_ _
      clear hHeld x0 x1
      obtain ⟨A8, c8, rfl⟩ := own_slice HO5.out
      go_wp2
      go_ret
      exact ⟨_, rfl, push_own HO5.out hB1.size, chain hB1 HL5.out⟩
  · -- 4 first
    go_simp
    refine hK.out _ _ ⟨⟨kc (below_al HLXa.out (.cells #[.int .i64 l, .int .i64 n] 102)) x0, kc (below_al HLXa.out (.cells #[.int .i64 l, .int .i64 n] 102)) x1⟩, below_al HLXa.out (.cells #[.int .i64 l, .int .i64 n] 102)⟩ (fun hHeld => ?_)
    clear hK K
    (try simp only [Act.put, pt8])
    obtain ⟨X4, hX4⟩ : ∃ W, W = Xa.alloc (.cells #[.int .i64 l, .int .i64 n] 102) := ⟨_, rfl⟩
    have HLX4 := Lib.hid (show Below W1.heap.size W1 X4 from by rw [hX4]; exact below_al HLXa.out (.cells #[.int .i64 l, .int .i64 n] 102))
    have HF := Lib.hid (fun (j : Nat) (u : Value) (h : (wrC (⟨l, n⟩ : Wr))[j]? = some u) => (show X4.cell? ⟨Xa.heap.size, j, none⟩ = some u from by
      have e := World.news_of_block (heap_alloc_new Xa (.cells #[.int .i64 l, .int .i64 n] 102)) j u h
      rw [Addr.add_lit, Nat.zero_add] at e
      rw [hX4]; exact e))
    have HS4 := Lib.hid (show X4.heap.size = Xa.heap.size + 1 from by rw [hX4]; simp)
    rw [← hX4] at hHeld ⊢
    clear hX4
    refine wpAnyH_ready (rs := [0]) (by kernel_rfl) (by simp) ?_
    refine AllReadyH.cons rfl (fun K hK => ?_) AllReadyH.nil
    go_simp
    refine hK.out _ _ ⟨⟨kc (below_al HLX4.out (.cells #[] 102)) x0, kc (below_al HLX4.out (.cells #[] 102)) x1⟩, below_al HLX4.out (.cells #[] 102)⟩ (fun hHeld => ?_)
    clear hK K
    (try simp only [Act.put, pt8])
    obtain ⟨X0, hX0⟩ : ∃ W, W = X4.alloc (.cells #[] 102) := ⟨_, rfl⟩
    have HLX0 := Lib.hid (show Below W1.heap.size W1 X0 from by rw [hX0]; exact below_al HLX4.out (.cells #[] 102))
    have HO := Lib.hid (show X0.ownsRow W1.heap.size 102 2 (.slice (some ⟨X4.heap.size, 0, none⟩) 0 0) 0 [] from by rw [hX0]; exact World.ownsRow_lit (base := W1.heap.size) (e := 102) (size := 2) X4 #[] 0 HLX4.out.size (by decide) rfl)
    have HS0 := Lib.hid (show X0.heap.size = X4.heap.size + 1 from by rw [hX0]; simp)
    replace HF := Lib.hid (fun (j : Nat) (u : Value) (h : (wrC (⟨l, n⟩ : Wr))[j]? = some u) => (show X0.cell? ⟨Xa.heap.size, j, none⟩ = some u from by rw [hX0]; exact kc (below_al (Below.refl _ _) (.cells #[] 102)) (HF.out j u h)))
    rw [← hX0] at hHeld ⊢
    clear hX0
    refine wpAnyH_ready (rs := [2]) (by kernel_rfl) (by simp) ?_
    refine AllReadyH.cons rfl (fun K hK => ?_) AllReadyH.nil
    refine step_append_src (by rfl) _ _ _ (by rfl) W1.heap.size 102 i0 (.agg #[.int .i64 0, .int .i64 0]) 2 16 Try.underlying77 hi0 hz0 hz1 hz2 (by rfl) (by decide) _ 0 [] (by rfl) HO.out A b.length c (b.flatMap wrC) (by rfl) (fl_len wrC_len b) h0 (HSRC.out _ HLX0.out) (one_w b) (by unfold maxLen; omega) (by omega) HLX0.out.size (fun v1 w2 hown2 hg2 => ?_)
    simp only [Nat.zero_add, List.nil_append] at hown2
    have HLw2 := Lib.hid (below_append HLX0.out HO.out (Nat.le_refl _) HLX0.out.size hg2)
    replace HF := Lib.hid (fun (j : Nat) (u : Value) (h : (wrC (⟨l, n⟩ : Wr))[j]? = some u) => hg2.cell (HF.out j u h) (show some Xa.heap.size ≠ some X4.heap.size from fun e => by injection e with e; have h3 := HS0.out; have h9 := HS4.out; omega))
    replace HO := Lib.hid hown2
    clear hown2 hg2
    refine hK.out _ _ ⟨⟨kc (HLw2.out) x0, kc (HLw2.out) x1⟩, HLw2.out⟩ (fun hHeld => ?_)
    clear hK K
    (try simp only [Act.put, pt8])
    refine wpAnyH_ready (rs := [5]) (by kernel_rfl) (by simp) ?_
    refine AllReadyH.cons rfl (fun K hK => ?_) AllReadyH.nil
    refine step_append_src (by rfl) _ _ _ (by rfl) W1.heap.size 102 i0 (.agg #[.int .i64 0, .int .i64 0]) 2 16 Try.underlying77 hi0 hz0 hz1 hz2 (by rfl) (by decide) _ b.length (b.flatMap wrC) (by rfl) HO.out (some ⟨Xa.heap.size, 0, none⟩) 1 1 (wrC (⟨l, n⟩ : Wr)) (by rfl) (by rfl) (fun c => (by cases c)) (fun ad e j u h => by injection e with e; rw [← e, Addr.add_lit, Nat.zero_add]; exact HF.out j u h) (by simp [wrC, Value.oneCell']) (by unfold maxLen; omega) (by omega) HLw2.out.size (fun v2 w5 hown5 hg5 => ?_)
    have HL5 := Lib.hid (below_append HLw2.out HO.out (Nat.le_refl _) HLw2.out.size hg5)
    have HO5 := Lib.hid hown5
    clear hown5 hg5 HF HO
    refine hK.out _ _ ⟨⟨kc (HL5.out) x0, kc (HL5.out) x1⟩, HL5.out⟩ (fun hHeld => ?_)
    clear hK K
    (try simp only [Act.put, pt8])
    refine wpAnyH_take (i := 6) (v := ?_) rfl (by kernel_rfl) (by kernel_rfl) (by kernel_rfl) (fun _ _ _ h => h) (Or.inl ⟨by rfl, ?_⟩) (by assumption) ?_
    rotate_left
    · intro w hSw; (try dsimp only at hSw); go_simp; (try with_reducible rfl)
    (try simp only [Act.put, pt8])
    refine wpAnyH_done (by kernel_rfl) ?_ _
    clear hHeld x0 x1
    obtain ⟨A8, c8, rfl⟩ := own_slice HO5.out
    go_wp2
    go_ret
    exact ⟨_, rfl, push_own HO5.out hB1.size, chain hB1 HL5.out⟩
end Go.Proofs.Ytlpjgaeelnlipaa
namespace Go.Proofs.Ytlpjgaeelnlipaa
open Go.RowKit
set_option linter.unusedVariables false
set_option linter.unusedSimpArgs false
open CodM (St Pg rightP)
open BfM (Wr plc)
open ScM

set_option maxHeartbeats 8000000 in
set_option maxRecDepth 100000 in
theorem rtstepN_any {B : Nat} {v u : Value} {P : Pg} {s : Sta} (t : Int) (w : World) (hv : PgV B w v P) (hu : StaV B w u s) (hBB : B ≤ w.heap.size) (hp : rightP P = true) (ho : OkSt P s) (hw : WideS s) :
    Calls Try.prog 38 #[v, u, .agg #[.int .i64 t, .bool false]] w (TpRet P s t false w) := by
  have HOWN := Lib.hid (fun W (hW : Below w.heap.size w W) => rown_any W ((hu.below (hW.mono hBB)).more (Nat.le_trans hBB hW.size)) (Nat.le_refl _) hw)
  have HAT := Lib.hid (fun W (hW : Below w.heap.size w W) => rat_any t W ((hv.below (hW.mono hBB)).more (Nat.le_trans hBB hW.size)) ((hu.below (hW.mono hBB)).more (Nat.le_trans hBB hW.size)) (Nat.le_refl _) ho)
  have HST := Lib.hid (fun W (hW : Below w.heap.size w W) => refstep_any t W ((hv.below (hW.mono hBB)).more (Nat.le_trans hBB hW.size)) ((hu.below (hW.mono hBB)).more (Nat.le_trans hBB hW.size)) (Nat.le_refl _) hp ho hw)
  have HP := Lib.hid hp
  have HO := Lib.hid ho
  obtain ⟨pi, pt, rfl, hpm⟩ := hv
  obtain ⟨um, ut, rfl, hum⟩ := hu
  have hwm := hw.mem
  have HWR := Lib.hid hw.regs
  obtain ⟨⟨P0, d0, rfl, -⟩, ⟨P1, d1, rfl, -⟩⟩ := hpm
  have HUM := Lib.hid hum.1
  obtain ⟨⟨A7, c7, rfl, -⟩, ⟨A1, c1, rfl, m1, m2, -, m3⟩⟩ := hum
  have HM3 := Lib.hid m3
  unfold maxLen at m2
  clear hw m3 hp ho
  have HCO := Lib.hid (show Try.prog.cellsOf 33 = 2 from by kernel_rfl)
  obtain ⟨W3, hW3⟩ : ∃ W, W = (((w.alloc (.cells #[.slice P0 P.init.length d0, .slice P1 P.ths.length d1] 25)).alloc (.cells #[.slice A7 s.mem.length c7, .slice A1 s.ths.length c1] 33)).alloc (.cells #[.int .i64 t, .bool false] 52)).alloc (.cells #[.slice none 0 0, .slice none 0 0] 33) := ⟨_, rfl⟩
  obtain ⟨gp, hgp⟩ : ∃ g, g = w.heap.size := ⟨_, rfl⟩
  obtain ⟨gs, hgs⟩ : ∃ g, g = w.heap.size + 1 := ⟨_, rfl⟩
  obtain ⟨gk, hgk⟩ : ∃ g, g = w.heap.size + 1 + 1 := ⟨_, rfl⟩
  obtain ⟨gr, hgr⟩ : ∃ g, g = w.heap.size + 1 + 1 + 1 := ⟨_, rfl⟩
  have HX := Lib.hid (show BoxC W3 gp 25 #[.slice P0 P.init.length d0, .slice P1 P.ths.length d1] from by rw [hW3, hgp]; exact (((BoxC.new w 25 #[.slice P0 P.init.length d0, .slice P1 P.ths.length d1]).alloc (.cells #[.slice A7 s.mem.length c7, .slice A1 s.ths.length c1] 33)).alloc (.cells #[.int .i64 t, .bool false] 52)).alloc (.cells #[.slice none 0 0, .slice none 0 0] 33))
  have HY := Lib.hid (show BoxC W3 gs 33 #[.slice A7 s.mem.length c7, .slice A1 s.ths.length c1] from by rw [hW3, hgs]; have := ((BoxC.new (w.alloc (.cells #[.slice P0 P.init.length d0, .slice P1 P.ths.length d1] 25)) 33 #[.slice A7 s.mem.length c7, .slice A1 s.ths.length c1]).alloc (.cells #[.int .i64 t, .bool false] 52)).alloc (.cells #[.slice none 0 0, .slice none 0 0] 33); rw [World.size_alloc] at this; exact this)
  have HK := Lib.hid (show BoxC W3 gk 52 #[.int .i64 t, .bool false] from by rw [hW3, hgk]; have := (BoxC.new ((w.alloc (.cells #[.slice P0 P.init.length d0, .slice P1 P.ths.length d1] 25)).alloc (.cells #[.slice A7 s.mem.length c7, .slice A1 s.ths.length c1] 33)) 52 #[.int .i64 t, .bool false]).alloc (.cells #[.slice none 0 0, .slice none 0 0] 33); rw [World.size_alloc, World.size_alloc] at this; exact this)
  have HR := Lib.hid (show BoxC W3 gr 33 #[.slice none 0 0, .slice none 0 0] from by rw [hW3, hgr]; have := BoxC.new (((w.alloc (.cells #[.slice P0 P.init.length d0, .slice P1 P.ths.length d1] 25)).alloc (.cells #[.slice A7 s.mem.length c7, .slice A1 s.ths.length c1] 33)).alloc (.cells #[.int .i64 t, .bool false] 52)) 33 #[.slice none 0 0, .slice none 0 0]; rw [World.size_alloc, World.size_alloc, World.size_alloc] at this; exact this)
  have HB3 := Lib.hid (show Below w.heap.size w W3 from by rw [hW3]; exact below_al (below_al (below_al (below_al (Below.refl _ _) _) _) _) _)
  have HGR := Lib.hid (show w.heap.size ≤ gr from by omega)
  have y0 := HY.out.cell 0 _ rfl
  have y1 := HY.out.cell 1 _ rfl
  go_enter Try.func38, Try.ntmps38
  go_upto_region 1 with fail
  rw [← hW3]
  (try rw [← hgr])
  (try rw [← hgk])
  (try rw [← hgs])
  (try rw [← hgp])
  clear hW3 hgr hgs hgp hgk
  go_wp2_with fail
  refine (HOWN.out _ HB3.out).mono ?_
  rintro e w1 ⟨vm, vt, ps, rfl, hos, hb1⟩
  have HOS := Lib.hid hos
  have HB1 := Lib.hid hb1
  obtain ⟨Am, cm, rfl⟩ := own_slice hos.mem
  obtain ⟨Av, cv, rfl⟩ := own_slice hos.ths
  clear hos hb1 HOWN y0 y1
  go_upto_region 2 with fail
  obtain ⟨X1, hX1⟩ : ∃ W, W = w1.alloc (.cells #[.slice Am s.mem.length cm, .slice Av s.ths.length cv] 33) := ⟨_, rfl⟩
  obtain ⟨go, hgo⟩ : ∃ g, g = w1.heap.size := ⟨_, rfl⟩
  have HQ1 := Lib.hid (show BoxC X1 go 33 #[.slice Am s.mem.length cm, .slice Av s.ths.length cv] from by rw [hX1, hgo]; exact BoxC.new w1 _ _)
  have HL1 := Lib.hid (show Below w1.heap.size w1 X1 from by rw [hX1]; exact below_al (Below.refl _ _) _)
  have HL3 := Lib.hid (chain HB1.out HL1.out)
  have HGO := Lib.hid (show gs < go from by rw [hgo]; exact Nat.lt_of_lt_of_le HY.out.lt HB1.out.size)
  have HGO3 := Lib.hid (show W3.heap.size ≤ go from by rw [hgo]; exact HB1.out.size)
  replace HOS := Lib.hid (HOS.out.below HL1.out)
  rw [← hX1]
  (try rw [← hgo])
  clear hX1 hgo HL1 HB1
  have HRR := Lib.hid (HR.out.below HL3.out HR.out.lt)
  have HBF := Lib.hid (chain HB3.out HL3.out)
  have y1 := (HY.out.below HL3.out HY.out.lt).cell 1 _ rfl
  have k0 := (HK.out.below HL3.out HK.out.lt).cell 0 _ rfl
  have k1 := (HK.out.below HL3.out HK.out.lt).cell 1 _ rfl
  by_cases hr : 0 ≤ t ∧ t < (s.ths.length : Int)
  case neg =>
    have HFE := Lib.hid (show tst P s t false = none from by unfold tst; rw [thO_none hr]; cases atS P s t <;> rfl)
    by_cases h0 : t < 0
    · clear hr
      go_upto_region 4 with fail
      clear y1 k0 k1
      have y0 := HQ1.out.cell 0 _ rfl
      have y1 := HQ1.out.cell 1 _ rfl
      have r0 := HRR.out.cell 0 _ rfl
      have r1 := HRR.out.cell 1 _ rfl
      have f0 := HRR.out.frozen 0
      have f1 := HRR.out.frozen 1
      obtain ⟨W9, hW9⟩ : ∃ W, W = (X1.setCell ⟨gr, 0, none⟩ (.slice Am s.mem.length cm)).setCell ⟨gr, 1, none⟩ (.slice Av s.ths.length cv) := ⟨_, rfl⟩
      have HR9 := Lib.hid (show BoxC W9 gr 33 #[(.slice Am s.mem.length cm), (.slice Av s.ths.length cv)] from by rw [hW9]; exact (HRR.out.set 0 _).set 1 _)
      have HO9 := Lib.hid (show OwnSt W3.heap.size W9 (.slice Am s.mem.length cm) (.slice Av s.ths.length cv) (s) ps from by
        rw [hW9]
        exact (HOS.out.box HRR.out (by decide) (by decide) (by decide) 0 _).box (HRR.out.set 0 _) (by decide) (by decide) (by decide) 1 _)
      have HB9 := Lib.hid (show Below w.heap.size w W9 from by rw [hW9]; exact (HBF.out.setCell (p := ⟨gr, 0, none⟩) HGR.out _).setCell (p := ⟨gr, 1, none⟩) HGR.out _)
      have HW9 := Lib.hid hW9
      clear hW9
      go_wp2_with fail
      rw [← HW9.out]
      clear r0 r1 f0 f1
      have r0 := HR9.out.cell 0 _ rfl
      have r1 := HR9.out.cell 1 _ rfl
      have hz := HCO.out
      refine bodyPost_ret (v := .tuple #[.agg #[(.slice Am s.mem.length cm), (.slice Av s.ths.length cv)], .bool false]) (by simp [results, Try.results38, go_sem, r0, r1, hz]) rfl ⟨_, _, _, by rw [HFE.out]; rfl, (by rw [HFE.out]; exact HO9.out.base HB3.out.size), HB9.out⟩

    · have h1 : (s.ths.length : Int) ≤ t := by omega
      clear hr
      go_upto_region 4 with fail
      clear y1 k0 k1
      have y0 := HQ1.out.cell 0 _ rfl
      have y1 := HQ1.out.cell 1 _ rfl
      have r0 := HRR.out.cell 0 _ rfl
      have r1 := HRR.out.cell 1 _ rfl
      have f0 := HRR.out.frozen 0
      have f1 := HRR.out.frozen 1
      obtain ⟨W9, hW9⟩ : ∃ W, W = (X1.setCell ⟨gr, 0, none⟩ (.slice Am s.mem.length cm)).setCell ⟨gr, 1, none⟩ (.slice Av s.ths.length cv) := ⟨_, rfl⟩
      have HR9 := Lib.hid (show BoxC W9 gr 33 #[(.slice Am s.mem.length cm), (.slice Av s.ths.length cv)] from by rw [hW9]; exact (HRR.out.set 0 _).set 1 _)
      have HO9 := Lib.hid (show OwnSt W3.heap.size W9 (.slice Am s.mem.length cm) (.slice Av s.ths.length cv) (s) ps from by
        rw [hW9]
        exact (HOS.out.box HRR.out (by decide) (by decide) (by decide) 0 _).box (HRR.out.set 0 _) (by decide) (by decide) (by decide) 1 _)
      have HB9 := Lib.hid (show Below w.heap.size w W9 from by rw [hW9]; exact (HBF.out.setCell (p := ⟨gr, 0, none⟩) HGR.out _).setCell (p := ⟨gr, 1, none⟩) HGR.out _)
      have HW9 := Lib.hid hW9
      clear hW9
      go_wp2_with fail
      rw [← HW9.out]
      clear r0 r1 f0 f1
      have r0 := HR9.out.cell 0 _ rfl
      have r1 := HR9.out.cell 1 _ rfl
      have hz := HCO.out
      refine bodyPost_ret (v := .tuple #[.agg #[(.slice Am s.mem.length cm), (.slice Av s.ths.length cv)], .bool false]) (by simp [results, Try.results38, go_sem, r0, r1, hz]) rfl ⟨_, _, _, by rw [HFE.out]; rfl, (by rw [HFE.out]; exact HO9.out.base HB3.out.size), HB9.out⟩

  obtain ⟨hr1, hr2⟩ := hr
  obtain ⟨k, rfl⟩ : ∃ k : Nat, t = k := ⟨t.toNat, by omega⟩
  have hks : k < s.ths.length := by omega
  obtain ⟨b1, f1, rfl, hb1, hc1⟩ := HM3.out (by omega)
  obtain ⟨vr, vb, -, b2, -, b3, hRg, hW⟩ := hc1 k hks
  have HPK := Lib.hid (HOS.out.pk hks)
  have y0 := (HY.out.below HL3.out HY.out.lt).cell 0 _ rfl
  have x0 := (HX.out.below HL3.out HX.out.lt).cell 0 _ rfl
  have x1 := (HX.out.below HL3.out HX.out.lt).cell 1 _ rfl
  go_upto_region 12 with fail
  go_wp2_with fail
  refine (HAT.out _ HBF.out).mono ?_
  rintro e w2 ⟨rfl, hb2⟩
  have HB2 := Lib.hid hb2
  clear hb2 y0 y1 x0 x1 k0 k1 HAT
  cases hat : atS P s (k : Int) with
  | none =>
    have HFE := Lib.hid (show tst P s (k : Int) false = none from by unfold tst; rw [hat]; rfl)
    have HRE := Lib.hid (show atV P s (k : Int) = .tuple #[stV ⟨0, 0, 0, 0, 0⟩, .bool false] from by unfold atV; rw [hat])
    clear hat
    rw [HRE.out]
    unfold stV
    go_upto_region 13 with fail
    obtain ⟨X2, hX2⟩ : ∃ W, W = w2.alloc (.cells #[.int .i64 0, .int .i64 0, .int .i64 0, .int .i64 0, .int .i64 0] 39) := ⟨_, rfl⟩
    have HL2 := Lib.hid (show Below X1.heap.size X1 X2 from by rw [hX2]; exact below_al HB2.out _)
    rw [← hX2]
    clear hX2
    have y1 := ((HY.out.below HL3.out HY.out.lt).below HL2.out (HY.out.below HL3.out HY.out.lt).lt).cell 1 _ rfl
    have HC3 := Lib.hid b3
    replace b3 := ((chain HBF.out HL2.out |>.mono hBB).cell (p := ⟨b1, f1 + k * 4 + 3, none⟩) hb1).trans b3
    obtain ⟨Ab, cb, hW1, -⟩ := hW
    rw [hW1] at b3
    have HRR := Lib.hid (HRR.out.below HL2.out HRR.out.lt)
    have HQ2 := Lib.hid (HQ1.out.below HL2.out HQ1.out.lt)
    have z0 := HQ2.out.cell 0 _ rfl
    have z1 := HQ2.out.cell 1 _ rfl
    by_cases hbl : 0 < s.ths[k].buf.length
    · go_upto_region 15 with fail
      clear y1 b3
      have r0 := HRR.out.cell 0 _ rfl
      have r1 := HRR.out.cell 1 _ rfl
      have f0 := HRR.out.frozen 0
      have f1 := HRR.out.frozen 1
      obtain ⟨W9, hW9⟩ : ∃ W, W = (X2.setCell ⟨gr, 0, none⟩ (.slice Am s.mem.length cm)).setCell ⟨gr, 1, none⟩ (.slice Av s.ths.length cv) := ⟨_, rfl⟩
      have HR9 := Lib.hid (show BoxC W9 gr 33 #[(.slice Am s.mem.length cm), (.slice Av s.ths.length cv)] from by rw [hW9]; exact (HRR.out.set 0 _).set 1 _)
      have HO9 := Lib.hid (show OwnSt W3.heap.size W9 (.slice Am s.mem.length cm) (.slice Av s.ths.length cv) (s) ps from by
        rw [hW9]
        exact ((HOS.out.below HL2.out).box HRR.out (by decide) (by decide) (by decide) 0 _).box (HRR.out.set 0 _) (by decide) (by decide) (by decide) 1 _)
      have HB9 := Lib.hid (show Below w.heap.size w W9 from by rw [hW9]; exact ((chain HBF.out HL2.out).setCell (p := ⟨gr, 0, none⟩) HGR.out _).setCell (p := ⟨gr, 1, none⟩) HGR.out _)
      have HW9 := Lib.hid hW9
      clear hW9
      go_wp2_with fail
      rw [← HW9.out]
      clear r0 r1 f0 f1
      have r0 := HR9.out.cell 0 _ rfl
      have r1 := HR9.out.cell 1 _ rfl
      have hz := HCO.out
      refine bodyPost_ret (v := .tuple #[.agg #[(.slice Am s.mem.length cm), (.slice Av s.ths.length cv)], .bool false]) (by simp [results, Try.results38, go_sem, r0, r1, hz]) rfl ⟨_, _, _, by rw [HFE.out]; rfl, (by rw [HFE.out]; exact HO9.out.base HB3.out.size), HB9.out⟩

    · go_upto_region 15 with fail
      clear y1 b3
      have r0 := HRR.out.cell 0 _ rfl
      have r1 := HRR.out.cell 1 _ rfl
      have f0 := HRR.out.frozen 0
      have f1 := HRR.out.frozen 1
      obtain ⟨W9, hW9⟩ : ∃ W, W = (X2.setCell ⟨gr, 0, none⟩ (.slice Am s.mem.length cm)).setCell ⟨gr, 1, none⟩ (.slice Av s.ths.length cv) := ⟨_, rfl⟩
      have HR9 := Lib.hid (show BoxC W9 gr 33 #[(.slice Am s.mem.length cm), (.slice Av s.ths.length cv)] from by rw [hW9]; exact (HRR.out.set 0 _).set 1 _)
      have HO9 := Lib.hid (show OwnSt W3.heap.size W9 (.slice Am s.mem.length cm) (.slice Av s.ths.length cv) (s) ps from by
        rw [hW9]
        exact ((HOS.out.below HL2.out).box HRR.out (by decide) (by decide) (by decide) 0 _).box (HRR.out.set 0 _) (by decide) (by decide) (by decide) 1 _)
      have HB9 := Lib.hid (show Below w.heap.size w W9 from by rw [hW9]; exact ((chain HBF.out HL2.out).setCell (p := ⟨gr, 0, none⟩) HGR.out _).setCell (p := ⟨gr, 1, none⟩) HGR.out _)
      have HW9 := Lib.hid hW9
      clear hW9
      go_wp2_with fail
      rw [← HW9.out]
      clear r0 r1 f0 f1
      have r0 := HR9.out.cell 0 _ rfl
      have r1 := HR9.out.cell 1 _ rfl
      have hz := HCO.out
      refine bodyPost_ret (v := .tuple #[.agg #[(.slice Am s.mem.length cm), (.slice Av s.ths.length cv)], .bool false]) (by simp [results, Try.results38, go_sem, r0, r1, hz]) rfl ⟨_, _, _, by rw [HFE.out]; rfl, (by rw [HFE.out]; exact HO9.out.base HB3.out.size), HB9.out⟩

  | some x =>
    obtain ⟨k', hkk, h1, h2, h3, hx⟩ := atS_some hat
    have hkk' : k = k' := by omega
    subst hkk'
    have HAE := Lib.hid hat
    have HRE := Lib.hid (show atV P s (k : Int) = .tuple #[stV x, .bool true] from by unfold atV; rw [hat])
    have HSE := Lib.hid (show stp P s (k : Int) = ⟨stM x s.mem s.ths[k].regs, s.ths.set k (stT x s.mem s.ths[k])⟩ from by rw [stp_at h1 h2 h3, ← hx])
    have HFE := Lib.hid (show tst P s (k : Int) false = if stuck x s.ths[k] then none else some (tsS x s k s.ths[k]) from by unfold tst; rw [hat, thO_at hks]; rfl)
    obtain ⟨ln, HPX⟩ : ∃ ln, Hid (StP s.mem.length ln s.ths[k].at'.toNat x) := ⟨_, Lib.hid (by rw [HO.out.mem, hx]; exact stp_of HP.out h2 h3)⟩
    have HXR := Lib.hid (show s.ths[k].regs.length = 4 from (HO.out.th k h1 h2).regs)
    have HVW := Lib.hid (fun W (hW' : Below w.heap.size w W) => rview_any x.loc W ((hW.below (hW'.mono hBB)).more (Nat.le_trans hBB hW'.size)) ((HUM.out.below (hW'.mono hBB)).more (Nat.le_trans hBB hW'.size)) (Nat.le_refl _) (by have := (HWR.out _ (List.getElem_mem hks)).2; omega) (by omega))
    have HPU := Lib.hid (fun W (y : Wr) (hW' : Below w.heap.size w W) => rpush_any y W ((hW.below (hW'.mono hBB)).more (Nat.le_trans hBB hW'.size)) (Nat.le_refl _) (by have := (HWR.out _ (List.getElem_mem hks)).2; omega))
    generalize s.ths[k] = h at *
    clear hat h1 h2 h3 hx hkk hc1
    obtain ⟨xa, xr, xe, xb⟩ := h
    obtain ⟨Ab, cb, rfl, -⟩ := hW
    obtain ⟨op, rg, lc, nn, tn⟩ := x
    dsimp only at *
    rw [HRE.out]
    unfold stV
    dsimp only
    go_upto_region 13 with fail
    obtain ⟨X2, hX2⟩ : ∃ W, W = w2.alloc (.cells #[.int .i64 op, .int .i64 rg, .int .i64 lc, .int .i64 nn, .int .i64 tn] 39) := ⟨_, rfl⟩
    obtain ⟨g9, hg9⟩ : ∃ g, g = w2.heap.size := ⟨_, rfl⟩
    have HQ9 := Lib.hid (show BoxC X2 g9 39 #[.int .i64 op, .int .i64 rg, .int .i64 lc, .int .i64 nn, .int .i64 tn] from by rw [hX2, hg9]; exact BoxC.new w2 _ _)
    have HL2 := Lib.hid (show Below X1.heap.size X1 X2 from by rw [hX2]; exact below_al HB2.out _)
    have HG9 := Lib.hid (show X1.heap.size ≤ g9 from by rw [hg9]; exact HB2.out.size)
    rw [← hX2]
    (try rw [← hg9])
    clear hX2 hg9 HB2
    have y1 := ((HY.out.below HL3.out HY.out.lt).below HL2.out (HY.out.below HL3.out HY.out.lt).lt).cell 1 _ rfl
    have HC3 := Lib.hid b3
    replace b3 := ((chain HBF.out HL2.out |>.mono hBB).cell (p := ⟨b1, f1 + k * 4 + 3, none⟩) hb1).trans b3
    replace HRR := Lib.hid (HRR.out.below HL2.out HRR.out.lt)
    replace HQ1 := Lib.hid (HQ1.out.below HL2.out HQ1.out.lt)
    have z0 := HQ1.out.cell 0 _ rfl
    have z1 := HQ1.out.cell 1 _ rfl
    have p0 := HQ9.out.cell 0 _ rfl
    by_cases hbl : 0 < xb.length
    · have hne : xb.isEmpty = false := by cases xb with
        | nil => exact absurd hbl (by simp)
        | cons _ _ => rfl
      by_cases h6 : op = 6
      · have HF2 := Lib.hid (show tst P s (k : Int) false = none from by rw [HFE.out, if_pos (by simp [stuck, hne, h6])])
        clear HFE hne
        subst h6
        go_upto_region 15 with fail
        clear y1 b3 p0
        have r0 := HRR.out.cell 0 _ rfl
        have r1 := HRR.out.cell 1 _ rfl
        have f0 := HRR.out.frozen 0
        have f1 := HRR.out.frozen 1
        obtain ⟨W9, hW9⟩ : ∃ W, W = (X2.setCell ⟨gr, 0, none⟩ (.slice Am s.mem.length cm)).setCell ⟨gr, 1, none⟩ (.slice Av s.ths.length cv) := ⟨_, rfl⟩
        have HR9 := Lib.hid (show BoxC W9 gr 33 #[(.slice Am s.mem.length cm), (.slice Av s.ths.length cv)] from by rw [hW9]; exact (HRR.out.set 0 _).set 1 _)
        have HO9 := Lib.hid (show OwnSt W3.heap.size W9 (.slice Am s.mem.length cm) (.slice Av s.ths.length cv) (s) ps from by
          rw [hW9]
          exact ((HOS.out.below HL2.out).box HRR.out (by decide) (by decide) (by decide) 0 _).box (HRR.out.set 0 _) (by decide) (by decide) (by decide) 1 _)
        have HB9 := Lib.hid (show Below w.heap.size w W9 from by rw [hW9]; exact ((chain HBF.out HL2.out).setCell (p := ⟨gr, 0, none⟩) HGR.out _).setCell (p := ⟨gr, 1, none⟩) HGR.out _)
        have HW9 := Lib.hid hW9
        clear hW9
        go_wp2_with fail
        rw [← HW9.out]
        clear r0 r1 f0 f1
        have r0 := HR9.out.cell 0 _ rfl
        have r1 := HR9.out.cell 1 _ rfl
        have hz := HCO.out
        refine bodyPost_ret (v := .tuple #[.agg #[(.slice Am s.mem.length cm), (.slice Av s.ths.length cv)], .bool false]) (by simp [results, Try.results38, go_sem, r0, r1, hz]) rfl ⟨_, _, _, by rw [HF2.out]; rfl, (by rw [HF2.out]; exact HO9.out.base HB3.out.size), HB9.out⟩

      by_cases h5 : op = 5
      · have HF2 := Lib.hid (show tst P s (k : Int) false = none from by rw [HFE.out, if_pos (by simp [stuck, hne, h5])])
        clear HFE hne
        subst h5
        go_upto_region 15 with fail
        clear y1 b3 p0
        have r0 := HRR.out.cell 0 _ rfl
        have r1 := HRR.out.cell 1 _ rfl
        have f0 := HRR.out.frozen 0
        have f1 := HRR.out.frozen 1
        obtain ⟨W9, hW9⟩ : ∃ W, W = (X2.setCell ⟨gr, 0, none⟩ (.slice Am s.mem.length cm)).setCell ⟨gr, 1, none⟩ (.slice Av s.ths.length cv) := ⟨_, rfl⟩
        have HR9 := Lib.hid (show BoxC W9 gr 33 #[(.slice Am s.mem.length cm), (.slice Av s.ths.length cv)] from by rw [hW9]; exact (HRR.out.set 0 _).set 1 _)
        have HO9 := Lib.hid (show OwnSt W3.heap.size W9 (.slice Am s.mem.length cm) (.slice Av s.ths.length cv) (s) ps from by
          rw [hW9]
          exact ((HOS.out.below HL2.out).box HRR.out (by decide) (by decide) (by decide) 0 _).box (HRR.out.set 0 _) (by decide) (by decide) (by decide) 1 _)
        have HB9 := Lib.hid (show Below w.heap.size w W9 from by rw [hW9]; exact ((chain HBF.out HL2.out).setCell (p := ⟨gr, 0, none⟩) HGR.out _).setCell (p := ⟨gr, 1, none⟩) HGR.out _)
        have HW9 := Lib.hid hW9
        clear hW9
        go_wp2_with fail
        rw [← HW9.out]
        clear r0 r1 f0 f1
        have r0 := HR9.out.cell 0 _ rfl
        have r1 := HR9.out.cell 1 _ rfl
        have hz := HCO.out
        refine bodyPost_ret (v := .tuple #[.agg #[(.slice Am s.mem.length cm), (.slice Av s.ths.length cv)], .bool false]) (by simp [results, Try.results38, go_sem, r0, r1, hz]) rfl ⟨_, _, _, by rw [HF2.out]; rfl, (by rw [HF2.out]; exact HO9.out.base HB3.out.size), HB9.out⟩

      have HF2 := Lib.hid (show tst P s (k : Int) false = some (tsS ⟨op, rg, lc, nn, tn⟩ s k ⟨xa, xr, xe, xb⟩) from by rw [HFE.out, if_neg (by simp [stuck, h5, h6])])
      have e6 : ¬ ((op == 6) = true) := by simpa using h6
      have e5 : ¬ ((op == 5) = true) := by simpa using h5
      go_upto_region 16 with fail
      clear y1 b3 p0 z0 z1 HFE hne h5 h6 e6 e5 hbl
      have HBX := Lib.hid (chain HBF.out HL2.out)
      have x0 := ((HX.out.below HL3.out HX.out.lt).below HL2.out (HX.out.below HL3.out HX.out.lt).lt).cell 0 _ rfl
      have x1 := ((HX.out.below HL3.out HX.out.lt).below HL2.out (HX.out.below HL3.out HX.out.lt).lt).cell 1 _ rfl
      have y0 := ((HY.out.below HL3.out HY.out.lt).below HL2.out (HY.out.below HL3.out HY.out.lt).lt).cell 0 _ rfl
      have y1 := ((HY.out.below HL3.out HY.out.lt).below HL2.out (HY.out.below HL3.out HY.out.lt).lt).cell 1 _ rfl
      go_wp2_with fail
      refine (HST.out _ HBX.out).mono ?_
      rintro e w3 ⟨vm2, vt2, ps2, rfl, hos2, hb3⟩
      rw [HAE.out]
      rw [HSE.out] at hos2
      obtain ⟨Mn, mn, rfl⟩ := own_slice (n := s.mem.length) (show w3.ownsRow _ _ 1 vm2 s.mem.length _ from by have e := hos2.mem; unfold OwnI at e; rwa [stM_len] at e)
      obtain ⟨Vn, vn, rfl⟩ := own_slice (n := s.ths.length) (by have e := hos2.ths; rwa [List.length_set] at e)
      have HO2 := Lib.hid hos2
      have HB4 := Lib.hid hb3
      clear hos2 hb3 x0 x1 y0 y1 HST
      go_upto_region 17 with fail
      obtain ⟨X4, hX4⟩ : ∃ W, W = w3.alloc (.cells #[.slice Mn s.mem.length mn, .slice Vn s.ths.length vn] 33) := ⟨_, rfl⟩
      obtain ⟨gn, hgn⟩ : ∃ g, g = w3.heap.size := ⟨_, rfl⟩
      have HN := Lib.hid (show BoxC X4 gn 33 #[.slice Mn s.mem.length mn, .slice Vn s.ths.length vn] from by rw [hX4, hgn]; exact BoxC.new w3 _ _)
      have HL4 := Lib.hid (show Below X2.heap.size X2 X4 from by rw [hX4]; exact below_al HB4.out _)
      have HO4 := Lib.hid (show OwnSt X2.heap.size X4 (.slice Mn s.mem.length mn) (.slice Vn s.ths.length vn) ⟨stM ⟨op, rg, lc, nn, tn⟩ s.mem xr, s.ths.set k (stT ⟨op, rg, lc, nn, tn⟩ s.mem ⟨xa, xr, xe, xb⟩)⟩ ps2 from by rw [hX4]; exact HO2.out.below (below_al (Below.refl _ _) _))
      have HGN := Lib.hid (show X2.heap.size ≤ gn from by rw [hgn]; exact HB4.out.size)
      rw [← hX4]
      (try rw [← hgn])
      clear hX4 hgn HO2 HB4
      replace HQ9 := Lib.hid (HQ9.out.below HL4.out HQ9.out.lt)
      replace HRR := Lib.hid (HRR.out.below HL4.out HRR.out.lt)
      replace HQ1 := Lib.hid (HQ1.out.below HL4.out HQ1.out.lt)
      replace HBX := Lib.hid (chain HBX.out HL4.out)
      have p0 := HQ9.out.cell 0 _ rfl
      by_cases h2 : op = 2
      · subst h2
        have HPR := Lib.hid (HPX.out.reg (by rfl))
        have HF3 := Lib.hid (show tsS ⟨2, rg, lc, nn, tn⟩ s k ⟨xa, xr, xe, xb⟩ = ⟨s.mem, s.ths.set k ⟨xa + 1, xr.set rg.toNat ((BfM.view xb s.mem lc).getD 0), xe, xb⟩⟩ from by unfold tsS; rw [if_pos rfl])
        obtain ⟨n9, b9, HVV⟩ : ∃ n b, Hid (viewV xb s.mem lc = .tuple #[.int .i64 n, .bool b] ∧ n = (BfM.view xb s.mem lc).getD 0) := by
          unfold viewV
          cases BfM.view xb s.mem lc with
          | none => exact ⟨0, false, Lib.hid ⟨rfl, rfl⟩⟩
          | some n => exact ⟨n, true, Lib.hid ⟨rfl, rfl⟩⟩
        have y0 := (((HY.out.below HL3.out HY.out.lt).below HL2.out (HY.out.below HL3.out HY.out.lt).lt).below HL4.out ((HY.out.below HL3.out HY.out.lt).below HL2.out (HY.out.below HL3.out HY.out.lt).lt).lt).cell 0 _ rfl
        have y1 := (((HY.out.below HL3.out HY.out.lt).below HL2.out (HY.out.below HL3.out HY.out.lt).lt).below HL4.out ((HY.out.below HL3.out HY.out.lt).below HL2.out (HY.out.below HL3.out HY.out.lt).lt).lt).cell 1 _ rfl
        have b3 := ((HBX.out.mono hBB).cell (p := ⟨b1, f1 + k * 4 + 3, none⟩) hb1).trans HC3.out
        have p2 := HQ9.out.cell 2 _ rfl
        go_upto_region 19 with fail
        refine wp_region_held_drew (S := (fun w' => w'.cell? ⟨gs, 0, none⟩ = some (.slice A7 s.mem.length c7) ∧ w'.cell? ⟨gs, 1, none⟩ = some (.slice (some ⟨b1, f1, none⟩) s.ths.length c1) ∧ w'.cell? ⟨b1, f1 + k * 4 + 3, none⟩ = some (.slice Ab xb.length cb) ∧ w'.cell? ⟨g9, 2, none⟩ = some (.int .i64 lc) ∧ Below X4.heap.size X4 w')) (by kernel_rfl) ⟨y0, y1, b3, p2, below_drewN (Below.refl _ _) 1⟩ (fun hHeld => ?_)
        obtain ⟨Xs, hXs⟩ : ∃ W, W = X4.drew := ⟨_, rfl⟩
        rw [← hXs] at hHeld ⊢
        clear hXs
        refine wpAnyH_take (i := 0) (v := ?_) rfl (by kernel_rfl) (by kernel_rfl) (by kernel_rfl) (fun _ _ _ h => h) (Or.inl ⟨by rfl, ?_⟩) (by assumption) ?_
        rotate_left
        · intro w hSw; (try dsimp only at hSw); go_simp; (try with_reducible rfl)
        (try simp only [Act.put, pt8])
        refine wpAnyH_take (i := 1) (v := ?_) rfl (by kernel_rfl) (by kernel_rfl) (by kernel_rfl) (fun _ _ _ h => h) (Or.inl ⟨by rfl, ?_⟩) (by assumption) ?_
        rotate_left
        · intro w hSw; (try dsimp only at hSw); go_simp; (try with_reducible rfl)
        (try simp only [Act.put, pt8])
        refine wpAnyH_take (i := 2) (v := ?_) rfl (by kernel_rfl) (by kernel_rfl) (by kernel_rfl) (fun _ _ _ h => h) (Or.inl ⟨by rfl, ?_⟩) (by assumption) ?_
        rotate_left
        · intro w hSw; (try dsimp only at hSw); go_simp; (try with_reducible rfl)
        (try simp only [Act.put, pt8])
        refine wpAnyH_take (i := 3) (v := ?_) rfl (by kernel_rfl) (by kernel_rfl) (by kernel_rfl) (fun _ _ _ h => h) (Or.inl ⟨by rfl, ?_⟩) (by assumption) ?_
        rotate_left
        · intro w hSw; (try dsimp only at hSw); go_simp; (try with_reducible rfl)
        (try simp only [Act.put, pt8])
        refine wpAnyH_take (i := 4) (v := ?_) rfl (by kernel_rfl) (by kernel_rfl) (by kernel_rfl) (fun _ _ _ h => h) (Or.inl ⟨by rfl, ?_⟩) (by assumption) ?_
        rotate_left
        · intro w hSw; (try dsimp only at hSw); go_simp; (try with_reducible rfl)
        (try simp only [Act.put, pt8])
        refine wpAnyH_take (i := 5) (v := ?_) rfl (by kernel_rfl) (by kernel_rfl) (by kernel_rfl) (fun _ _ _ h => h) (Or.inl ⟨by rfl, ?_⟩) (by assumption) ?_
        rotate_left
        · intro w hSw; (try dsimp only at hSw); go_simp; (try with_reducible rfl)
        (try simp only [Act.put, pt8])
        refine wpAnyH_take (i := 6) (v := ?_) rfl (by kernel_rfl) (by kernel_rfl) (by kernel_rfl) (fun _ _ _ h => h) (Or.inl ⟨by rfl, ?_⟩) (by assumption) ?_
        rotate_left
        · intro w hSw; (try dsimp only at hSw); go_simp; (try with_reducible rfl)
        (try simp only [Act.put, pt8])
        refine wpAnyH_take (i := 7) (v := ?_) rfl (by kernel_rfl) (by kernel_rfl) (by kernel_rfl) (fun _ _ _ h => h) (Or.inl ⟨by rfl, ?_⟩) (by assumption) ?_
        rotate_left
        · intro w hSw; (try dsimp only at hSw); go_simp; (try with_reducible rfl)
        (try simp only [Act.put, pt8])
        refine wpAnyH_take (i := 8) (v := ?_) rfl (by kernel_rfl) (by kernel_rfl) (by kernel_rfl) (fun _ _ _ h => h) (Or.inl ⟨by rfl, ?_⟩) (by assumption) ?_
        rotate_left
        · intro w hSw; (try dsimp only at hSw); go_simp; (try with_reducible rfl)
        (try simp only [Act.put, pt8])
        refine wpAnyH_take (i := 9) (v := ?_) rfl (by kernel_rfl) (by kernel_rfl) (by kernel_rfl) (fun _ _ _ h => h) (Or.inl ⟨by rfl, ?_⟩) (by assumption) ?_
        rotate_left
        · intro w hSw; (try dsimp only at hSw); go_simp; (try with_reducible rfl)
        (try simp only [Act.put, pt8])
        refine wpAnyH_ready (rs := [10]) (by kernel_rfl) (by simp) ?_
        refine AllReadyH.cons rfl (fun K hK => ?_) AllReadyH.nil
        obtain ⟨q0, q1, q2, q3, q4⟩ := hHeld
        go_simp
        refine (HVW.out _ (chain HBX.out q4)).mono ?_
        rintro e X5 ⟨rfl, hb⟩
        rw [HVV.out.1]
        have HB5 := Lib.hid (show Below X4.heap.size X4 X5 from chain q4 hb)
        refine hK.out _ _ ⟨kc hb q0, kc hb q1, kc hb q2, kc hb q3, chain q4 hb⟩ (fun hHeld => ?_)
        clear q0 q1 q2 q3 q4
        clear hK K
        (try simp only [Act.put, pt8])
        clear hb
        refine wpAnyH_take (i := 11) (v := ?_) rfl (by kernel_rfl) (by kernel_rfl) (by kernel_rfl) (fun _ _ _ h => h) (Or.inl ⟨by rfl, ?_⟩) (by assumption) ?_
        rotate_left
        · intro w hSw; (try dsimp only at hSw); go_simp; (try with_reducible rfl)
        (try simp only [Act.put, pt8])
        refine wpAnyH_take (i := 12) (v := ?_) rfl (by kernel_rfl) (by kernel_rfl) (by kernel_rfl) (fun _ _ _ h => h) (Or.inl ⟨by rfl, ?_⟩) (by assumption) ?_
        rotate_left
        · intro w hSw; (try dsimp only at hSw); go_simp; (try with_reducible rfl)
        (try simp only [Act.put, pt8])
        refine wpAnyH_take (i := 13) (v := ?_) rfl (by kernel_rfl) (by kernel_rfl) (by kernel_rfl) (fun _ _ _ h => h) (Or.inl ⟨by rfl, ?_⟩) (by assumption) ?_
        rotate_left
        · intro w hSw; (try dsimp only at hSw); go_simp; (try with_reducible rfl)
        (try simp only [Act.put, pt8])
        refine wpAnyH_ready (rs := [14]) (by kernel_rfl) (by simp) ?_
        refine AllReadyH.cons rfl (fun K hK => ?_) AllReadyH.nil
        go_simp
        refine hK.out _ _ hHeld (fun hHeld => ?_)
        clear hK K
        (try simp only [Act.put, pt8])
        refine wpAnyH_ready (rs := [15]) (by kernel_rfl) (by simp) ?_
        refine AllReadyH.cons rfl (fun K hK => ?_) AllReadyH.nil
        go_simp
        refine hK.out _ _ hHeld (fun hHeld => ?_)
        clear hK K
        (try simp only [Act.put, pt8])
        refine wpAnyH_done (by kernel_rfl) ?_ _
        clear hHeld y0 y1 b3 p0 p2
        obtain ⟨j, rfl⟩ : ∃ j : Nat, rg = j := ⟨rg.toNat, by have := HPR.out.1; dsimp only at this; omega⟩
        have hj4 : j < xr.length := by have h := HPR.out.2; have h' := HXR.out; dsimp only at h h'; omega
        have HT := Lib.hid (show stT ⟨2, (j : Int), lc, nn, tn⟩ s.mem ⟨xa, xr, xe, xb⟩ = ⟨xa + 1, xr.set j (nth s.mem lc), xe, xb⟩ from by simp [stT, stR, stE, jumps])
        have HM := Lib.hid (show ScM.stM ⟨2, (j : Int), lc, nn, tn⟩ s.mem xr = s.mem from by simp [ScM.stM])
        have HO5 := Lib.hid (HO4.out.below HB5.out)
        have HN5 := Lib.hid (HN.out.below HB5.out HN.out.lt)
        have HQ95 := Lib.hid (HQ9.out.below HB5.out HQ9.out.lt)
        have HRR5 := Lib.hid (HRR.out.below HB5.out HRR.out.lt)
        rw [HM.out] at HO5
        obtain ⟨vr2, vb2, hpk⟩ := HO5.out.pk (k := k) (by simpa using hks)
        simp only [List.getElem_set_self] at hpk
        obtain ⟨hkp, hpe⟩ := List.getElem?_eq_some_iff.1 hpk
        obtain ⟨gt, cv', cur, hev, hgt, hbv, t0, t1, t2, t3⟩ := HO5.out.row hkp
        rw [List.length_set] at hev
        injection hev with hev1 hev3 hev2
        clear hev3
        subst hev1 hev2
        rw [hpe] at t1 t3
        have HPK' := Lib.hid hpk
        have HOE := Lib.hid (HO5.out.each _ (List.getElem_mem hkp))
        rw [hpe] at HOE
        have HBV := Lib.hid hbv
        have HGT := Lib.hid hgt
        clear hpk hbv hgt hpe t0 t2
        dsimp only at HOE
        rw [HT.out] at HOE HPK'
        rw [HT.out] at HO5
        obtain ⟨gv, cr, curr, hvr, hgv, hbr, hcr⟩ := own_nu (l := xr.set j (nth s.mem lc)) HOE.out.1 (j := j) (by simpa using hj4)
        subst hvr
        have HBR := Lib.hid hbr
        have HGV := Lib.hid hgv
        have HCR := Lib.hid hcr
        clear hbr hgv hcr t3
        have HN1 := Lib.hid (HBV.out.unlike HBR.out (by decide))
        have HN2 := Lib.hid (HQ95.out.unlike HBR.out (by decide))
        have HN3 := Lib.hid (HN5.out.unlike HBR.out (by decide))
        have o1 := HN5.out.cell 1 _ rfl
        have p1 := HQ95.out.cell 1 _ rfl
        go_upto_region 20 with fail
        refine wp_region_held_drew (S := (fun w' => w'.cell? ⟨gn, 1, none⟩ = some (.slice (some ⟨gt, 0, none⟩) s.ths.length vn) ∧ w'.cell? ⟨gt, k * 4 + 1, none⟩ = some (.slice (some ⟨gv, 0, none⟩) (xr.set j (nth s.mem lc)).length cr) ∧ w'.cell? ⟨g9, 1, none⟩ = some (.int .i64 (j : Int)) ∧ True)) (by kernel_rfl) ⟨o1, t1, p1, trivial⟩ (fun hHeld => ?_)
        obtain ⟨X6, hX6⟩ : ∃ W, W = X5.drew := ⟨_, rfl⟩
        have HB6 := Lib.hid (show Below X5.heap.size X5 X6 from by rw [hX6]; exact below_drewN (Below.refl _ _) 1)
        rw [← hX6] at hHeld ⊢
        clear hX6
        refine wpAnyH_take (i := 0) (v := ?_) rfl (by kernel_rfl) (by kernel_rfl) (by kernel_rfl) (fun _ _ _ h => h) (Or.inl ⟨by rfl, ?_⟩) (by assumption) ?_
        rotate_left
        · intro w hSw; (try dsimp only at hSw); go_simp; (try with_reducible rfl)
        (try simp only [Act.put, pt8])
        refine wpAnyH_take (i := 1) (v := ?_) rfl (by kernel_rfl) (by kernel_rfl) (by kernel_rfl) (fun _ _ _ h => h) (Or.inl ⟨by rfl, ?_⟩) (by assumption) ?_
        rotate_left
        · intro w hSw; (try dsimp only at hSw); go_simp; (try with_reducible rfl)
        (try simp only [Act.put, pt8])
        refine wpAnyH_take (i := 2) (v := ?_) rfl (by kernel_rfl) (by kernel_rfl) (by kernel_rfl) (fun _ _ _ h => h) (Or.inl ⟨by rfl, ?_⟩) (by assumption) ?_
        rotate_left
        · intro w hSw; (try dsimp only at hSw); go_simp; (try with_reducible rfl)
        (try simp only [Act.put, pt8])
        refine wpAnyH_take (i := 3) (v := ?_) rfl (by kernel_rfl) (by kernel_rfl) (by kernel_rfl) (fun _ _ _ h => h) (Or.inl ⟨by rfl, ?_⟩) (by assumption) ?_
        rotate_left
        · intro w hSw; (try dsimp only at hSw); go_simp; (try with_reducible rfl)
        (try simp only [Act.put, pt8])
        refine wpAnyH_take (i := 4) (v := ?_) rfl (by kernel_rfl) (by kernel_rfl) (by kernel_rfl) (fun _ _ _ h => h) (Or.inl ⟨by rfl, ?_⟩) (by assumption) ?_
        rotate_left
        · intro w hSw; (try dsimp only at hSw); go_simp; (try with_reducible rfl)
        (try simp only [Act.put, pt8])
        refine wpAnyH_take (i := 5) (v := ?_) rfl (by kernel_rfl) (by kernel_rfl) (by kernel_rfl) (fun _ _ _ h => h) (Or.inl ⟨by rfl, ?_⟩) (by assumption) ?_
        rotate_left
        · intro w hSw; (try dsimp only at hSw); go_simp; (try with_reducible rfl)
        (try simp only [Act.put, pt8])
        refine wpAnyH_take (i := 6) (v := ?_) rfl (by kernel_rfl) (by kernel_rfl) (by kernel_rfl) (fun _ _ _ h => h) (Or.inl ⟨by rfl, ?_⟩) (by assumption) ?_
        rotate_left
        · intro w hSw; (try dsimp only at hSw); go_simp; (try with_reducible rfl)
        (try simp only [Act.put, pt8])
        refine wpAnyH_take (i := 7) (v := ?_) rfl (by kernel_rfl) (by kernel_rfl) (by kernel_rfl) (fun _ _ _ h => h) (Or.inl ⟨by rfl, ?_⟩) (by assumption) ?_
        rotate_left
        · intro w hSw; (try dsimp only at hSw); go_simp; (try with_reducible rfl)
        (try simp only [Act.put, pt8])
        refine wpAnyH_take (i := 8) (v := ?_) rfl (by kernel_rfl) (by kernel_rfl) (by kernel_rfl) (fun _ _ _ h => h) (Or.inl ⟨by rfl, ?_⟩) (by assumption) ?_
        rotate_left
        · intro w hSw; (try dsimp only at hSw); go_simp; (try with_reducible rfl)
        (try simp only [Act.put, pt8])
        refine wpAnyH_take (i := 9) (v := ?_) rfl (by kernel_rfl) (by kernel_rfl) (by kernel_rfl) (fun _ _ _ h => h) (Or.inl ⟨by rfl, ?_⟩) (by assumption) ?_
        rotate_left
        · intro w hSw; (try dsimp only at hSw); go_simp; (try with_reducible rfl)
        (try simp only [Act.put, pt8])
        refine wpAnyH_ready (rs := [10]) (by kernel_rfl) (by simp) ?_
        refine AllReadyH.cons rfl (fun K hK => ?_) AllReadyH.nil
        obtain ⟨q0, q1, q2, -⟩ := hHeld
        have v6 := (HBR.out.below HB6.out HBR.out.lt).frozen j
        have e6 := kc HB6.out HCR.out
        go_simp
        refine hK.out _ _ ⟨st_ne HN3.out q0, st_ne HN1.out q1, st_ne HN2.out q2, trivial⟩ (fun hHeld => ?_)
        clear q0 q1 q2 v6 e6
        clear hK K
        (try simp only [Act.put, pt8])
        refine wpAnyH_done (by kernel_rfl) ?_ _
        clear hHeld o1 p1 t1
        obtain ⟨X7, hX7⟩ : ∃ W, W = X6.setCell ⟨gv, j, none⟩ (.int .i64 n9) := ⟨_, rfl⟩
        have HO7 := Lib.hid (show OwnSt X2.heap.size X7 (.slice Mn s.mem.length mn) (.slice (some ⟨gt, 0, none⟩) s.ths.length vn) ⟨s.mem, s.ths.set k ⟨xa + 1, xr.set j n9, xe, xb⟩⟩ (ps2.set k ⟨⟨xa + 1, (xr.set j (nth s.mem lc)).set j n9, xe, xb⟩, .slice (some ⟨gv, 0, none⟩) (xr.set j (nth s.mem lc)).length cr, vb2⟩) from by
          rw [hX7]
          have := own_setR (j := j) (z := n9) (HO5.out.below HB6.out) HPK'.out
          exact this.cast (by rw [List.set_set, List.set_set]))
        have HN7 := Lib.hid (show BoxC X7 gn 33 #[.slice Mn s.mem.length mn, .slice (some ⟨gt, 0, none⟩) s.ths.length vn] from by rw [hX7]; exact (HN5.out.below HB6.out HN5.out.lt).other HN3.out _ _)
        have HRR := Lib.hid (show BoxC X7 gr 33 #[.slice none 0 0, .slice none 0 0] from by rw [hX7]; exact (HRR5.out.below HB6.out HRR5.out.lt).other ((HRR5.out.below HB6.out HRR5.out.lt).unlike (HBR.out.below HB6.out HBR.out.lt) (by decide)) _ _)
        have HB7 := Lib.hid (show Below w.heap.size w X7 from by rw [hX7]; exact (chain HBX.out (chain HB5.out HB6.out)).setCell (p := ⟨gv, j, none⟩) (Nat.le_trans HB3.out.size (Nat.le_trans HL3.out.size (Nat.le_trans HL2.out.size HGV.out))) _)
        have HF4 := Lib.hid (show tsS ⟨2, (j : Int), lc, nn, tn⟩ s k ⟨xa, xr, xe, xb⟩ = ⟨s.mem, s.ths.set k ⟨xa + 1, xr.set j n9, xe, xb⟩⟩ from by rw [HF3.out, HVV.out.2]; simp)
        rw [← hX7]
        clear hX7
        have z0 := HN7.out.cell 0 _ rfl
        have z1 := HN7.out.cell 1 _ rfl
        have r0 := HRR.out.cell 0 _ rfl
        have r1 := HRR.out.cell 1 _ rfl
        have f0 := HRR.out.frozen 0
        have f1 := HRR.out.frozen 1
        obtain ⟨W9, hW9⟩ : ∃ W, W = (X7.setCell ⟨gr, 0, none⟩ (.slice Mn s.mem.length mn)).setCell ⟨gr, 1, none⟩ (.slice (some ⟨gt, 0, none⟩) s.ths.length vn) := ⟨_, rfl⟩
        have HR9 := Lib.hid (show BoxC W9 gr 33 #[(.slice Mn s.mem.length mn), (.slice (some ⟨gt, 0, none⟩) s.ths.length vn)] from by rw [hW9]; exact (HRR.out.set 0 _).set 1 _)
        have HO9 := Lib.hid (show OwnSt W3.heap.size W9 (.slice Mn s.mem.length mn) (.slice (some ⟨gt, 0, none⟩) s.ths.length vn) (tsS ⟨2, (j : Int), lc, nn, tn⟩ s k ⟨xa, xr, xe, xb⟩) (ps2.set k ⟨⟨xa + 1, (xr.set j (nth s.mem lc)).set j n9, xe, xb⟩, .slice (some ⟨gv, 0, none⟩) (xr.set j (nth s.mem lc)).length cr, vb2⟩) from by
          rw [hW9]
          exact (((HO7.out.base (Nat.le_trans HL3.out.size HL2.out.size)).cast HF4.out.symm).box HRR.out (by decide) (by decide) (by decide) 0 _).box (HRR.out.set 0 _) (by decide) (by decide) (by decide) 1 _)
        have HB9 := Lib.hid (show Below w.heap.size w W9 from by rw [hW9]; exact (HB7.out.setCell (p := ⟨gr, 0, none⟩) HGR.out _).setCell (p := ⟨gr, 1, none⟩) HGR.out _)
        have HW9 := Lib.hid hW9
        clear hW9
        go_wp2_with fail
        rw [← HW9.out]
        clear r0 r1 f0 f1
        have r0 := HR9.out.cell 0 _ rfl
        have r1 := HR9.out.cell 1 _ rfl
        have hz := HCO.out
        refine bodyPost_ret (v := .tuple #[.agg #[(.slice Mn s.mem.length mn), (.slice (some ⟨gt, 0, none⟩) s.ths.length vn)], .bool true]) (by simp [results, Try.results38, go_sem, r0, r1, hz]) rfl ⟨_, _, _, by rw [HF2.out]; rfl, (by rw [HF2.out]; exact HO9.out.base HB3.out.size), HB9.out⟩
      have e2 : ¬ ((op == 2) = true) := by simpa using h2
      by_cases h3 : op = 3
      · subst h3
        have HLO := Lib.hid (HPX.out.loc (by rfl))
        obtain ⟨l, rfl⟩ : ∃ l : Nat, lc = l := ⟨lc.toNat, by have h := HLO.out.1; dsimp only at h; omega⟩
        have HT := Lib.hid (show stT ⟨3, rg, (l : Int), nn, tn⟩ s.mem ⟨xa, xr, xe, xb⟩ = ⟨xa + 1, xr, xe, xb⟩ from by simp [stT, stR, stE, jumps])
        have HPR := Lib.hid (HPX.out.reg (by rfl))
        obtain ⟨r, rfl⟩ : ∃ r : Nat, rg = r := ⟨rg.toNat, by have := HPR.out.1; dsimp only at this; omega⟩
        have hr4 : r < xr.length := by have h := HPR.out.2; have h' := HXR.out; dsimp only at h h'; omega
        obtain ⟨z, hz⟩ : ∃ z, z = xr[r] := ⟨_, rfl⟩
        have HZE := Lib.hid (show nth xr (r : Int) = z from by rw [hz]; unfold nth; simp [hr4])
        have HRG0 := Lib.hid (show ∃ br fr c, vr = .slice (some ⟨br, fr, none⟩) xr.length c ∧ br < B ∧ w.cell? ⟨br, fr + r, none⟩ = some (.int .i64 z) from by
          obtain ⟨Ar, car, e, -, -, -, hr3⟩ := hRg
          obtain ⟨br, fr, e2, hbr, hcr⟩ := nu_at (c := car) hr3 (by omega)
          subst e e2
          exact ⟨br, fr, car, rfl, hbr, by rw [hz]; exact hcr r hr4⟩)
        clear hz
        have HF3 := Lib.hid (show tsS ⟨3, (r : Int), (l : Int), nn, tn⟩ s k ⟨xa, xr, xe, xb⟩ = ⟨s.mem, s.ths.set k ⟨xa + 1, xr, xe, xb ++ [⟨(l : Int), z⟩]⟩⟩ from by simp [tsS, HZE.out])
        have HQ1' := HQ1
        have i0 := HQ1.out.cell 0 _ rfl
        have n0 := HN.out.cell 0 _ rfl
        have nf := HN.out.frozen 0
        go_upto_region 23 with fail
        obtain ⟨X5, hX5⟩ : ∃ W, W = X4.setCell ⟨gn, 0, none⟩ (.slice Am s.mem.length cm) := ⟨_, rfl⟩
        have HN5 := Lib.hid (show BoxC X5 gn 33 #[.slice Am s.mem.length cm, .slice Vn s.ths.length vn] from by rw [hX5]; exact HN.out.set 0 _)
        have HMO := Lib.hid (show OwnI W3.heap.size X4 (.slice Am s.mem.length cm) s.mem from own_below HOS.out.mem (chain HL2.out HL4.out))
        have HMX := Lib.hid (show OwnI W3.heap.size X2 (.slice Am s.mem.length cm) s.mem from own_below HOS.out.mem HL2.out)
        have HO5 := Lib.hid (show OwnSt W3.heap.size X5 (.slice Am s.mem.length cm) (.slice Vn s.ths.length vn) ⟨s.mem, s.ths.set k (stT ⟨3, (r : Int), (l : Int), nn, tn⟩ s.mem ⟨xa, xr, xe, xb⟩)⟩ ps2 from by
          rw [hX5]
          exact ((HO4.out.base (Nat.le_trans HL3.out.size HL2.out.size)).memRow HMO.out (fun p hp => ap_new HMX.out (HO4.out.each p hp).1 (Nat.le_refl _))).box HN.out (by decide) (by decide) (by decide) 0 _)
        have HGNE := Lib.hid (show gn ≠ gr from by have h1 := HR.out.lt; have h2 := HGN.out; have h3 := HL3.out.size; have h4 := HL2.out.size; omega)
        have HQ95 := Lib.hid (show BoxC X5 g9 39 _ from by rw [hX5]; exact HQ9.out.other (HQ9.out.unlike HN.out (by decide)) _ _)
        have HRR5 := Lib.hid (show BoxC X5 gr 33 #[.slice none 0 0, .slice none 0 0] from by rw [hX5]; exact HRR.out.other (Ne.symm HGNE.out) _ _)
        have HGW := Lib.hid (show W3.heap.size ≤ gn from Nat.le_trans HL3.out.size (Nat.le_trans HL2.out.size HGN.out))
        have HB35 := Lib.hid (show Below W3.heap.size W3 X5 from by rw [hX5]; exact (chain HL3.out (chain HL2.out HL4.out)).setCell (p := ⟨gn, 0, none⟩) HGW.out _)
        have HB5 := Lib.hid (show Below w.heap.size w X5 from by rw [hX5]; exact HBX.out.setCell (p := ⟨gn, 0, none⟩) (Nat.le_trans HB3.out.size HGW.out) _)
        rw [← hX5]
        clear hX5 i0 n0 nf p0
        obtain ⟨vr2, vb2, hpk⟩ := HO5.out.pk (k := k) (by simpa using hks)
        simp only [List.getElem_set_self] at hpk
        obtain ⟨hkp, hpe⟩ := List.getElem?_eq_some_iff.1 hpk
        obtain ⟨gt, cv', cur, hev, hgt, hbv, t0, t1, t2, t3⟩ := HO5.out.row hkp
        rw [List.length_set] at hev
        injection hev with hev1 hev3 hev2
        clear hev3
        subst hev1 hev2
        rw [hpe] at t1 t3
        have HPK' := Lib.hid hpk
        have HOE := Lib.hid (HO5.out.each _ (List.getElem_mem hkp))
        rw [hpe] at HOE
        have HBV := Lib.hid hbv
        have HGT := Lib.hid hgt
        clear hpk hbv hgt hpe t0 t2
        dsimp only at HOE
        rw [HT.out] at HOE HPK'
        rw [HT.out] at HO5
        have o1 := HN5.out.cell 1 _ rfl
        have y1 := (HY.out.below HB35.out HY.out.lt).cell 1 _ rfl
        have b3 := ((HB5.out.mono hBB).cell (p := ⟨b1, f1 + k * 4 + 3, none⟩) hb1).trans HC3.out
        have p2 := HQ95.out.cell 2 _ rfl
        have p1 := HQ95.out.cell 1 _ rfl
        obtain ⟨br, fr, car, hvr, hbr, hcr⟩ := HRG0.out
        have bb2 := ((HB5.out.mono hBB).cell (p := ⟨b1, f1 + k * 4 + 1, none⟩) hb1).trans b2
        rw [hvr] at bb2
        have rr := ((HB5.out.mono hBB).cell (p := ⟨br, fr + r, none⟩) hbr).trans hcr
        clear t1
        have HT3 := Lib.hid t3
        clear t3
        refine wp_region_held_drew (S := (fun w' => w'.cell? ⟨gn, 1, none⟩ = some (.slice (some ⟨gt, 0, none⟩) s.ths.length vn) ∧ w'.cell? ⟨gs, 1, none⟩ = some (.slice (some ⟨b1, f1, none⟩) s.ths.length c1) ∧ w'.cell? ⟨b1, f1 + k * 4 + 3, none⟩ = some (.slice Ab xb.length cb) ∧ w'.cell? ⟨g9, 2, none⟩ = some (.int .i64 (l : Int)) ∧ w'.cell? ⟨g9, 1, none⟩ = some (.int .i64 (r : Int)) ∧ w'.cell? ⟨b1, f1 + k * 4 + 1, none⟩ = some (.slice (some ⟨br, fr, none⟩) xr.length car) ∧ w'.cell? ⟨br, fr + r, none⟩ = some (.int .i64 z) ∧ True)) (by kernel_rfl) ⟨o1, y1, b3, p2, p1, bb2, rr, trivial⟩ (fun hHeld => ?_)
        obtain ⟨X6, hX6⟩ : ∃ W, W = X5.drew := ⟨_, rfl⟩
        have HB6 := Lib.hid (show Below X5.heap.size X5 X6 from by rw [hX6]; exact below_drewN (Below.refl _ _) 1)
        rw [← hX6] at hHeld ⊢
        clear hX6
        refine wpAnyH_take (i := 0) (v := ?_) rfl (by kernel_rfl) (by kernel_rfl) (by kernel_rfl) (fun _ _ _ h => h) (Or.inl ⟨by rfl, ?_⟩) (by assumption) ?_
        rotate_left
        · intro w hSw; (try dsimp only at hSw); go_simp; (try with_reducible rfl)
        (try simp only [Act.put, pt8])
        refine wpAnyH_take (i := 1) (v := ?_) rfl (by kernel_rfl) (by kernel_rfl) (by kernel_rfl) (fun _ _ _ h => h) (Or.inl ⟨by rfl, ?_⟩) (by assumption) ?_
        rotate_left
        · intro w hSw; (try dsimp only at hSw); go_simp; (try with_reducible rfl)
        (try simp only [Act.put, pt8])
        refine wpAnyH_take (i := 2) (v := ?_) rfl (by kernel_rfl) (by kernel_rfl) (by kernel_rfl) (fun _ _ _ h => h) (Or.inl ⟨by rfl, ?_⟩) (by assumption) ?_
        rotate_left
        · intro w hSw; (try dsimp only at hSw); go_simp; (try with_reducible rfl)
        (try simp only [Act.put, pt8])
        refine wpAnyH_take (i := 3) (v := ?_) rfl (by kernel_rfl) (by kernel_rfl) (by kernel_rfl) (fun _ _ _ h => h) (Or.inl ⟨by rfl, ?_⟩) (by assumption) ?_
        rotate_left
        · intro w hSw; (try dsimp only at hSw); go_simp; (try with_reducible rfl)
        (try simp only [Act.put, pt8])
        refine wpAnyH_take (i := 4) (v := ?_) rfl (by kernel_rfl) (by kernel_rfl) (by kernel_rfl) (fun _ _ _ h => h) (Or.inl ⟨by rfl, ?_⟩) (by assumption) ?_
        rotate_left
        · intro w hSw; (try dsimp only at hSw); go_simp; (try with_reducible rfl)
        (try simp only [Act.put, pt8])
        refine wpAnyH_take (i := 5) (v := ?_) rfl (by kernel_rfl) (by kernel_rfl) (by kernel_rfl) (fun _ _ _ h => h) (Or.inl ⟨by rfl, ?_⟩) (by assumption) ?_
        rotate_left
        · intro w hSw; (try dsimp only at hSw); go_simp; (try with_reducible rfl)
        (try simp only [Act.put, pt8])
        refine wpAnyH_take (i := 6) (v := ?_) rfl (by kernel_rfl) (by kernel_rfl) (by kernel_rfl) (fun _ _ _ h => h) (Or.inl ⟨by rfl, ?_⟩) (by assumption) ?_
        rotate_left
        · intro w hSw; (try dsimp only at hSw); go_simp; (try with_reducible rfl)
        (try simp only [Act.put, pt8])
        refine wpAnyH_take (i := 7) (v := ?_) rfl (by kernel_rfl) (by kernel_rfl) (by kernel_rfl) (fun _ _ _ h => h) (Or.inl ⟨by rfl, ?_⟩) (by assumption) ?_
        rotate_left
        · intro w hSw; (try dsimp only at hSw); go_simp; (try with_reducible rfl)
        (try simp only [Act.put, pt8])
        refine wpAnyH_take (i := 8) (v := ?_) rfl (by kernel_rfl) (by kernel_rfl) (by kernel_rfl) (fun _ _ _ h => h) (Or.inl ⟨by rfl, ?_⟩) (by assumption) ?_
        rotate_left
        · intro w hSw; (try dsimp only at hSw); go_simp; (try with_reducible rfl)
        (try simp only [Act.put, pt8])
        refine wpAnyH_take (i := 9) (v := ?_) rfl (by kernel_rfl) (by kernel_rfl) (by kernel_rfl) (fun _ _ _ h => h) (Or.inl ⟨by rfl, ?_⟩) (by assumption) ?_
        rotate_left
        · intro w hSw; (try dsimp only at hSw); go_simp; (try with_reducible rfl)
        (try simp only [Act.put, pt8])
        refine wpAnyH_take (i := 10) (v := ?_) rfl (by kernel_rfl) (by kernel_rfl) (by kernel_rfl) (fun _ _ _ h => h) (Or.inl ⟨by rfl, ?_⟩) (by assumption) ?_
        rotate_left
        · intro w hSw; (try dsimp only at hSw); go_simp; (try with_reducible rfl)
        (try simp only [Act.put, pt8])
        refine wpAnyH_take (i := 11) (v := ?_) rfl (by kernel_rfl) (by kernel_rfl) (by kernel_rfl) (fun _ _ _ h => h) (Or.inl ⟨by rfl, ?_⟩) (by assumption) ?_
        rotate_left
        · intro w hSw; (try dsimp only at hSw); go_simp; (try with_reducible rfl)
        (try simp only [Act.put, pt8])
        refine wpAnyH_take (i := 12) (v := ?_) rfl (by kernel_rfl) (by kernel_rfl) (by kernel_rfl) (fun _ _ _ h => h) (Or.inl ⟨by rfl, ?_⟩) (by assumption) ?_
        rotate_left
        · intro w hSw; (try dsimp only at hSw); go_simp; (try with_reducible rfl)
        (try simp only [Act.put, pt8])
        refine wpAnyH_take (i := 13) (v := ?_) rfl (by kernel_rfl) (by kernel_rfl) (by kernel_rfl) (fun _ _ _ h => h) (Or.inl ⟨by rfl, ?_⟩) (by assumption) ?_
        rotate_left
        · intro w hSw; (try dsimp only at hSw); go_simp; (try with_reducible rfl)
        (try simp only [Act.put, pt8])
        refine wpAnyH_take (i := 14) (v := ?_) rfl (by kernel_rfl) (by kernel_rfl) (by kernel_rfl) (fun _ _ _ h => h) (Or.inl ⟨by rfl, ?_⟩) (by assumption) ?_
        rotate_left
        · intro w hSw; (try dsimp only at hSw); go_simp; (try with_reducible rfl)
        (try simp only [Act.put, pt8])
        refine wpAnyH_take (i := 15) (v := ?_) rfl (by kernel_rfl) (by kernel_rfl) (by kernel_rfl) (fun _ _ _ h => h) (Or.inl ⟨by rfl, ?_⟩) (by assumption) ?_
        rotate_left
        · intro w hSw; (try dsimp only at hSw); go_simp; (try with_reducible rfl)
        (try simp only [Act.put, pt8])
        refine wpAnyH_take (i := 16) (v := ?_) rfl (by kernel_rfl) (by kernel_rfl) (by kernel_rfl) (fun _ _ _ h => h) (Or.inl ⟨by rfl, ?_⟩) (by assumption) ?_
        rotate_left
        · intro w hSw; (try dsimp only at hSw); go_simp; (try with_reducible rfl)
        (try simp only [Act.put, pt8])
        refine wpAnyH_take (i := 17) (v := ?_) rfl (by kernel_rfl) (by kernel_rfl) (by kernel_rfl) (fun _ _ _ h => h) (Or.inl ⟨by rfl, ?_⟩) (by assumption) ?_
        rotate_left
        · intro w hSw; (try dsimp only at hSw); go_simp; (try with_reducible rfl)
        (try simp only [Act.put, pt8])
        refine wpAnyH_take (i := 18) (v := ?_) rfl (by kernel_rfl) (by kernel_rfl) (by kernel_rfl) (fun _ _ _ h => h) (Or.inl ⟨by rfl, ?_⟩) (by assumption) ?_
        rotate_left
        · intro w hSw; (try dsimp only at hSw); go_simp; (try with_reducible rfl)
        (try simp only [Act.put, pt8])
        refine wpAnyH_take (i := 19) (v := ?_) rfl (by kernel_rfl) (by kernel_rfl) (by kernel_rfl) (fun _ _ _ h => h) (Or.inl ⟨by rfl, ?_⟩) (by assumption) ?_
        rotate_left
        · intro w hSw; (try dsimp only at hSw); go_simp; (try with_reducible rfl)
        (try simp only [Act.put, pt8])
        refine wpAnyH_take (i := 20) (v := ?_) rfl (by kernel_rfl) (by kernel_rfl) (by kernel_rfl) (fun _ _ _ h => h) (Or.inl ⟨by rfl, ?_⟩) (by assumption) ?_
        rotate_left
        · intro w hSw; (try dsimp only at hSw); go_simp; (try with_reducible rfl)
        (try simp only [Act.put, pt8])
        refine wpAnyH_take (i := 21) (v := ?_) rfl (by kernel_rfl) (by kernel_rfl) (by kernel_rfl) (fun _ _ _ h => h) (Or.inl ⟨by rfl, ?_⟩) (by assumption) ?_
        rotate_left
        · intro w hSw; (try dsimp only at hSw); go_simp; (try with_reducible rfl)
        (try simp only [Act.put, pt8])
        refine wpAnyH_ready (rs := [22]) (by kernel_rfl) (by simp) ?_
        refine AllReadyH.cons rfl (fun K hK => ?_) AllReadyH.nil
        obtain ⟨q0, q1, q2, q3, q4, q5, q6, -⟩ := hHeld
        go_simp
        refine (HPU.out X6 ⟨(l : Int), z⟩ (chain HB5.out HB6.out)).mono ?_
        rintro e X7 ⟨vu, rfl, hou, hb⟩
        obtain ⟨Bn, bn, rfl⟩ := own_slice (n := xb.length + 1) (show X7.ownsRow _ _ 2 vu (xb.length + 1) _ from by have e := hou; unfold OwnW at e; rw [List.length_append] at e; exact e)
        have HOU := Lib.hid (show OwnW X5.heap.size X7 _ _ from own_base hou HB6.out.size)
        have HB7 := Lib.hid (show Below X5.heap.size X5 X7 from chain HB6.out hb)
        refine hK.out _ _ ⟨kc hb q0, kc hb q1, kc hb q2, kc hb q3, kc hb q4, kc hb q5, kc hb q6, trivial⟩ (fun hHeld => ?_)
        clear q0 q1 q2 q3 q4 q5 q6
        clear hK K
        (try simp only [Act.put, pt8])
        clear hb hou
        have HBV7 := Lib.hid (HBV.out.below HB7.out HBV.out.lt)
        have v7 := HBV7.out.frozen (k * 4 + 3)
        have e7 := kc HB7.out HT3.out
        have HNa := Lib.hid ((HN5.out.below HB7.out HN5.out.lt).unlike HBV7.out (by decide))
        have HNb := Lib.hid (show gs ≠ gt from by have h1 := HY.out.lt; have h2 := HGT.out; omega)
        have HNc := Lib.hid (show b1 ≠ gt from by have h1 := hb1; have h2 := HGT.out; have h3 := HB3.out.size; omega)
        have HNd := Lib.hid ((HQ95.out.below HB7.out HQ95.out.lt).unlike HBV7.out (by decide))
        have HNe := Lib.hid (show br ≠ gt from by have h2 := HGT.out; have h3 := HB3.out.size; omega)
        refine wpAnyH_take (i := 23) (v := ?_) rfl (by kernel_rfl) (by kernel_rfl) (by kernel_rfl) (fun _ _ _ h => h) (Or.inl ⟨by rfl, ?_⟩) (by assumption) ?_
        rotate_left
        · intro w hSw; (try dsimp only at hSw); go_simp; (try with_reducible rfl)
        (try simp only [Act.put, pt8])
        refine wpAnyH_take (i := 24) (v := ?_) rfl (by kernel_rfl) (by kernel_rfl) (by kernel_rfl) (fun _ _ _ h => h) (Or.inl ⟨by rfl, ?_⟩) (by assumption) ?_
        rotate_left
        · intro w hSw; (try dsimp only at hSw); go_simp; (try with_reducible rfl)
        (try simp only [Act.put, pt8])
        refine wpAnyH_ready (rs := [25]) (by kernel_rfl) (by simp) ?_
        refine AllReadyH.cons rfl (fun K hK => ?_) AllReadyH.nil
        obtain ⟨q0, q1, q2, q3, q4, q5, q6, -⟩ := hHeld
        go_simp
        refine hK.out _ _ ⟨st_ne HNa.out q0, st_ne HNb.out q1, st_ne HNc.out q2, st_ne HNd.out q3, st_ne HNd.out q4, st_ne HNc.out q5, st_ne HNe.out q6, trivial⟩ (fun hHeld => ?_)
        clear q0 q1 q2 q3 q4 q5 q6 v7 e7
        clear hK K
        (try simp only [Act.put, pt8])
        refine wpAnyH_done (by kernel_rfl) ?_ _
        clear hHeld o1 y1 b3 p2 p1 bb2 rr
        obtain ⟨X8, hX8⟩ : ∃ W, W = X7.setCell ⟨gt, k * 4 + 3, none⟩ (.slice Bn (xb.length + 1) bn) := ⟨_, rfl⟩
        have HO8 := Lib.hid (show OwnSt W3.heap.size X8 (.slice Am s.mem.length cm) (.slice (some ⟨gt, 0, none⟩) s.ths.length vn) ⟨s.mem, s.ths.set k ⟨xa + 1, xr, xe, xb ++ [⟨(l : Int), z⟩]⟩⟩ (ps2.set k ⟨⟨xa + 1, xr, xe, xb ++ [⟨(l : Int), z⟩]⟩, vr2, .slice Bn (xb.length + 1) bn⟩) from by
          rw [hX8]
          have := (HO5.out.below HB7.out).setVB' HPK'.out (own_base HOU.out HB35.out.size)
          exact this.cast (by rw [List.set_set]))
        have HN8 := Lib.hid (show BoxC X8 gn 33 #[.slice Am s.mem.length cm, .slice (some ⟨gt, 0, none⟩) s.ths.length vn] from by rw [hX8]; exact (HN5.out.below HB7.out HN5.out.lt).other ((HN5.out.below HB7.out HN5.out.lt).unlike (HBV.out.below HB7.out HBV.out.lt) (by decide)) _ _)
        have HRR := Lib.hid (show BoxC X8 gr 33 #[.slice none 0 0, .slice none 0 0] from by rw [hX8]; exact (HRR5.out.below HB7.out HRR5.out.lt).other ((HRR5.out.below HB7.out HRR5.out.lt).unlike (HBV.out.below HB7.out HBV.out.lt) (by decide)) _ _)
        have HB8 := Lib.hid (show Below w.heap.size w X8 from by rw [hX8]; exact (chain HB5.out HB7.out).setCell (p := ⟨gt, k * 4 + 3, none⟩) (Nat.le_trans HB3.out.size HGT.out) _)
        rw [← hX8]
        clear hX8
        have z0 := HN8.out.cell 0 _ rfl
        have z1 := HN8.out.cell 1 _ rfl
        have r0 := HRR.out.cell 0 _ rfl
        have r1 := HRR.out.cell 1 _ rfl
        have f0 := HRR.out.frozen 0
        have f1 := HRR.out.frozen 1
        obtain ⟨W9, hW9⟩ : ∃ W, W = (X8.setCell ⟨gr, 0, none⟩ (.slice Am s.mem.length cm)).setCell ⟨gr, 1, none⟩ (.slice (some ⟨gt, 0, none⟩) s.ths.length vn) := ⟨_, rfl⟩
        have HR9 := Lib.hid (show BoxC W9 gr 33 #[(.slice Am s.mem.length cm), (.slice (some ⟨gt, 0, none⟩) s.ths.length vn)] from by rw [hW9]; exact (HRR.out.set 0 _).set 1 _)
        have HO9 := Lib.hid (show OwnSt W3.heap.size W9 (.slice Am s.mem.length cm) (.slice (some ⟨gt, 0, none⟩) s.ths.length vn) (tsS ⟨3, (r : Int), (l : Int), nn, tn⟩ s k ⟨xa, xr, xe, xb⟩) (ps2.set k ⟨⟨xa + 1, xr, xe, xb ++ [⟨(l : Int), z⟩]⟩, vr2, .slice Bn (xb.length + 1) bn⟩) from by
          rw [hW9]
          exact ((HO8.out.cast HF3.out.symm).box HRR.out (by decide) (by decide) (by decide) 0 _).box (HRR.out.set 0 _) (by decide) (by decide) (by decide) 1 _)
        have HB9 := Lib.hid (show Below w.heap.size w W9 from by rw [hW9]; exact (HB8.out.setCell (p := ⟨gr, 0, none⟩) HGR.out _).setCell (p := ⟨gr, 1, none⟩) HGR.out _)
        have HW9 := Lib.hid hW9
        clear hW9
        go_wp2_with fail
        rw [← HW9.out]
        clear r0 r1 f0 f1
        have r0 := HR9.out.cell 0 _ rfl
        have r1 := HR9.out.cell 1 _ rfl
        have hz := HCO.out
        refine bodyPost_ret (v := .tuple #[.agg #[(.slice Am s.mem.length cm), (.slice (some ⟨gt, 0, none⟩) s.ths.length vn)], .bool true]) (by simp [results, Try.results38, go_sem, r0, r1, hz]) rfl ⟨_, _, _, by rw [HF2.out]; rfl, (by rw [HF2.out]; exact HO9.out.base HB3.out.size), HB9.out⟩
      have e3 : ¬ ((op == 3) = true) := by simpa using h3
      by_cases h4 : op = 4
      · subst h4
        have HLO := Lib.hid (HPX.out.loc (by rfl))
        obtain ⟨l, rfl⟩ : ∃ l : Nat, lc = l := ⟨lc.toNat, by have h := HLO.out.1; dsimp only at h; omega⟩
        have HT := Lib.hid (show stT ⟨4, rg, (l : Int), nn, tn⟩ s.mem ⟨xa, xr, xe, xb⟩ = ⟨xa + 1, xr, xe, xb⟩ from by simp [stT, stR, stE, jumps])
        obtain ⟨z, hz⟩ : ∃ z, z = nn := ⟨_, rfl⟩
        have HZE := Lib.hid hz.symm
        clear hz
        have HF3 := Lib.hid (show tsS ⟨4, rg, (l : Int), nn, tn⟩ s k ⟨xa, xr, xe, xb⟩ = ⟨s.mem, s.ths.set k ⟨xa + 1, xr, xe, xb ++ [⟨(l : Int), z⟩]⟩⟩ from by simp [tsS, HZE.out])
        have HQ1' := HQ1
        have i0 := HQ1.out.cell 0 _ rfl
        have n0 := HN.out.cell 0 _ rfl
        have nf := HN.out.frozen 0
        go_upto_region 26 with fail
        obtain ⟨X5, hX5⟩ : ∃ W, W = X4.setCell ⟨gn, 0, none⟩ (.slice Am s.mem.length cm) := ⟨_, rfl⟩
        have HN5 := Lib.hid (show BoxC X5 gn 33 #[.slice Am s.mem.length cm, .slice Vn s.ths.length vn] from by rw [hX5]; exact HN.out.set 0 _)
        have HMO := Lib.hid (show OwnI W3.heap.size X4 (.slice Am s.mem.length cm) s.mem from own_below HOS.out.mem (chain HL2.out HL4.out))
        have HMX := Lib.hid (show OwnI W3.heap.size X2 (.slice Am s.mem.length cm) s.mem from own_below HOS.out.mem HL2.out)
        have HO5 := Lib.hid (show OwnSt W3.heap.size X5 (.slice Am s.mem.length cm) (.slice Vn s.ths.length vn) ⟨s.mem, s.ths.set k (stT ⟨4, rg, (l : Int), nn, tn⟩ s.mem ⟨xa, xr, xe, xb⟩)⟩ ps2 from by
          rw [hX5]
          exact ((HO4.out.base (Nat.le_trans HL3.out.size HL2.out.size)).memRow HMO.out (fun p hp => ap_new HMX.out (HO4.out.each p hp).1 (Nat.le_refl _))).box HN.out (by decide) (by decide) (by decide) 0 _)
        have HGNE := Lib.hid (show gn ≠ gr from by have h1 := HR.out.lt; have h2 := HGN.out; have h3 := HL3.out.size; have h4 := HL2.out.size; omega)
        have HQ95 := Lib.hid (show BoxC X5 g9 39 _ from by rw [hX5]; exact HQ9.out.other (HQ9.out.unlike HN.out (by decide)) _ _)
        have HRR5 := Lib.hid (show BoxC X5 gr 33 #[.slice none 0 0, .slice none 0 0] from by rw [hX5]; exact HRR.out.other (Ne.symm HGNE.out) _ _)
        have HGW := Lib.hid (show W3.heap.size ≤ gn from Nat.le_trans HL3.out.size (Nat.le_trans HL2.out.size HGN.out))
        have HB35 := Lib.hid (show Below W3.heap.size W3 X5 from by rw [hX5]; exact (chain HL3.out (chain HL2.out HL4.out)).setCell (p := ⟨gn, 0, none⟩) HGW.out _)
        have HB5 := Lib.hid (show Below w.heap.size w X5 from by rw [hX5]; exact HBX.out.setCell (p := ⟨gn, 0, none⟩) (Nat.le_trans HB3.out.size HGW.out) _)
        rw [← hX5]
        clear hX5 i0 n0 nf p0
        obtain ⟨vr2, vb2, hpk⟩ := HO5.out.pk (k := k) (by simpa using hks)
        simp only [List.getElem_set_self] at hpk
        obtain ⟨hkp, hpe⟩ := List.getElem?_eq_some_iff.1 hpk
        obtain ⟨gt, cv', cur, hev, hgt, hbv, t0, t1, t2, t3⟩ := HO5.out.row hkp
        rw [List.length_set] at hev
        injection hev with hev1 hev3 hev2
        clear hev3
        subst hev1 hev2
        rw [hpe] at t1 t3
        have HPK' := Lib.hid hpk
        have HOE := Lib.hid (HO5.out.each _ (List.getElem_mem hkp))
        rw [hpe] at HOE
        have HBV := Lib.hid hbv
        have HGT := Lib.hid hgt
        clear hpk hbv hgt hpe t0 t2
        dsimp only at HOE
        rw [HT.out] at HOE HPK'
        rw [HT.out] at HO5
        have o1 := HN5.out.cell 1 _ rfl
        have y1 := (HY.out.below HB35.out HY.out.lt).cell 1 _ rfl
        have b3 := ((HB5.out.mono hBB).cell (p := ⟨b1, f1 + k * 4 + 3, none⟩) hb1).trans HC3.out
        have p2 := HQ95.out.cell 2 _ rfl
        have p3 := HQ95.out.cell 3 _ rfl
        skip
        clear t1
        have HT3 := Lib.hid t3
        clear t3
        refine wp_region_held_drew (S := (fun w' => w'.cell? ⟨gn, 1, none⟩ = some (.slice (some ⟨gt, 0, none⟩) s.ths.length vn) ∧ w'.cell? ⟨gs, 1, none⟩ = some (.slice (some ⟨b1, f1, none⟩) s.ths.length c1) ∧ w'.cell? ⟨b1, f1 + k * 4 + 3, none⟩ = some (.slice Ab xb.length cb) ∧ w'.cell? ⟨g9, 2, none⟩ = some (.int .i64 (l : Int)) ∧ w'.cell? ⟨g9, 3, none⟩ = some (.int .i64 nn) ∧ True)) (by kernel_rfl) ⟨o1, y1, b3, p2, p3, trivial⟩ (fun hHeld => ?_)
        obtain ⟨X6, hX6⟩ : ∃ W, W = X5.drew := ⟨_, rfl⟩
        have HB6 := Lib.hid (show Below X5.heap.size X5 X6 from by rw [hX6]; exact below_drewN (Below.refl _ _) 1)
        rw [← hX6] at hHeld ⊢
        clear hX6
        refine wpAnyH_take (i := 0) (v := ?_) rfl (by kernel_rfl) (by kernel_rfl) (by kernel_rfl) (fun _ _ _ h => h) (Or.inl ⟨by rfl, ?_⟩) (by assumption) ?_
        rotate_left
        · intro w hSw; (try dsimp only at hSw); go_simp; (try with_reducible rfl)
        (try simp only [Act.put, pt8])
        refine wpAnyH_take (i := 1) (v := ?_) rfl (by kernel_rfl) (by kernel_rfl) (by kernel_rfl) (fun _ _ _ h => h) (Or.inl ⟨by rfl, ?_⟩) (by assumption) ?_
        rotate_left
        · intro w hSw; (try dsimp only at hSw); go_simp; (try with_reducible rfl)
        (try simp only [Act.put, pt8])
        refine wpAnyH_take (i := 2) (v := ?_) rfl (by kernel_rfl) (by kernel_rfl) (by kernel_rfl) (fun _ _ _ h => h) (Or.inl ⟨by rfl, ?_⟩) (by assumption) ?_
        rotate_left
        · intro w hSw; (try dsimp only at hSw); go_simp; (try with_reducible rfl)
        (try simp only [Act.put, pt8])
        refine wpAnyH_take (i := 3) (v := ?_) rfl (by kernel_rfl) (by kernel_rfl) (by kernel_rfl) (fun _ _ _ h => h) (Or.inl ⟨by rfl, ?_⟩) (by assumption) ?_
        rotate_left
        · intro w hSw; (try dsimp only at hSw); go_simp; (try with_reducible rfl)
        (try simp only [Act.put, pt8])
        refine wpAnyH_take (i := 4) (v := ?_) rfl (by kernel_rfl) (by kernel_rfl) (by kernel_rfl) (fun _ _ _ h => h) (Or.inl ⟨by rfl, ?_⟩) (by assumption) ?_
        rotate_left
        · intro w hSw; (try dsimp only at hSw); go_simp; (try with_reducible rfl)
        (try simp only [Act.put, pt8])
        refine wpAnyH_take (i := 5) (v := ?_) rfl (by kernel_rfl) (by kernel_rfl) (by kernel_rfl) (fun _ _ _ h => h) (Or.inl ⟨by rfl, ?_⟩) (by assumption) ?_
        rotate_left
        · intro w hSw; (try dsimp only at hSw); go_simp; (try with_reducible rfl)
        (try simp only [Act.put, pt8])
        refine wpAnyH_take (i := 6) (v := ?_) rfl (by kernel_rfl) (by kernel_rfl) (by kernel_rfl) (fun _ _ _ h => h) (Or.inl ⟨by rfl, ?_⟩) (by assumption) ?_
        rotate_left
        · intro w hSw; (try dsimp only at hSw); go_simp; (try with_reducible rfl)
        (try simp only [Act.put, pt8])
        refine wpAnyH_take (i := 7) (v := ?_) rfl (by kernel_rfl) (by kernel_rfl) (by kernel_rfl) (fun _ _ _ h => h) (Or.inl ⟨by rfl, ?_⟩) (by assumption) ?_
        rotate_left
        · intro w hSw; (try dsimp only at hSw); go_simp; (try with_reducible rfl)
        (try simp only [Act.put, pt8])
        refine wpAnyH_take (i := 8) (v := ?_) rfl (by kernel_rfl) (by kernel_rfl) (by kernel_rfl) (fun _ _ _ h => h) (Or.inl ⟨by rfl, ?_⟩) (by assumption) ?_
        rotate_left
        · intro w hSw; (try dsimp only at hSw); go_simp; (try with_reducible rfl)
        (try simp only [Act.put, pt8])
        refine wpAnyH_take (i := 9) (v := ?_) rfl (by kernel_rfl) (by kernel_rfl) (by kernel_rfl) (fun _ _ _ h => h) (Or.inl ⟨by rfl, ?_⟩) (by assumption) ?_
        rotate_left
        · intro w hSw; (try dsimp only at hSw); go_simp; (try with_reducible rfl)
        (try simp only [Act.put, pt8])
        refine wpAnyH_take (i := 10) (v := ?_) rfl (by kernel_rfl) (by kernel_rfl) (by kernel_rfl) (fun _ _ _ h => h) (Or.inl ⟨by rfl, ?_⟩) (by assumption) ?_
        rotate_left
        · intro w hSw; (try dsimp only at hSw); go_simp; (try with_reducible rfl)
        (try simp only [Act.put, pt8])
        refine wpAnyH_take (i := 11) (v := ?_) rfl (by kernel_rfl) (by kernel_rfl) (by kernel_rfl) (fun _ _ _ h => h) (Or.inl ⟨by rfl, ?_⟩) (by assumption) ?_
        rotate_left
        · intro w hSw; (try dsimp only at hSw); go_simp; (try with_reducible rfl)
        (try simp only [Act.put, pt8])
        refine wpAnyH_take (i := 12) (v := ?_) rfl (by kernel_rfl) (by kernel_rfl) (by kernel_rfl) (fun _ _ _ h => h) (Or.inl ⟨by rfl, ?_⟩) (by assumption) ?_
        rotate_left
        · intro w hSw; (try dsimp only at hSw); go_simp; (try with_reducible rfl)
        (try simp only [Act.put, pt8])
        refine wpAnyH_take (i := 13) (v := ?_) rfl (by kernel_rfl) (by kernel_rfl) (by kernel_rfl) (fun _ _ _ h => h) (Or.inl ⟨by rfl, ?_⟩) (by assumption) ?_
        rotate_left
        · intro w hSw; (try dsimp only at hSw); go_simp; (try with_reducible rfl)
        (try simp only [Act.put, pt8])
        refine wpAnyH_ready (rs := [14]) (by kernel_rfl) (by simp) ?_
        refine AllReadyH.cons rfl (fun K hK => ?_) AllReadyH.nil
        obtain ⟨q0, q1, q2, q3, q4, -⟩ := hHeld
        go_simp
        rw [HZE.out]
        refine (HPU.out X6 ⟨(l : Int), z⟩ (chain HB5.out HB6.out)).mono ?_
        rintro e X7 ⟨vu, rfl, hou, hb⟩
        obtain ⟨Bn, bn, rfl⟩ := own_slice (n := xb.length + 1) (show X7.ownsRow _ _ 2 vu (xb.length + 1) _ from by have e := hou; unfold OwnW at e; rw [List.length_append] at e; exact e)
        have HOU := Lib.hid (show OwnW X5.heap.size X7 _ _ from own_base hou HB6.out.size)
        have HB7 := Lib.hid (show Below X5.heap.size X5 X7 from chain HB6.out hb)
        refine hK.out _ _ ⟨kc hb q0, kc hb q1, kc hb q2, kc hb q3, kc hb q4, trivial⟩ (fun hHeld => ?_)
        clear q0 q1 q2 q3 q4
        clear hK K
        (try simp only [Act.put, pt8])
        clear hb hou
        have HBV7 := Lib.hid (HBV.out.below HB7.out HBV.out.lt)
        have v7 := HBV7.out.frozen (k * 4 + 3)
        have e7 := kc HB7.out HT3.out
        have HNa := Lib.hid ((HN5.out.below HB7.out HN5.out.lt).unlike HBV7.out (by decide))
        have HNb := Lib.hid (show gs ≠ gt from by have h1 := HY.out.lt; have h2 := HGT.out; omega)
        have HNc := Lib.hid (show b1 ≠ gt from by have h1 := hb1; have h2 := HGT.out; have h3 := HB3.out.size; omega)
        have HNd := Lib.hid ((HQ95.out.below HB7.out HQ95.out.lt).unlike HBV7.out (by decide))
        refine wpAnyH_take (i := 15) (v := ?_) rfl (by kernel_rfl) (by kernel_rfl) (by kernel_rfl) (fun _ _ _ h => h) (Or.inl ⟨by rfl, ?_⟩) (by assumption) ?_
        rotate_left
        · intro w hSw; (try dsimp only at hSw); go_simp; (try with_reducible rfl)
        (try simp only [Act.put, pt8])
        refine wpAnyH_take (i := 16) (v := ?_) rfl (by kernel_rfl) (by kernel_rfl) (by kernel_rfl) (fun _ _ _ h => h) (Or.inl ⟨by rfl, ?_⟩) (by assumption) ?_
        rotate_left
        · intro w hSw; (try dsimp only at hSw); go_simp; (try with_reducible rfl)
        (try simp only [Act.put, pt8])
        refine wpAnyH_ready (rs := [17]) (by kernel_rfl) (by simp) ?_
        refine AllReadyH.cons rfl (fun K hK => ?_) AllReadyH.nil
        obtain ⟨q0, q1, q2, q3, q4, -⟩ := hHeld
        go_simp
        refine hK.out _ _ ⟨st_ne HNa.out q0, st_ne HNb.out q1, st_ne HNc.out q2, st_ne HNd.out q3, st_ne HNd.out q4, trivial⟩ (fun hHeld => ?_)
        clear q0 q1 q2 q3 q4 v7 e7
        clear hK K
        (try simp only [Act.put, pt8])
        refine wpAnyH_done (by kernel_rfl) ?_ _
        clear hHeld o1 y1 b3 p2 p3
        obtain ⟨X8, hX8⟩ : ∃ W, W = X7.setCell ⟨gt, k * 4 + 3, none⟩ (.slice Bn (xb.length + 1) bn) := ⟨_, rfl⟩
        have HO8 := Lib.hid (show OwnSt W3.heap.size X8 (.slice Am s.mem.length cm) (.slice (some ⟨gt, 0, none⟩) s.ths.length vn) ⟨s.mem, s.ths.set k ⟨xa + 1, xr, xe, xb ++ [⟨(l : Int), z⟩]⟩⟩ (ps2.set k ⟨⟨xa + 1, xr, xe, xb ++ [⟨(l : Int), z⟩]⟩, vr2, .slice Bn (xb.length + 1) bn⟩) from by
          rw [hX8]
          have := (HO5.out.below HB7.out).setVB' HPK'.out (own_base HOU.out HB35.out.size)
          exact this.cast (by rw [List.set_set]))
        have HN8 := Lib.hid (show BoxC X8 gn 33 #[.slice Am s.mem.length cm, .slice (some ⟨gt, 0, none⟩) s.ths.length vn] from by rw [hX8]; exact (HN5.out.below HB7.out HN5.out.lt).other ((HN5.out.below HB7.out HN5.out.lt).unlike (HBV.out.below HB7.out HBV.out.lt) (by decide)) _ _)
        have HRR := Lib.hid (show BoxC X8 gr 33 #[.slice none 0 0, .slice none 0 0] from by rw [hX8]; exact (HRR5.out.below HB7.out HRR5.out.lt).other ((HRR5.out.below HB7.out HRR5.out.lt).unlike (HBV.out.below HB7.out HBV.out.lt) (by decide)) _ _)
        have HB8 := Lib.hid (show Below w.heap.size w X8 from by rw [hX8]; exact (chain HB5.out HB7.out).setCell (p := ⟨gt, k * 4 + 3, none⟩) (Nat.le_trans HB3.out.size HGT.out) _)
        rw [← hX8]
        clear hX8
        have z0 := HN8.out.cell 0 _ rfl
        have z1 := HN8.out.cell 1 _ rfl
        have r0 := HRR.out.cell 0 _ rfl
        have r1 := HRR.out.cell 1 _ rfl
        have f0 := HRR.out.frozen 0
        have f1 := HRR.out.frozen 1
        obtain ⟨W9, hW9⟩ : ∃ W, W = (X8.setCell ⟨gr, 0, none⟩ (.slice Am s.mem.length cm)).setCell ⟨gr, 1, none⟩ (.slice (some ⟨gt, 0, none⟩) s.ths.length vn) := ⟨_, rfl⟩
        have HR9 := Lib.hid (show BoxC W9 gr 33 #[(.slice Am s.mem.length cm), (.slice (some ⟨gt, 0, none⟩) s.ths.length vn)] from by rw [hW9]; exact (HRR.out.set 0 _).set 1 _)
        have HO9 := Lib.hid (show OwnSt W3.heap.size W9 (.slice Am s.mem.length cm) (.slice (some ⟨gt, 0, none⟩) s.ths.length vn) (tsS ⟨4, rg, (l : Int), nn, tn⟩ s k ⟨xa, xr, xe, xb⟩) (ps2.set k ⟨⟨xa + 1, xr, xe, xb ++ [⟨(l : Int), z⟩]⟩, vr2, .slice Bn (xb.length + 1) bn⟩) from by
          rw [hW9]
          exact ((HO8.out.cast HF3.out.symm).box HRR.out (by decide) (by decide) (by decide) 0 _).box (HRR.out.set 0 _) (by decide) (by decide) (by decide) 1 _)
        have HB9 := Lib.hid (show Below w.heap.size w W9 from by rw [hW9]; exact (HB8.out.setCell (p := ⟨gr, 0, none⟩) HGR.out _).setCell (p := ⟨gr, 1, none⟩) HGR.out _)
        have HW9 := Lib.hid hW9
        clear hW9
        go_wp2_with fail
        rw [← HW9.out]
        clear r0 r1 f0 f1
        have r0 := HR9.out.cell 0 _ rfl
        have r1 := HR9.out.cell 1 _ rfl
        have hz := HCO.out
        refine bodyPost_ret (v := .tuple #[.agg #[(.slice Am s.mem.length cm), (.slice (some ⟨gt, 0, none⟩) s.ths.length vn)], .bool true]) (by simp [results, Try.results38, go_sem, r0, r1, hz]) rfl ⟨_, _, _, by rw [HF2.out]; rfl, (by rw [HF2.out]; exact HO9.out.base HB3.out.size), HB9.out⟩
      have e4 : ¬ ((op == 4) = true) := by simpa using h4
      have HF3 := Lib.hid (show tsS ⟨op, rg, lc, nn, tn⟩ s k ⟨xa, xr, xe, xb⟩ = ⟨stM ⟨op, rg, lc, nn, tn⟩ s.mem xr, s.ths.set k (stT ⟨op, rg, lc, nn, tn⟩ s.mem ⟨xa, xr, xe, xb⟩)⟩ from by unfold tsS; simp only [h2, h3, h4, if_false])
      clear h2 h3 h4
      go_upto_region 27 with fail
      clear p0 e2 e3 e4
      have z0 := HN.out.cell 0 _ rfl
      have z1 := HN.out.cell 1 _ rfl
      have r0 := HRR.out.cell 0 _ rfl
      have r1 := HRR.out.cell 1 _ rfl
      have f0 := HRR.out.frozen 0
      have f1 := HRR.out.frozen 1
      obtain ⟨W9, hW9⟩ : ∃ W, W = (X4.setCell ⟨gr, 0, none⟩ (.slice Mn s.mem.length mn)).setCell ⟨gr, 1, none⟩ (.slice Vn s.ths.length vn) := ⟨_, rfl⟩
      have HR9 := Lib.hid (show BoxC W9 gr 33 #[(.slice Mn s.mem.length mn), (.slice Vn s.ths.length vn)] from by rw [hW9]; exact (HRR.out.set 0 _).set 1 _)
      have HO9 := Lib.hid (show OwnSt W3.heap.size W9 (.slice Mn s.mem.length mn) (.slice Vn s.ths.length vn) (tsS ⟨op, rg, lc, nn, tn⟩ s k ⟨xa, xr, xe, xb⟩) ps2 from by
        rw [hW9]
        exact (((HO4.out.base (Nat.le_trans HL3.out.size HL2.out.size)).cast HF3.out.symm).box HRR.out (by decide) (by decide) (by decide) 0 _).box (HRR.out.set 0 _) (by decide) (by decide) (by decide) 1 _)
      have HB9 := Lib.hid (show Below w.heap.size w W9 from by rw [hW9]; exact (HBX.out.setCell (p := ⟨gr, 0, none⟩) HGR.out _).setCell (p := ⟨gr, 1, none⟩) HGR.out _)
      have HW9 := Lib.hid hW9
      clear hW9
      go_wp2_with fail
      rw [← HW9.out]
      clear r0 r1 f0 f1
      have r0 := HR9.out.cell 0 _ rfl
      have r1 := HR9.out.cell 1 _ rfl
      have hz := HCO.out
      refine bodyPost_ret (v := .tuple #[.agg #[(.slice Mn s.mem.length mn), (.slice Vn s.ths.length vn)], .bool true]) (by simp [results, Try.results38, go_sem, r0, r1, hz]) rfl ⟨_, _, _, by rw [HF2.out]; rfl, (by rw [HF2.out]; exact HO9.out.base HB3.out.size), HB9.out⟩

    · have HF2 := Lib.hid (show tst P s (k : Int) false = some (tsS ⟨op, rg, lc, nn, tn⟩ s k ⟨xa, xr, xe, xb⟩) from by rw [HFE.out, if_neg (by have : xb = [] := List.eq_nil_of_length_eq_zero (by omega); simp [stuck, this])])
      go_upto_region 16 with fail
      clear y1 b3 p0 z0 z1 HFE hbl
      have HBX := Lib.hid (chain HBF.out HL2.out)
      have x0 := ((HX.out.below HL3.out HX.out.lt).below HL2.out (HX.out.below HL3.out HX.out.lt).lt).cell 0 _ rfl
      have x1 := ((HX.out.below HL3.out HX.out.lt).below HL2.out (HX.out.below HL3.out HX.out.lt).lt).cell 1 _ rfl
      have y0 := ((HY.out.below HL3.out HY.out.lt).below HL2.out (HY.out.below HL3.out HY.out.lt).lt).cell 0 _ rfl
      have y1 := ((HY.out.below HL3.out HY.out.lt).below HL2.out (HY.out.below HL3.out HY.out.lt).lt).cell 1 _ rfl
      go_wp2_with fail
      refine (HST.out _ HBX.out).mono ?_
      rintro e w3 ⟨vm2, vt2, ps2, rfl, hos2, hb3⟩
      rw [HAE.out]
      rw [HSE.out] at hos2
      obtain ⟨Mn, mn, rfl⟩ := own_slice (n := s.mem.length) (show w3.ownsRow _ _ 1 vm2 s.mem.length _ from by have e := hos2.mem; unfold OwnI at e; rwa [stM_len] at e)
      obtain ⟨Vn, vn, rfl⟩ := own_slice (n := s.ths.length) (by have e := hos2.ths; rwa [List.length_set] at e)
      have HO2 := Lib.hid hos2
      have HB4 := Lib.hid hb3
      clear hos2 hb3 x0 x1 y0 y1 HST
      go_upto_region 17 with fail
      obtain ⟨X4, hX4⟩ : ∃ W, W = w3.alloc (.cells #[.slice Mn s.mem.length mn, .slice Vn s.ths.length vn] 33) := ⟨_, rfl⟩
      obtain ⟨gn, hgn⟩ : ∃ g, g = w3.heap.size := ⟨_, rfl⟩
      have HN := Lib.hid (show BoxC X4 gn 33 #[.slice Mn s.mem.length mn, .slice Vn s.ths.length vn] from by rw [hX4, hgn]; exact BoxC.new w3 _ _)
      have HL4 := Lib.hid (show Below X2.heap.size X2 X4 from by rw [hX4]; exact below_al HB4.out _)
      have HO4 := Lib.hid (show OwnSt X2.heap.size X4 (.slice Mn s.mem.length mn) (.slice Vn s.ths.length vn) ⟨stM ⟨op, rg, lc, nn, tn⟩ s.mem xr, s.ths.set k (stT ⟨op, rg, lc, nn, tn⟩ s.mem ⟨xa, xr, xe, xb⟩)⟩ ps2 from by rw [hX4]; exact HO2.out.below (below_al (Below.refl _ _) _))
      have HGN := Lib.hid (show X2.heap.size ≤ gn from by rw [hgn]; exact HB4.out.size)
      rw [← hX4]
      (try rw [← hgn])
      clear hX4 hgn HO2 HB4
      replace HQ9 := Lib.hid (HQ9.out.below HL4.out HQ9.out.lt)
      replace HRR := Lib.hid (HRR.out.below HL4.out HRR.out.lt)
      replace HQ1 := Lib.hid (HQ1.out.below HL4.out HQ1.out.lt)
      replace HBX := Lib.hid (chain HBX.out HL4.out)
      have p0 := HQ9.out.cell 0 _ rfl
      by_cases h2 : op = 2
      · subst h2
        have HPR := Lib.hid (HPX.out.reg (by rfl))
        have HF3 := Lib.hid (show tsS ⟨2, rg, lc, nn, tn⟩ s k ⟨xa, xr, xe, xb⟩ = ⟨s.mem, s.ths.set k ⟨xa + 1, xr.set rg.toNat ((BfM.view xb s.mem lc).getD 0), xe, xb⟩⟩ from by unfold tsS; rw [if_pos rfl])
        obtain ⟨n9, b9, HVV⟩ : ∃ n b, Hid (viewV xb s.mem lc = .tuple #[.int .i64 n, .bool b] ∧ n = (BfM.view xb s.mem lc).getD 0) := by
          unfold viewV
          cases BfM.view xb s.mem lc with
          | none => exact ⟨0, false, Lib.hid ⟨rfl, rfl⟩⟩
          | some n => exact ⟨n, true, Lib.hid ⟨rfl, rfl⟩⟩
        have y0 := (((HY.out.below HL3.out HY.out.lt).below HL2.out (HY.out.below HL3.out HY.out.lt).lt).below HL4.out ((HY.out.below HL3.out HY.out.lt).below HL2.out (HY.out.below HL3.out HY.out.lt).lt).lt).cell 0 _ rfl
        have y1 := (((HY.out.below HL3.out HY.out.lt).below HL2.out (HY.out.below HL3.out HY.out.lt).lt).below HL4.out ((HY.out.below HL3.out HY.out.lt).below HL2.out (HY.out.below HL3.out HY.out.lt).lt).lt).cell 1 _ rfl
        have b3 := ((HBX.out.mono hBB).cell (p := ⟨b1, f1 + k * 4 + 3, none⟩) hb1).trans HC3.out
        have p2 := HQ9.out.cell 2 _ rfl
        go_upto_region 19 with fail
        refine wp_region_held_drew (S := (fun w' => w'.cell? ⟨gs, 0, none⟩ = some (.slice A7 s.mem.length c7) ∧ w'.cell? ⟨gs, 1, none⟩ = some (.slice (some ⟨b1, f1, none⟩) s.ths.length c1) ∧ w'.cell? ⟨b1, f1 + k * 4 + 3, none⟩ = some (.slice Ab xb.length cb) ∧ w'.cell? ⟨g9, 2, none⟩ = some (.int .i64 lc) ∧ Below X4.heap.size X4 w')) (by kernel_rfl) ⟨y0, y1, b3, p2, below_drewN (Below.refl _ _) 1⟩ (fun hHeld => ?_)
        obtain ⟨Xs, hXs⟩ : ∃ W, W = X4.drew := ⟨_, rfl⟩
        rw [← hXs] at hHeld ⊢
        clear hXs
        refine wpAnyH_take (i := 0) (v := ?_) rfl (by kernel_rfl) (by kernel_rfl) (by kernel_rfl) (fun _ _ _ h => h) (Or.inl ⟨by rfl, ?_⟩) (by assumption) ?_
        rotate_left
        · intro w hSw; (try dsimp only at hSw); go_simp; (try with_reducible rfl)
        (try simp only [Act.put, pt8])
        refine wpAnyH_take (i := 1) (v := ?_) rfl (by kernel_rfl) (by kernel_rfl) (by kernel_rfl) (fun _ _ _ h => h) (Or.inl ⟨by rfl, ?_⟩) (by assumption) ?_
        rotate_left
        · intro w hSw; (try dsimp only at hSw); go_simp; (try with_reducible rfl)
        (try simp only [Act.put, pt8])
        refine wpAnyH_take (i := 2) (v := ?_) rfl (by kernel_rfl) (by kernel_rfl) (by kernel_rfl) (fun _ _ _ h => h) (Or.inl ⟨by rfl, ?_⟩) (by assumption) ?_
        rotate_left
        · intro w hSw; (try dsimp only at hSw); go_simp; (try with_reducible rfl)
        (try simp only [Act.put, pt8])
        refine wpAnyH_take (i := 3) (v := ?_) rfl (by kernel_rfl) (by kernel_rfl) (by kernel_rfl) (fun _ _ _ h => h) (Or.inl ⟨by rfl, ?_⟩) (by assumption) ?_
        rotate_left
        · intro w hSw; (try dsimp only at hSw); go_simp; (try with_reducible rfl)
        (try simp only [Act.put, pt8])
        refine wpAnyH_take (i := 4) (v := ?_) rfl (by kernel_rfl) (by kernel_rfl) (by kernel_rfl) (fun _ _ _ h => h) (Or.inl ⟨by rfl, ?_⟩) (by assumption) ?_
        rotate_left
        · intro w hSw; (try dsimp only at hSw); go_simp; (try with_reducible rfl)
        (try simp only [Act.put, pt8])
        refine wpAnyH_take (i := 5) (v := ?_) rfl (by kernel_rfl) (by kernel_rfl) (by kernel_rfl) (fun _ _ _ h => h) (Or.inl ⟨by rfl, ?_⟩) (by assumption) ?_
        rotate_left
        · intro w hSw; (try dsimp only at hSw); go_simp; (try with_reducible rfl)
        (try simp only [Act.put, pt8])
        refine wpAnyH_take (i := 6) (v := ?_) rfl (by kernel_rfl) (by kernel_rfl) (by kernel_rfl) (fun _ _ _ h => h) (Or.inl ⟨by rfl, ?_⟩) (by assumption) ?_
        rotate_left
        · intro w hSw; (try dsimp only at hSw); go_simp; (try with_reducible rfl)
        (try simp only [Act.put, pt8])
        refine wpAnyH_take (i := 7) (v := ?_) rfl (by kernel_rfl) (by kernel_rfl) (by kernel_rfl) (fun _ _ _ h => h) (Or.inl ⟨by rfl, ?_⟩) (by assumption) ?_
        rotate_left
        · intro w hSw; (try dsimp only at hSw); go_simp; (try with_reducible rfl)
        (try simp only [Act.put, pt8])
        refine wpAnyH_take (i := 8) (v := ?_) rfl (by kernel_rfl) (by kernel_rfl) (by kernel_rfl) (fun _ _ _ h => h) (Or.inl ⟨by rfl, ?_⟩) (by assumption) ?_
        rotate_left
        · intro w hSw; (try dsimp only at hSw); go_simp; (try with_reducible rfl)
        (try simp only [Act.put, pt8])
        refine wpAnyH_take (i := 9) (v := ?_) rfl (by kernel_rfl) (by kernel_rfl) (by kernel_rfl) (fun _ _ _ h => h) (Or.inl ⟨by rfl, ?_⟩) (by assumption) ?_
        rotate_left
        · intro w hSw; (try dsimp only at hSw); go_simp; (try with_reducible rfl)
        (try simp only [Act.put, pt8])
        refine wpAnyH_ready (rs := [10]) (by kernel_rfl) (by simp) ?_
        refine AllReadyH.cons rfl (fun K hK => ?_) AllReadyH.nil
        obtain ⟨q0, q1, q2, q3, q4⟩ := hHeld
        go_simp
        refine (HVW.out _ (chain HBX.out q4)).mono ?_
        rintro e X5 ⟨rfl, hb⟩
        rw [HVV.out.1]
        have HB5 := Lib.hid (show Below X4.heap.size X4 X5 from chain q4 hb)
        refine hK.out _ _ ⟨kc hb q0, kc hb q1, kc hb q2, kc hb q3, chain q4 hb⟩ (fun hHeld => ?_)
        clear q0 q1 q2 q3 q4
        clear hK K
        (try simp only [Act.put, pt8])
        clear hb
        refine wpAnyH_take (i := 11) (v := ?_) rfl (by kernel_rfl) (by kernel_rfl) (by kernel_rfl) (fun _ _ _ h => h) (Or.inl ⟨by rfl, ?_⟩) (by assumption) ?_
        rotate_left
        · intro w hSw; (try dsimp only at hSw); go_simp; (try with_reducible rfl)
        (try simp only [Act.put, pt8])
        refine wpAnyH_take (i := 12) (v := ?_) rfl (by kernel_rfl) (by kernel_rfl) (by kernel_rfl) (fun _ _ _ h => h) (Or.inl ⟨by rfl, ?_⟩) (by assumption) ?_
        rotate_left
        · intro w hSw; (try dsimp only at hSw); go_simp; (try with_reducible rfl)
        (try simp only [Act.put, pt8])
        refine wpAnyH_take (i := 13) (v := ?_) rfl (by kernel_rfl) (by kernel_rfl) (by kernel_rfl) (fun _ _ _ h => h) (Or.inl ⟨by rfl, ?_⟩) (by assumption) ?_
        rotate_left
        · intro w hSw; (try dsimp only at hSw); go_simp; (try with_reducible rfl)
        (try simp only [Act.put, pt8])
        refine wpAnyH_ready (rs := [14]) (by kernel_rfl) (by simp) ?_
        refine AllReadyH.cons rfl (fun K hK => ?_) AllReadyH.nil
        go_simp
        refine hK.out _ _ hHeld (fun hHeld => ?_)
        clear hK K
        (try simp only [Act.put, pt8])
        refine wpAnyH_ready (rs := [15]) (by kernel_rfl) (by simp) ?_
        refine AllReadyH.cons rfl (fun K hK => ?_) AllReadyH.nil
        go_simp
        refine hK.out _ _ hHeld (fun hHeld => ?_)
        clear hK K
        (try simp only [Act.put, pt8])
        refine wpAnyH_done (by kernel_rfl) ?_ _
        clear hHeld y0 y1 b3 p0 p2
        obtain ⟨j, rfl⟩ : ∃ j : Nat, rg = j := ⟨rg.toNat, by have := HPR.out.1; dsimp only at this; omega⟩
        have hj4 : j < xr.length := by have h := HPR.out.2; have h' := HXR.out; dsimp only at h h'; omega
        have HT := Lib.hid (show stT ⟨2, (j : Int), lc, nn, tn⟩ s.mem ⟨xa, xr, xe, xb⟩ = ⟨xa + 1, xr.set j (nth s.mem lc), xe, xb⟩ from by simp [stT, stR, stE, jumps])
        have HM := Lib.hid (show ScM.stM ⟨2, (j : Int), lc, nn, tn⟩ s.mem xr = s.mem from by simp [ScM.stM])
        have HO5 := Lib.hid (HO4.out.below HB5.out)
        have HN5 := Lib.hid (HN.out.below HB5.out HN.out.lt)
        have HQ95 := Lib.hid (HQ9.out.below HB5.out HQ9.out.lt)
        have HRR5 := Lib.hid (HRR.out.below HB5.out HRR.out.lt)
        rw [HM.out] at HO5
        obtain ⟨vr2, vb2, hpk⟩ := HO5.out.pk (k := k) (by simpa using hks)
        simp only [List.getElem_set_self] at hpk
        obtain ⟨hkp, hpe⟩ := List.getElem?_eq_some_iff.1 hpk
        obtain ⟨gt, cv', cur, hev, hgt, hbv, t0, t1, t2, t3⟩ := HO5.out.row hkp
        rw [List.length_set] at hev
        injection hev with hev1 hev3 hev2
        clear hev3
        subst hev1 hev2
        rw [hpe] at t1 t3
        have HPK' := Lib.hid hpk
        have HOE := Lib.hid (HO5.out.each _ (List.getElem_mem hkp))
        rw [hpe] at HOE
        have HBV := Lib.hid hbv
        have HGT := Lib.hid hgt
        clear hpk hbv hgt hpe t0 t2
        dsimp only at HOE
        rw [HT.out] at HOE HPK'
        rw [HT.out] at HO5
        obtain ⟨gv, cr, curr, hvr, hgv, hbr, hcr⟩ := own_nu (l := xr.set j (nth s.mem lc)) HOE.out.1 (j := j) (by simpa using hj4)
        subst hvr
        have HBR := Lib.hid hbr
        have HGV := Lib.hid hgv
        have HCR := Lib.hid hcr
        clear hbr hgv hcr t3
        have HN1 := Lib.hid (HBV.out.unlike HBR.out (by decide))
        have HN2 := Lib.hid (HQ95.out.unlike HBR.out (by decide))
        have HN3 := Lib.hid (HN5.out.unlike HBR.out (by decide))
        have o1 := HN5.out.cell 1 _ rfl
        have p1 := HQ95.out.cell 1 _ rfl
        go_upto_region 20 with fail
        refine wp_region_held_drew (S := (fun w' => w'.cell? ⟨gn, 1, none⟩ = some (.slice (some ⟨gt, 0, none⟩) s.ths.length vn) ∧ w'.cell? ⟨gt, k * 4 + 1, none⟩ = some (.slice (some ⟨gv, 0, none⟩) (xr.set j (nth s.mem lc)).length cr) ∧ w'.cell? ⟨g9, 1, none⟩ = some (.int .i64 (j : Int)) ∧ True)) (by kernel_rfl) ⟨o1, t1, p1, trivial⟩ (fun hHeld => ?_)
        obtain ⟨X6, hX6⟩ : ∃ W, W = X5.drew := ⟨_, rfl⟩
        have HB6 := Lib.hid (show Below X5.heap.size X5 X6 from by rw [hX6]; exact below_drewN (Below.refl _ _) 1)
        rw [← hX6] at hHeld ⊢
        clear hX6
        refine wpAnyH_take (i := 0) (v := ?_) rfl (by kernel_rfl) (by kernel_rfl) (by kernel_rfl) (fun _ _ _ h => h) (Or.inl ⟨by rfl, ?_⟩) (by assumption) ?_
        rotate_left
        · intro w hSw; (try dsimp only at hSw); go_simp; (try with_reducible rfl)
        (try simp only [Act.put, pt8])
        refine wpAnyH_take (i := 1) (v := ?_) rfl (by kernel_rfl) (by kernel_rfl) (by kernel_rfl) (fun _ _ _ h => h) (Or.inl ⟨by rfl, ?_⟩) (by assumption) ?_
        rotate_left
        · intro w hSw; (try dsimp only at hSw); go_simp; (try with_reducible rfl)
        (try simp only [Act.put, pt8])
        refine wpAnyH_take (i := 2) (v := ?_) rfl (by kernel_rfl) (by kernel_rfl) (by kernel_rfl) (fun _ _ _ h => h) (Or.inl ⟨by rfl, ?_⟩) (by assumption) ?_
        rotate_left
        · intro w hSw; (try dsimp only at hSw); go_simp; (try with_reducible rfl)
        (try simp only [Act.put, pt8])
        refine wpAnyH_take (i := 3) (v := ?_) rfl (by kernel_rfl) (by kernel_rfl) (by kernel_rfl) (fun _ _ _ h => h) (Or.inl ⟨by rfl, ?_⟩) (by assumption) ?_
        rotate_left
        · intro w hSw; (try dsimp only at hSw); go_simp; (try with_reducible rfl)
        (try simp only [Act.put, pt8])
        refine wpAnyH_take (i := 4) (v := ?_) rfl (by kernel_rfl) (by kernel_rfl) (by kernel_rfl) (fun _ _ _ h => h) (Or.inl ⟨by rfl, ?_⟩) (by assumption) ?_
        rotate_left
        · intro w hSw; (try dsimp only at hSw); go_simp; (try with_reducible rfl)
        (try simp only [Act.put, pt8])
        refine wpAnyH_take (i := 5) (v := ?_) rfl (by kernel_rfl) (by kernel_rfl) (by kernel_rfl) (fun _ _ _ h => h) (Or.inl ⟨by rfl, ?_⟩) (by assumption) ?_
        rotate_left
        · intro w hSw; (try dsimp only at hSw); go_simp; (try with_reducible rfl)
        (try simp only [Act.put, pt8])
        refine wpAnyH_take (i := 6) (v := ?_) rfl (by kernel_rfl) (by kernel_rfl) (by kernel_rfl) (fun _ _ _ h => h) (Or.inl ⟨by rfl, ?_⟩) (by assumption) ?_
        rotate_left
        · intro w hSw; (try dsimp only at hSw); go_simp; (try with_reducible rfl)
        (try simp only [Act.put, pt8])
        refine wpAnyH_take (i := 7) (v := ?_) rfl (by kernel_rfl) (by kernel_rfl) (by kernel_rfl) (fun _ _ _ h => h) (Or.inl ⟨by rfl, ?_⟩) (by assumption) ?_
        rotate_left
        · intro w hSw; (try dsimp only at hSw); go_simp; (try with_reducible rfl)
        (try simp only [Act.put, pt8])
        refine wpAnyH_take (i := 8) (v := ?_) rfl (by kernel_rfl) (by kernel_rfl) (by kernel_rfl) (fun _ _ _ h => h) (Or.inl ⟨by rfl, ?_⟩) (by assumption) ?_
        rotate_left
        · intro w hSw; (try dsimp only at hSw); go_simp; (try with_reducible rfl)
        (try simp only [Act.put, pt8])
        refine wpAnyH_take (i := 9) (v := ?_) rfl (by kernel_rfl) (by kernel_rfl) (by kernel_rfl) (fun _ _ _ h => h) (Or.inl ⟨by rfl, ?_⟩) (by assumption) ?_
        rotate_left
        · intro w hSw; (try dsimp only at hSw); go_simp; (try with_reducible rfl)
        (try simp only [Act.put, pt8])
        refine wpAnyH_ready (rs := [10]) (by kernel_rfl) (by simp) ?_
        refine AllReadyH.cons rfl (fun K hK => ?_) AllReadyH.nil
        obtain ⟨q0, q1, q2, -⟩ := hHeld
        have v6 := (HBR.out.below HB6.out HBR.out.lt).frozen j
        have e6 := kc HB6.out HCR.out
        go_simp
        refine hK.out _ _ ⟨st_ne HN3.out q0, st_ne HN1.out q1, st_ne HN2.out q2, trivial⟩ (fun hHeld => ?_)
        clear q0 q1 q2 v6 e6
        clear hK K
        (try simp only [Act.put, pt8])
        refine wpAnyH_done (by kernel_rfl) ?_ _
        clear hHeld o1 p1 t1
        obtain ⟨X7, hX7⟩ : ∃ W, W = X6.setCell ⟨gv, j, none⟩ (.int .i64 n9) := ⟨_, rfl⟩
        have HO7 := Lib.hid (show OwnSt X2.heap.size X7 (.slice Mn s.mem.length mn) (.slice (some ⟨gt, 0, none⟩) s.ths.length vn) ⟨s.mem, s.ths.set k ⟨xa + 1, xr.set j n9, xe, xb⟩⟩ (ps2.set k ⟨⟨xa + 1, (xr.set j (nth s.mem lc)).set j n9, xe, xb⟩, .slice (some ⟨gv, 0, none⟩) (xr.set j (nth s.mem lc)).length cr, vb2⟩) from by
          rw [hX7]
          have := own_setR (j := j) (z := n9) (HO5.out.below HB6.out) HPK'.out
          exact this.cast (by rw [List.set_set, List.set_set]))
        have HN7 := Lib.hid (show BoxC X7 gn 33 #[.slice Mn s.mem.length mn, .slice (some ⟨gt, 0, none⟩) s.ths.length vn] from by rw [hX7]; exact (HN5.out.below HB6.out HN5.out.lt).other HN3.out _ _)
        have HRR := Lib.hid (show BoxC X7 gr 33 #[.slice none 0 0, .slice none 0 0] from by rw [hX7]; exact (HRR5.out.below HB6.out HRR5.out.lt).other ((HRR5.out.below HB6.out HRR5.out.lt).unlike (HBR.out.below HB6.out HBR.out.lt) (by decide)) _ _)
        have HB7 := Lib.hid (show Below w.heap.size w X7 from by rw [hX7]; exact (chain HBX.out (chain HB5.out HB6.out)).setCell (p := ⟨gv, j, none⟩) (Nat.le_trans HB3.out.size (Nat.le_trans HL3.out.size (Nat.le_trans HL2.out.size HGV.out))) _)
        have HF4 := Lib.hid (show tsS ⟨2, (j : Int), lc, nn, tn⟩ s k ⟨xa, xr, xe, xb⟩ = ⟨s.mem, s.ths.set k ⟨xa + 1, xr.set j n9, xe, xb⟩⟩ from by rw [HF3.out, HVV.out.2]; simp)
        rw [← hX7]
        clear hX7
        have z0 := HN7.out.cell 0 _ rfl
        have z1 := HN7.out.cell 1 _ rfl
        have r0 := HRR.out.cell 0 _ rfl
        have r1 := HRR.out.cell 1 _ rfl
        have f0 := HRR.out.frozen 0
        have f1 := HRR.out.frozen 1
        obtain ⟨W9, hW9⟩ : ∃ W, W = (X7.setCell ⟨gr, 0, none⟩ (.slice Mn s.mem.length mn)).setCell ⟨gr, 1, none⟩ (.slice (some ⟨gt, 0, none⟩) s.ths.length vn) := ⟨_, rfl⟩
        have HR9 := Lib.hid (show BoxC W9 gr 33 #[(.slice Mn s.mem.length mn), (.slice (some ⟨gt, 0, none⟩) s.ths.length vn)] from by rw [hW9]; exact (HRR.out.set 0 _).set 1 _)
        have HO9 := Lib.hid (show OwnSt W3.heap.size W9 (.slice Mn s.mem.length mn) (.slice (some ⟨gt, 0, none⟩) s.ths.length vn) (tsS ⟨2, (j : Int), lc, nn, tn⟩ s k ⟨xa, xr, xe, xb⟩) (ps2.set k ⟨⟨xa + 1, (xr.set j (nth s.mem lc)).set j n9, xe, xb⟩, .slice (some ⟨gv, 0, none⟩) (xr.set j (nth s.mem lc)).length cr, vb2⟩) from by
          rw [hW9]
          exact (((HO7.out.base (Nat.le_trans HL3.out.size HL2.out.size)).cast HF4.out.symm).box HRR.out (by decide) (by decide) (by decide) 0 _).box (HRR.out.set 0 _) (by decide) (by decide) (by decide) 1 _)
        have HB9 := Lib.hid (show Below w.heap.size w W9 from by rw [hW9]; exact (HB7.out.setCell (p := ⟨gr, 0, none⟩) HGR.out _).setCell (p := ⟨gr, 1, none⟩) HGR.out _)
        have HW9 := Lib.hid hW9
        clear hW9
        go_wp2_with fail
        rw [← HW9.out]
        clear r0 r1 f0 f1
        have r0 := HR9.out.cell 0 _ rfl
        have r1 := HR9.out.cell 1 _ rfl
        have hz := HCO.out
        refine bodyPost_ret (v := .tuple #[.agg #[(.slice Mn s.mem.length mn), (.slice (some ⟨gt, 0, none⟩) s.ths.length vn)], .bool true]) (by simp [results, Try.results38, go_sem, r0, r1, hz]) rfl ⟨_, _, _, by rw [HF2.out]; rfl, (by rw [HF2.out]; exact HO9.out.base HB3.out.size), HB9.out⟩
      have e2 : ¬ ((op == 2) = true) := by simpa using h2
      by_cases h3 : op = 3
      · subst h3
        have HLO := Lib.hid (HPX.out.loc (by rfl))
        obtain ⟨l, rfl⟩ : ∃ l : Nat, lc = l := ⟨lc.toNat, by have h := HLO.out.1; dsimp only at h; omega⟩
        have HT := Lib.hid (show stT ⟨3, rg, (l : Int), nn, tn⟩ s.mem ⟨xa, xr, xe, xb⟩ = ⟨xa + 1, xr, xe, xb⟩ from by simp [stT, stR, stE, jumps])
        have HPR := Lib.hid (HPX.out.reg (by rfl))
        obtain ⟨r, rfl⟩ : ∃ r : Nat, rg = r := ⟨rg.toNat, by have := HPR.out.1; dsimp only at this; omega⟩
        have hr4 : r < xr.length := by have h := HPR.out.2; have h' := HXR.out; dsimp only at h h'; omega
        obtain ⟨z, hz⟩ : ∃ z, z = xr[r] := ⟨_, rfl⟩
        have HZE := Lib.hid (show nth xr (r : Int) = z from by rw [hz]; unfold nth; simp [hr4])
        have HRG0 := Lib.hid (show ∃ br fr c, vr = .slice (some ⟨br, fr, none⟩) xr.length c ∧ br < B ∧ w.cell? ⟨br, fr + r, none⟩ = some (.int .i64 z) from by
          obtain ⟨Ar, car, e, -, -, -, hr3⟩ := hRg
          obtain ⟨br, fr, e2, hbr, hcr⟩ := nu_at (c := car) hr3 (by omega)
          subst e e2
          exact ⟨br, fr, car, rfl, hbr, by rw [hz]; exact hcr r hr4⟩)
        clear hz
        have HF3 := Lib.hid (show tsS ⟨3, (r : Int), (l : Int), nn, tn⟩ s k ⟨xa, xr, xe, xb⟩ = ⟨s.mem, s.ths.set k ⟨xa + 1, xr, xe, xb ++ [⟨(l : Int), z⟩]⟩⟩ from by simp [tsS, HZE.out])
        have HQ1' := HQ1
        have i0 := HQ1.out.cell 0 _ rfl
        have n0 := HN.out.cell 0 _ rfl
        have nf := HN.out.frozen 0
        go_upto_region 23 with fail
        obtain ⟨X5, hX5⟩ : ∃ W, W = X4.setCell ⟨gn, 0, none⟩ (.slice Am s.mem.length cm) := ⟨_, rfl⟩
        have HN5 := Lib.hid (show BoxC X5 gn 33 #[.slice Am s.mem.length cm, .slice Vn s.ths.length vn] from by rw [hX5]; exact HN.out.set 0 _)
        have HMO := Lib.hid (show OwnI W3.heap.size X4 (.slice Am s.mem.length cm) s.mem from own_below HOS.out.mem (chain HL2.out HL4.out))
        have HMX := Lib.hid (show OwnI W3.heap.size X2 (.slice Am s.mem.length cm) s.mem from own_below HOS.out.mem HL2.out)
        have HO5 := Lib.hid (show OwnSt W3.heap.size X5 (.slice Am s.mem.length cm) (.slice Vn s.ths.length vn) ⟨s.mem, s.ths.set k (stT ⟨3, (r : Int), (l : Int), nn, tn⟩ s.mem ⟨xa, xr, xe, xb⟩)⟩ ps2 from by
          rw [hX5]
          exact ((HO4.out.base (Nat.le_trans HL3.out.size HL2.out.size)).memRow HMO.out (fun p hp => ap_new HMX.out (HO4.out.each p hp).1 (Nat.le_refl _))).box HN.out (by decide) (by decide) (by decide) 0 _)
        have HGNE := Lib.hid (show gn ≠ gr from by have h1 := HR.out.lt; have h2 := HGN.out; have h3 := HL3.out.size; have h4 := HL2.out.size; omega)
        have HQ95 := Lib.hid (show BoxC X5 g9 39 _ from by rw [hX5]; exact HQ9.out.other (HQ9.out.unlike HN.out (by decide)) _ _)
        have HRR5 := Lib.hid (show BoxC X5 gr 33 #[.slice none 0 0, .slice none 0 0] from by rw [hX5]; exact HRR.out.other (Ne.symm HGNE.out) _ _)
        have HGW := Lib.hid (show W3.heap.size ≤ gn from Nat.le_trans HL3.out.size (Nat.le_trans HL2.out.size HGN.out))
        have HB35 := Lib.hid (show Below W3.heap.size W3 X5 from by rw [hX5]; exact (chain HL3.out (chain HL2.out HL4.out)).setCell (p := ⟨gn, 0, none⟩) HGW.out _)
        have HB5 := Lib.hid (show Below w.heap.size w X5 from by rw [hX5]; exact HBX.out.setCell (p := ⟨gn, 0, none⟩) (Nat.le_trans HB3.out.size HGW.out) _)
        rw [← hX5]
        clear hX5 i0 n0 nf p0
        obtain ⟨vr2, vb2, hpk⟩ := HO5.out.pk (k := k) (by simpa using hks)
        simp only [List.getElem_set_self] at hpk
        obtain ⟨hkp, hpe⟩ := List.getElem?_eq_some_iff.1 hpk
        obtain ⟨gt, cv', cur, hev, hgt, hbv, t0, t1, t2, t3⟩ := HO5.out.row hkp
        rw [List.length_set] at hev
        injection hev with hev1 hev3 hev2
        clear hev3
        subst hev1 hev2
        rw [hpe] at t1 t3
        have HPK' := Lib.hid hpk
        have HOE := Lib.hid (HO5.out.each _ (List.getElem_mem hkp))
        rw [hpe] at HOE
        have HBV := Lib.hid hbv
        have HGT := Lib.hid hgt
        clear hpk hbv hgt hpe t0 t2
        dsimp only at HOE
        rw [HT.out] at HOE HPK'
        rw [HT.out] at HO5
        have o1 := HN5.out.cell 1 _ rfl
        have y1 := (HY.out.below HB35.out HY.out.lt).cell 1 _ rfl
        have b3 := ((HB5.out.mono hBB).cell (p := ⟨b1, f1 + k * 4 + 3, none⟩) hb1).trans HC3.out
        have p2 := HQ95.out.cell 2 _ rfl
        have p1 := HQ95.out.cell 1 _ rfl
        obtain ⟨br, fr, car, hvr, hbr, hcr⟩ := HRG0.out
        have bb2 := ((HB5.out.mono hBB).cell (p := ⟨b1, f1 + k * 4 + 1, none⟩) hb1).trans b2
        rw [hvr] at bb2
        have rr := ((HB5.out.mono hBB).cell (p := ⟨br, fr + r, none⟩) hbr).trans hcr
        clear t1
        have HT3 := Lib.hid t3
        clear t3
        refine wp_region_held_drew (S := (fun w' => w'.cell? ⟨gn, 1, none⟩ = some (.slice (some ⟨gt, 0, none⟩) s.ths.length vn) ∧ w'.cell? ⟨gs, 1, none⟩ = some (.slice (some ⟨b1, f1, none⟩) s.ths.length c1) ∧ w'.cell? ⟨b1, f1 + k * 4 + 3, none⟩ = some (.slice Ab xb.length cb) ∧ w'.cell? ⟨g9, 2, none⟩ = some (.int .i64 (l : Int)) ∧ w'.cell? ⟨g9, 1, none⟩ = some (.int .i64 (r : Int)) ∧ w'.cell? ⟨b1, f1 + k * 4 + 1, none⟩ = some (.slice (some ⟨br, fr, none⟩) xr.length car) ∧ w'.cell? ⟨br, fr + r, none⟩ = some (.int .i64 z) ∧ True)) (by kernel_rfl) ⟨o1, y1, b3, p2, p1, bb2, rr, trivial⟩ (fun hHeld => ?_)
        obtain ⟨X6, hX6⟩ : ∃ W, W = X5.drew := ⟨_, rfl⟩
        have HB6 := Lib.hid (show Below X5.heap.size X5 X6 from by rw [hX6]; exact below_drewN (Below.refl _ _) 1)
        rw [← hX6] at hHeld ⊢
        clear hX6
        refine wpAnyH_take (i := 0) (v := ?_) rfl (by kernel_rfl) (by kernel_rfl) (by kernel_rfl) (fun _ _ _ h => h) (Or.inl ⟨by rfl, ?_⟩) (by assumption) ?_
        rotate_left
        · intro w hSw; (try dsimp only at hSw); go_simp; (try with_reducible rfl)
        (try simp only [Act.put, pt8])
        refine wpAnyH_take (i := 1) (v := ?_) rfl (by kernel_rfl) (by kernel_rfl) (by kernel_rfl) (fun _ _ _ h => h) (Or.inl ⟨by rfl, ?_⟩) (by assumption) ?_
        rotate_left
        · intro w hSw; (try dsimp only at hSw); go_simp; (try with_reducible rfl)
        (try simp only [Act.put, pt8])
        refine wpAnyH_take (i := 2) (v := ?_) rfl (by kernel_rfl) (by kernel_rfl) (by kernel_rfl) (fun _ _ _ h => h) (Or.inl ⟨by rfl, ?_⟩) (by assumption) ?_
        rotate_left
        · intro w hSw; (try dsimp only at hSw); go_simp; (try with_reducible rfl)
        (try simp only [Act.put, pt8])
        refine wpAnyH_take (i := 3) (v := ?_) rfl (by kernel_rfl) (by kernel_rfl) (by kernel_rfl) (fun _ _ _ h => h) (Or.inl ⟨by rfl, ?_⟩) (by assumption) ?_
        rotate_left
        · intro w hSw; (try dsimp only at hSw); go_simp; (try with_reducible rfl)
        (try simp only [Act.put, pt8])
        refine wpAnyH_take (i := 4) (v := ?_) rfl (by kernel_rfl) (by kernel_rfl) (by kernel_rfl) (fun _ _ _ h => h) (Or.inl ⟨by rfl, ?_⟩) (by assumption) ?_
        rotate_left
        · intro w hSw; (try dsimp only at hSw); go_simp; (try with_reducible rfl)
        (try simp only [Act.put, pt8])
        refine wpAnyH_take (i := 5) (v := ?_) rfl (by kernel_rfl) (by kernel_rfl) (by kernel_rfl) (fun _ _ _ h => h) (Or.inl ⟨by rfl, ?_⟩) (by assumption) ?_
        rotate_left
        · intro w hSw; (try dsimp only at hSw); go_simp; (try with_reducible rfl)
        (try simp only [Act.put, pt8])
        refine wpAnyH_take (i := 6) (v := ?_) rfl (by kernel_rfl) (by kernel_rfl) (by kernel_rfl) (fun _ _ _ h => h) (Or.inl ⟨by rfl, ?_⟩) (by assumption) ?_
        rotate_left
        · intro w hSw; (try dsimp only at hSw); go_simp; (try with_reducible rfl)
        (try simp only [Act.put, pt8])
        refine wpAnyH_take (i := 7) (v := ?_) rfl (by kernel_rfl) (by kernel_rfl) (by kernel_rfl) (fun _ _ _ h => h) (Or.inl ⟨by rfl, ?_⟩) (by assumption) ?_
        rotate_left
        · intro w hSw; (try dsimp only at hSw); go_simp; (try with_reducible rfl)
        (try simp only [Act.put, pt8])
        refine wpAnyH_take (i := 8) (v := ?_) rfl (by kernel_rfl) (by kernel_rfl) (by kernel_rfl) (fun _ _ _ h => h) (Or.inl ⟨by rfl, ?_⟩) (by assumption) ?_
        rotate_left
        · intro w hSw; (try dsimp only at hSw); go_simp; (try with_reducible rfl)
        (try simp only [Act.put, pt8])
        refine wpAnyH_take (i := 9) (v := ?_) rfl (by kernel_rfl) (by kernel_rfl) (by kernel_rfl) (fun _ _ _ h => h) (Or.inl ⟨by rfl, ?_⟩) (by assumption) ?_
        rotate_left
        · intro w hSw; (try dsimp only at hSw); go_simp; (try with_reducible rfl)
        (try simp only [Act.put, pt8])
        refine wpAnyH_take (i := 10) (v := ?_) rfl (by kernel_rfl) (by kernel_rfl) (by kernel_rfl) (fun _ _ _ h => h) (Or.inl ⟨by rfl, ?_⟩) (by assumption) ?_
        rotate_left
        · intro w hSw; (try dsimp only at hSw); go_simp; (try with_reducible rfl)
        (try simp only [Act.put, pt8])
        refine wpAnyH_take (i := 11) (v := ?_) rfl (by kernel_rfl) (by kernel_rfl) (by kernel_rfl) (fun _ _ _ h => h) (Or.inl ⟨by rfl, ?_⟩) (by assumption) ?_
        rotate_left
        · intro w hSw; (try dsimp only at hSw); go_simp; (try with_reducible rfl)
        (try simp only [Act.put, pt8])
        refine wpAnyH_take (i := 12) (v := ?_) rfl (by kernel_rfl) (by kernel_rfl) (by kernel_rfl) (fun _ _ _ h => h) (Or.inl ⟨by rfl, ?_⟩) (by assumption) ?_
        rotate_left
        · intro w hSw; (try dsimp only at hSw); go_simp; (try with_reducible rfl)
        (try simp only [Act.put, pt8])
        refine wpAnyH_take (i := 13) (v := ?_) rfl (by kernel_rfl) (by kernel_rfl) (by kernel_rfl) (fun _ _ _ h => h) (Or.inl ⟨by rfl, ?_⟩) (by assumption) ?_
        rotate_left
        · intro w hSw; (try dsimp only at hSw); go_simp; (try with_reducible rfl)
        (try simp only [Act.put, pt8])
        refine wpAnyH_take (i := 14) (v := ?_) rfl (by kernel_rfl) (by kernel_rfl) (by kernel_rfl) (fun _ _ _ h => h) (Or.inl ⟨by rfl, ?_⟩) (by assumption) ?_
        rotate_left
        · intro w hSw; (try dsimp only at hSw); go_simp; (try with_reducible rfl)
        (try simp only [Act.put, pt8])
        refine wpAnyH_take (i := 15) (v := ?_) rfl (by kernel_rfl) (by kernel_rfl) (by kernel_rfl) (fun _ _ _ h => h) (Or.inl ⟨by rfl, ?_⟩) (by assumption) ?_
        rotate_left
        · intro w hSw; (try dsimp only at hSw); go_simp; (try with_reducible rfl)
        (try simp only [Act.put, pt8])
        refine wpAnyH_take (i := 16) (v := ?_) rfl (by kernel_rfl) (by kernel_rfl) (by kernel_rfl) (fun _ _ _ h => h) (Or.inl ⟨by rfl, ?_⟩) (by assumption) ?_
        rotate_left
        · intro w hSw; (try dsimp only at hSw); go_simp; (try with_reducible rfl)
        (try simp only [Act.put, pt8])
        refine wpAnyH_take (i := 17) (v := ?_) rfl (by kernel_rfl) (by kernel_rfl) (by kernel_rfl) (fun _ _ _ h => h) (Or.inl ⟨by rfl, ?_⟩) (by assumption) ?_
        rotate_left
        · intro w hSw; (try dsimp only at hSw); go_simp; (try with_reducible rfl)
        (try simp only [Act.put, pt8])
        refine wpAnyH_take (i := 18) (v := ?_) rfl (by kernel_rfl) (by kernel_rfl) (by kernel_rfl) (fun _ _ _ h => h) (Or.inl ⟨by rfl, ?_⟩) (by assumption) ?_
        rotate_left
        · intro w hSw; (try dsimp only at hSw); go_simp; (try with_reducible rfl)
        (try simp only [Act.put, pt8])
        refine wpAnyH_take (i := 19) (v := ?_) rfl (by kernel_rfl) (by kernel_rfl) (by kernel_rfl) (fun _ _ _ h => h) (Or.inl ⟨by rfl, ?_⟩) (by assumption) ?_
        rotate_left
        · intro w hSw; (try dsimp only at hSw); go_simp; (try with_reducible rfl)
        (try simp only [Act.put, pt8])
        refine wpAnyH_take (i := 20) (v := ?_) rfl (by kernel_rfl) (by kernel_rfl) (by kernel_rfl) (fun _ _ _ h => h) (Or.inl ⟨by rfl, ?_⟩) (by assumption) ?_
        rotate_left
        · intro w hSw; (try dsimp only at hSw); go_simp; (try with_reducible rfl)
        (try simp only [Act.put, pt8])
        refine wpAnyH_take (i := 21) (v := ?_) rfl (by kernel_rfl) (by kernel_rfl) (by kernel_rfl) (fun _ _ _ h => h) (Or.inl ⟨by rfl, ?_⟩) (by assumption) ?_
        rotate_left
        · intro w hSw; (try dsimp only at hSw); go_simp; (try with_reducible rfl)
        (try simp only [Act.put, pt8])
        refine wpAnyH_ready (rs := [22]) (by kernel_rfl) (by simp) ?_
        refine AllReadyH.cons rfl (fun K hK => ?_) AllReadyH.nil
        obtain ⟨q0, q1, q2, q3, q4, q5, q6, -⟩ := hHeld
        go_simp
        refine (HPU.out X6 ⟨(l : Int), z⟩ (chain HB5.out HB6.out)).mono ?_
        rintro e X7 ⟨vu, rfl, hou, hb⟩
        obtain ⟨Bn, bn, rfl⟩ := own_slice (n := xb.length + 1) (show X7.ownsRow _ _ 2 vu (xb.length + 1) _ from by have e := hou; unfold OwnW at e; rw [List.length_append] at e; exact e)
        have HOU := Lib.hid (show OwnW X5.heap.size X7 _ _ from own_base hou HB6.out.size)
        have HB7 := Lib.hid (show Below X5.heap.size X5 X7 from chain HB6.out hb)
        refine hK.out _ _ ⟨kc hb q0, kc hb q1, kc hb q2, kc hb q3, kc hb q4, kc hb q5, kc hb q6, trivial⟩ (fun hHeld => ?_)
        clear q0 q1 q2 q3 q4 q5 q6
        clear hK K
        (try simp only [Act.put, pt8])
        clear hb hou
        have HBV7 := Lib.hid (HBV.out.below HB7.out HBV.out.lt)
        have v7 := HBV7.out.frozen (k * 4 + 3)
        have e7 := kc HB7.out HT3.out
        have HNa := Lib.hid ((HN5.out.below HB7.out HN5.out.lt).unlike HBV7.out (by decide))
        have HNb := Lib.hid (show gs ≠ gt from by have h1 := HY.out.lt; have h2 := HGT.out; omega)
        have HNc := Lib.hid (show b1 ≠ gt from by have h1 := hb1; have h2 := HGT.out; have h3 := HB3.out.size; omega)
        have HNd := Lib.hid ((HQ95.out.below HB7.out HQ95.out.lt).unlike HBV7.out (by decide))
        have HNe := Lib.hid (show br ≠ gt from by have h2 := HGT.out; have h3 := HB3.out.size; omega)
        refine wpAnyH_take (i := 23) (v := ?_) rfl (by kernel_rfl) (by kernel_rfl) (by kernel_rfl) (fun _ _ _ h => h) (Or.inl ⟨by rfl, ?_⟩) (by assumption) ?_
        rotate_left
        · intro w hSw; (try dsimp only at hSw); go_simp; (try with_reducible rfl)
        (try simp only [Act.put, pt8])
        refine wpAnyH_take (i := 24) (v := ?_) rfl (by kernel_rfl) (by kernel_rfl) (by kernel_rfl) (fun _ _ _ h => h) (Or.inl ⟨by rfl, ?_⟩) (by assumption) ?_
        rotate_left
        · intro w hSw; (try dsimp only at hSw); go_simp; (try with_reducible rfl)
        (try simp only [Act.put, pt8])
        refine wpAnyH_ready (rs := [25]) (by kernel_rfl) (by simp) ?_
        refine AllReadyH.cons rfl (fun K hK => ?_) AllReadyH.nil
        obtain ⟨q0, q1, q2, q3, q4, q5, q6, -⟩ := hHeld
        go_simp
        refine hK.out _ _ ⟨st_ne HNa.out q0, st_ne HNb.out q1, st_ne HNc.out q2, st_ne HNd.out q3, st_ne HNd.out q4, st_ne HNc.out q5, st_ne HNe.out q6, trivial⟩ (fun hHeld => ?_)
        clear q0 q1 q2 q3 q4 q5 q6 v7 e7
        clear hK K
        (try simp only [Act.put, pt8])
        refine wpAnyH_done (by kernel_rfl) ?_ _
        clear hHeld o1 y1 b3 p2 p1 bb2 rr
        obtain ⟨X8, hX8⟩ : ∃ W, W = X7.setCell ⟨gt, k * 4 + 3, none⟩ (.slice Bn (xb.length + 1) bn) := ⟨_, rfl⟩
        have HO8 := Lib.hid (show OwnSt W3.heap.size X8 (.slice Am s.mem.length cm) (.slice (some ⟨gt, 0, none⟩) s.ths.length vn) ⟨s.mem, s.ths.set k ⟨xa + 1, xr, xe, xb ++ [⟨(l : Int), z⟩]⟩⟩ (ps2.set k ⟨⟨xa + 1, xr, xe, xb ++ [⟨(l : Int), z⟩]⟩, vr2, .slice Bn (xb.length + 1) bn⟩) from by
          rw [hX8]
          have := (HO5.out.below HB7.out).setVB' HPK'.out (own_base HOU.out HB35.out.size)
          exact this.cast (by rw [List.set_set]))
        have HN8 := Lib.hid (show BoxC X8 gn 33 #[.slice Am s.mem.length cm, .slice (some ⟨gt, 0, none⟩) s.ths.length vn] from by rw [hX8]; exact (HN5.out.below HB7.out HN5.out.lt).other ((HN5.out.below HB7.out HN5.out.lt).unlike (HBV.out.below HB7.out HBV.out.lt) (by decide)) _ _)
        have HRR := Lib.hid (show BoxC X8 gr 33 #[.slice none 0 0, .slice none 0 0] from by rw [hX8]; exact (HRR5.out.below HB7.out HRR5.out.lt).other ((HRR5.out.below HB7.out HRR5.out.lt).unlike (HBV.out.below HB7.out HBV.out.lt) (by decide)) _ _)
        have HB8 := Lib.hid (show Below w.heap.size w X8 from by rw [hX8]; exact (chain HB5.out HB7.out).setCell (p := ⟨gt, k * 4 + 3, none⟩) (Nat.le_trans HB3.out.size HGT.out) _)
        rw [← hX8]
        clear hX8
        have z0 := HN8.out.cell 0 _ rfl
        have z1 := HN8.out.cell 1 _ rfl
        have r0 := HRR.out.cell 0 _ rfl
        have r1 := HRR.out.cell 1 _ rfl
        have f0 := HRR.out.frozen 0
        have f1 := HRR.out.frozen 1
        obtain ⟨W9, hW9⟩ : ∃ W, W = (X8.setCell ⟨gr, 0, none⟩ (.slice Am s.mem.length cm)).setCell ⟨gr, 1, none⟩ (.slice (some ⟨gt, 0, none⟩) s.ths.length vn) := ⟨_, rfl⟩
        have HR9 := Lib.hid (show BoxC W9 gr 33 #[(.slice Am s.mem.length cm), (.slice (some ⟨gt, 0, none⟩) s.ths.length vn)] from by rw [hW9]; exact (HRR.out.set 0 _).set 1 _)
        have HO9 := Lib.hid (show OwnSt W3.heap.size W9 (.slice Am s.mem.length cm) (.slice (some ⟨gt, 0, none⟩) s.ths.length vn) (tsS ⟨3, (r : Int), (l : Int), nn, tn⟩ s k ⟨xa, xr, xe, xb⟩) (ps2.set k ⟨⟨xa + 1, xr, xe, xb ++ [⟨(l : Int), z⟩]⟩, vr2, .slice Bn (xb.length + 1) bn⟩) from by
          rw [hW9]
          exact ((HO8.out.cast HF3.out.symm).box HRR.out (by decide) (by decide) (by decide) 0 _).box (HRR.out.set 0 _) (by decide) (by decide) (by decide) 1 _)
        have HB9 := Lib.hid (show Below w.heap.size w W9 from by rw [hW9]; exact (HB8.out.setCell (p := ⟨gr, 0, none⟩) HGR.out _).setCell (p := ⟨gr, 1, none⟩) HGR.out _)
        have HW9 := Lib.hid hW9
        clear hW9
        go_wp2_with fail
        rw [← HW9.out]
        clear r0 r1 f0 f1
        have r0 := HR9.out.cell 0 _ rfl
        have r1 := HR9.out.cell 1 _ rfl
        have hz := HCO.out
        refine bodyPost_ret (v := .tuple #[.agg #[(.slice Am s.mem.length cm), (.slice (some ⟨gt, 0, none⟩) s.ths.length vn)], .bool true]) (by simp [results, Try.results38, go_sem, r0, r1, hz]) rfl ⟨_, _, _, by rw [HF2.out]; rfl, (by rw [HF2.out]; exact HO9.out.base HB3.out.size), HB9.out⟩
      have e3 : ¬ ((op == 3) = true) := by simpa using h3
      by_cases h4 : op = 4
      · subst h4
        have HLO := Lib.hid (HPX.out.loc (by rfl))
        obtain ⟨l, rfl⟩ : ∃ l : Nat, lc = l := ⟨lc.toNat, by have h := HLO.out.1; dsimp only at h; omega⟩
        have HT := Lib.hid (show stT ⟨4, rg, (l : Int), nn, tn⟩ s.mem ⟨xa, xr, xe, xb⟩ = ⟨xa + 1, xr, xe, xb⟩ from by simp [stT, stR, stE, jumps])
        obtain ⟨z, hz⟩ : ∃ z, z = nn := ⟨_, rfl⟩
        have HZE := Lib.hid hz.symm
        clear hz
        have HF3 := Lib.hid (show tsS ⟨4, rg, (l : Int), nn, tn⟩ s k ⟨xa, xr, xe, xb⟩ = ⟨s.mem, s.ths.set k ⟨xa + 1, xr, xe, xb ++ [⟨(l : Int), z⟩]⟩⟩ from by simp [tsS, HZE.out])
        have HQ1' := HQ1
        have i0 := HQ1.out.cell 0 _ rfl
        have n0 := HN.out.cell 0 _ rfl
        have nf := HN.out.frozen 0
        go_upto_region 26 with fail
        obtain ⟨X5, hX5⟩ : ∃ W, W = X4.setCell ⟨gn, 0, none⟩ (.slice Am s.mem.length cm) := ⟨_, rfl⟩
        have HN5 := Lib.hid (show BoxC X5 gn 33 #[.slice Am s.mem.length cm, .slice Vn s.ths.length vn] from by rw [hX5]; exact HN.out.set 0 _)
        have HMO := Lib.hid (show OwnI W3.heap.size X4 (.slice Am s.mem.length cm) s.mem from own_below HOS.out.mem (chain HL2.out HL4.out))
        have HMX := Lib.hid (show OwnI W3.heap.size X2 (.slice Am s.mem.length cm) s.mem from own_below HOS.out.mem HL2.out)
        have HO5 := Lib.hid (show OwnSt W3.heap.size X5 (.slice Am s.mem.length cm) (.slice Vn s.ths.length vn) ⟨s.mem, s.ths.set k (stT ⟨4, rg, (l : Int), nn, tn⟩ s.mem ⟨xa, xr, xe, xb⟩)⟩ ps2 from by
          rw [hX5]
          exact ((HO4.out.base (Nat.le_trans HL3.out.size HL2.out.size)).memRow HMO.out (fun p hp => ap_new HMX.out (HO4.out.each p hp).1 (Nat.le_refl _))).box HN.out (by decide) (by decide) (by decide) 0 _)
        have HGNE := Lib.hid (show gn ≠ gr from by have h1 := HR.out.lt; have h2 := HGN.out; have h3 := HL3.out.size; have h4 := HL2.out.size; omega)
        have HQ95 := Lib.hid (show BoxC X5 g9 39 _ from by rw [hX5]; exact HQ9.out.other (HQ9.out.unlike HN.out (by decide)) _ _)
        have HRR5 := Lib.hid (show BoxC X5 gr 33 #[.slice none 0 0, .slice none 0 0] from by rw [hX5]; exact HRR.out.other (Ne.symm HGNE.out) _ _)
        have HGW := Lib.hid (show W3.heap.size ≤ gn from Nat.le_trans HL3.out.size (Nat.le_trans HL2.out.size HGN.out))
        have HB35 := Lib.hid (show Below W3.heap.size W3 X5 from by rw [hX5]; exact (chain HL3.out (chain HL2.out HL4.out)).setCell (p := ⟨gn, 0, none⟩) HGW.out _)
        have HB5 := Lib.hid (show Below w.heap.size w X5 from by rw [hX5]; exact HBX.out.setCell (p := ⟨gn, 0, none⟩) (Nat.le_trans HB3.out.size HGW.out) _)
        rw [← hX5]
        clear hX5 i0 n0 nf p0
        obtain ⟨vr2, vb2, hpk⟩ := HO5.out.pk (k := k) (by simpa using hks)
        simp only [List.getElem_set_self] at hpk
        obtain ⟨hkp, hpe⟩ := List.getElem?_eq_some_iff.1 hpk
        obtain ⟨gt, cv', cur, hev, hgt, hbv, t0, t1, t2, t3⟩ := HO5.out.row hkp
        rw [List.length_set] at hev
        injection hev with hev1 hev3 hev2
        clear hev3
        subst hev1 hev2
        rw [hpe] at t1 t3
        have HPK' := Lib.hid hpk
        have HOE := Lib.hid (HO5.out.each _ (List.getElem_mem hkp))
        rw [hpe] at HOE
        have HBV := Lib.hid hbv
        have HGT := Lib.hid hgt
        clear hpk hbv hgt hpe t0 t2
        dsimp only at HOE
        rw [HT.out] at HOE HPK'
        rw [HT.out] at HO5
        have o1 := HN5.out.cell 1 _ rfl
        have y1 := (HY.out.below HB35.out HY.out.lt).cell 1 _ rfl
        have b3 := ((HB5.out.mono hBB).cell (p := ⟨b1, f1 + k * 4 + 3, none⟩) hb1).trans HC3.out
        have p2 := HQ95.out.cell 2 _ rfl
        have p3 := HQ95.out.cell 3 _ rfl
        skip
        clear t1
        have HT3 := Lib.hid t3
        clear t3
        refine wp_region_held_drew (S := (fun w' => w'.cell? ⟨gn, 1, none⟩ = some (.slice (some ⟨gt, 0, none⟩) s.ths.length vn) ∧ w'.cell? ⟨gs, 1, none⟩ = some (.slice (some ⟨b1, f1, none⟩) s.ths.length c1) ∧ w'.cell? ⟨b1, f1 + k * 4 + 3, none⟩ = some (.slice Ab xb.length cb) ∧ w'.cell? ⟨g9, 2, none⟩ = some (.int .i64 (l : Int)) ∧ w'.cell? ⟨g9, 3, none⟩ = some (.int .i64 nn) ∧ True)) (by kernel_rfl) ⟨o1, y1, b3, p2, p3, trivial⟩ (fun hHeld => ?_)
        obtain ⟨X6, hX6⟩ : ∃ W, W = X5.drew := ⟨_, rfl⟩
        have HB6 := Lib.hid (show Below X5.heap.size X5 X6 from by rw [hX6]; exact below_drewN (Below.refl _ _) 1)
        rw [← hX6] at hHeld ⊢
        clear hX6
        refine wpAnyH_take (i := 0) (v := ?_) rfl (by kernel_rfl) (by kernel_rfl) (by kernel_rfl) (fun _ _ _ h => h) (Or.inl ⟨by rfl, ?_⟩) (by assumption) ?_
        rotate_left
        · intro w hSw; (try dsimp only at hSw); go_simp; (try with_reducible rfl)
        (try simp only [Act.put, pt8])
        refine wpAnyH_take (i := 1) (v := ?_) rfl (by kernel_rfl) (by kernel_rfl) (by kernel_rfl) (fun _ _ _ h => h) (Or.inl ⟨by rfl, ?_⟩) (by assumption) ?_
        rotate_left
        · intro w hSw; (try dsimp only at hSw); go_simp; (try with_reducible rfl)
        (try simp only [Act.put, pt8])
        refine wpAnyH_take (i := 2) (v := ?_) rfl (by kernel_rfl) (by kernel_rfl) (by kernel_rfl) (fun _ _ _ h => h) (Or.inl ⟨by rfl, ?_⟩) (by assumption) ?_
        rotate_left
        · intro w hSw; (try dsimp only at hSw); go_simp; (try with_reducible rfl)
        (try simp only [Act.put, pt8])
        refine wpAnyH_take (i := 3) (v := ?_) rfl (by kernel_rfl) (by kernel_rfl) (by kernel_rfl) (fun _ _ _ h => h) (Or.inl ⟨by rfl, ?_⟩) (by assumption) ?_
        rotate_left
        · intro w hSw; (try dsimp only at hSw); go_simp; (try with_reducible rfl)
        (try simp only [Act.put, pt8])
        refine wpAnyH_take (i := 4) (v := ?_) rfl (by kernel_rfl) (by kernel_rfl) (by kernel_rfl) (fun _ _ _ h => h) (Or.inl ⟨by rfl, ?_⟩) (by assumption) ?_
        rotate_left
        · intro w hSw; (try dsimp only at hSw); go_simp; (try with_reducible rfl)
        (try simp only [Act.put, pt8])
        refine wpAnyH_take (i := 5) (v := ?_) rfl (by kernel_rfl) (by kernel_rfl) (by kernel_rfl) (fun _ _ _ h => h) (Or.inl ⟨by rfl, ?_⟩) (by assumption) ?_
        rotate_left
        · intro w hSw; (try dsimp only at hSw); go_simp; (try with_reducible rfl)
        (try simp only [Act.put, pt8])
        refine wpAnyH_take (i := 6) (v := ?_) rfl (by kernel_rfl) (by kernel_rfl) (by kernel_rfl) (fun _ _ _ h => h) (Or.inl ⟨by rfl, ?_⟩) (by assumption) ?_
        rotate_left
        · intro w hSw; (try dsimp only at hSw); go_simp; (try with_reducible rfl)
        (try simp only [Act.put, pt8])
        refine wpAnyH_take (i := 7) (v := ?_) rfl (by kernel_rfl) (by kernel_rfl) (by kernel_rfl) (fun _ _ _ h => h) (Or.inl ⟨by rfl, ?_⟩) (by assumption) ?_
        rotate_left
        · intro w hSw; (try dsimp only at hSw); go_simp; (try with_reducible rfl)
        (try simp only [Act.put, pt8])
        refine wpAnyH_take (i := 8) (v := ?_) rfl (by kernel_rfl) (by kernel_rfl) (by kernel_rfl) (fun _ _ _ h => h) (Or.inl ⟨by rfl, ?_⟩) (by assumption) ?_
        rotate_left
        · intro w hSw; (try dsimp only at hSw); go_simp; (try with_reducible rfl)
        (try simp only [Act.put, pt8])
        refine wpAnyH_take (i := 9) (v := ?_) rfl (by kernel_rfl) (by kernel_rfl) (by kernel_rfl) (fun _ _ _ h => h) (Or.inl ⟨by rfl, ?_⟩) (by assumption) ?_
        rotate_left
        · intro w hSw; (try dsimp only at hSw); go_simp; (try with_reducible rfl)
        (try simp only [Act.put, pt8])
        refine wpAnyH_take (i := 10) (v := ?_) rfl (by kernel_rfl) (by kernel_rfl) (by kernel_rfl) (fun _ _ _ h => h) (Or.inl ⟨by rfl, ?_⟩) (by assumption) ?_
        rotate_left
        · intro w hSw; (try dsimp only at hSw); go_simp; (try with_reducible rfl)
        (try simp only [Act.put, pt8])
        refine wpAnyH_take (i := 11) (v := ?_) rfl (by kernel_rfl) (by kernel_rfl) (by kernel_rfl) (fun _ _ _ h => h) (Or.inl ⟨by rfl, ?_⟩) (by assumption) ?_
        rotate_left
        · intro w hSw; (try dsimp only at hSw); go_simp; (try with_reducible rfl)
        (try simp only [Act.put, pt8])
        refine wpAnyH_take (i := 12) (v := ?_) rfl (by kernel_rfl) (by kernel_rfl) (by kernel_rfl) (fun _ _ _ h => h) (Or.inl ⟨by rfl, ?_⟩) (by assumption) ?_
        rotate_left
        · intro w hSw; (try dsimp only at hSw); go_simp; (try with_reducible rfl)
        (try simp only [Act.put, pt8])
        refine wpAnyH_take (i := 13) (v := ?_) rfl (by kernel_rfl) (by kernel_rfl) (by kernel_rfl) (fun _ _ _ h => h) (Or.inl ⟨by rfl, ?_⟩) (by assumption) ?_
        rotate_left
        · intro w hSw; (try dsimp only at hSw); go_simp; (try with_reducible rfl)
        (try simp only [Act.put, pt8])
        refine wpAnyH_ready (rs := [14]) (by kernel_rfl) (by simp) ?_
        refine AllReadyH.cons rfl (fun K hK => ?_) AllReadyH.nil
        obtain ⟨q0, q1, q2, q3, q4, -⟩ := hHeld
        go_simp
        rw [HZE.out]
        refine (HPU.out X6 ⟨(l : Int), z⟩ (chain HB5.out HB6.out)).mono ?_
        rintro e X7 ⟨vu, rfl, hou, hb⟩
        obtain ⟨Bn, bn, rfl⟩ := own_slice (n := xb.length + 1) (show X7.ownsRow _ _ 2 vu (xb.length + 1) _ from by have e := hou; unfold OwnW at e; rw [List.length_append] at e; exact e)
        have HOU := Lib.hid (show OwnW X5.heap.size X7 _ _ from own_base hou HB6.out.size)
        have HB7 := Lib.hid (show Below X5.heap.size X5 X7 from chain HB6.out hb)
        refine hK.out _ _ ⟨kc hb q0, kc hb q1, kc hb q2, kc hb q3, kc hb q4, trivial⟩ (fun hHeld => ?_)
        clear q0 q1 q2 q3 q4
        clear hK K
        (try simp only [Act.put, pt8])
        clear hb hou
        have HBV7 := Lib.hid (HBV.out.below HB7.out HBV.out.lt)
        have v7 := HBV7.out.frozen (k * 4 + 3)
        have e7 := kc HB7.out HT3.out
        have HNa := Lib.hid ((HN5.out.below HB7.out HN5.out.lt).unlike HBV7.out (by decide))
        have HNb := Lib.hid (show gs ≠ gt from by have h1 := HY.out.lt; have h2 := HGT.out; omega)
        have HNc := Lib.hid (show b1 ≠ gt from by have h1 := hb1; have h2 := HGT.out; have h3 := HB3.out.size; omega)
        have HNd := Lib.hid ((HQ95.out.below HB7.out HQ95.out.lt).unlike HBV7.out (by decide))
        refine wpAnyH_take (i := 15) (v := ?_) rfl (by kernel_rfl) (by kernel_rfl) (by kernel_rfl) (fun _ _ _ h => h) (Or.inl ⟨by rfl, ?_⟩) (by assumption) ?_
        rotate_left
        · intro w hSw; (try dsimp only at hSw); go_simp; (try with_reducible rfl)
        (try simp only [Act.put, pt8])
        refine wpAnyH_take (i := 16) (v := ?_) rfl (by kernel_rfl) (by kernel_rfl) (by kernel_rfl) (fun _ _ _ h => h) (Or.inl ⟨by rfl, ?_⟩) (by assumption) ?_
        rotate_left
        · intro w hSw; (try dsimp only at hSw); go_simp; (try with_reducible rfl)
        (try simp only [Act.put, pt8])
        refine wpAnyH_ready (rs := [17]) (by kernel_rfl) (by simp) ?_
        refine AllReadyH.cons rfl (fun K hK => ?_) AllReadyH.nil
        obtain ⟨q0, q1, q2, q3, q4, -⟩ := hHeld
        go_simp
        refine hK.out _ _ ⟨st_ne HNa.out q0, st_ne HNb.out q1, st_ne HNc.out q2, st_ne HNd.out q3, st_ne HNd.out q4, trivial⟩ (fun hHeld => ?_)
        clear q0 q1 q2 q3 q4 v7 e7
        clear hK K
        (try simp only [Act.put, pt8])
        refine wpAnyH_done (by kernel_rfl) ?_ _
        clear hHeld o1 y1 b3 p2 p3
        obtain ⟨X8, hX8⟩ : ∃ W, W = X7.setCell ⟨gt, k * 4 + 3, none⟩ (.slice Bn (xb.length + 1) bn) := ⟨_, rfl⟩
        have HO8 := Lib.hid (show OwnSt W3.heap.size X8 (.slice Am s.mem.length cm) (.slice (some ⟨gt, 0, none⟩) s.ths.length vn) ⟨s.mem, s.ths.set k ⟨xa + 1, xr, xe, xb ++ [⟨(l : Int), z⟩]⟩⟩ (ps2.set k ⟨⟨xa + 1, xr, xe, xb ++ [⟨(l : Int), z⟩]⟩, vr2, .slice Bn (xb.length + 1) bn⟩) from by
          rw [hX8]
          have := (HO5.out.below HB7.out).setVB' HPK'.out (own_base HOU.out HB35.out.size)
          exact this.cast (by rw [List.set_set]))
        have HN8 := Lib.hid (show BoxC X8 gn 33 #[.slice Am s.mem.length cm, .slice (some ⟨gt, 0, none⟩) s.ths.length vn] from by rw [hX8]; exact (HN5.out.below HB7.out HN5.out.lt).other ((HN5.out.below HB7.out HN5.out.lt).unlike (HBV.out.below HB7.out HBV.out.lt) (by decide)) _ _)
        have HRR := Lib.hid (show BoxC X8 gr 33 #[.slice none 0 0, .slice none 0 0] from by rw [hX8]; exact (HRR5.out.below HB7.out HRR5.out.lt).other ((HRR5.out.below HB7.out HRR5.out.lt).unlike (HBV.out.below HB7.out HBV.out.lt) (by decide)) _ _)
        have HB8 := Lib.hid (show Below w.heap.size w X8 from by rw [hX8]; exact (chain HB5.out HB7.out).setCell (p := ⟨gt, k * 4 + 3, none⟩) (Nat.le_trans HB3.out.size HGT.out) _)
        rw [← hX8]
        clear hX8
        have z0 := HN8.out.cell 0 _ rfl
        have z1 := HN8.out.cell 1 _ rfl
        have r0 := HRR.out.cell 0 _ rfl
        have r1 := HRR.out.cell 1 _ rfl
        have f0 := HRR.out.frozen 0
        have f1 := HRR.out.frozen 1
        obtain ⟨W9, hW9⟩ : ∃ W, W = (X8.setCell ⟨gr, 0, none⟩ (.slice Am s.mem.length cm)).setCell ⟨gr, 1, none⟩ (.slice (some ⟨gt, 0, none⟩) s.ths.length vn) := ⟨_, rfl⟩
        have HR9 := Lib.hid (show BoxC W9 gr 33 #[(.slice Am s.mem.length cm), (.slice (some ⟨gt, 0, none⟩) s.ths.length vn)] from by rw [hW9]; exact (HRR.out.set 0 _).set 1 _)
        have HO9 := Lib.hid (show OwnSt W3.heap.size W9 (.slice Am s.mem.length cm) (.slice (some ⟨gt, 0, none⟩) s.ths.length vn) (tsS ⟨4, rg, (l : Int), nn, tn⟩ s k ⟨xa, xr, xe, xb⟩) (ps2.set k ⟨⟨xa + 1, xr, xe, xb ++ [⟨(l : Int), z⟩]⟩, vr2, .slice Bn (xb.length + 1) bn⟩) from by
          rw [hW9]
          exact ((HO8.out.cast HF3.out.symm).box HRR.out (by decide) (by decide) (by decide) 0 _).box (HRR.out.set 0 _) (by decide) (by decide) (by decide) 1 _)
        have HB9 := Lib.hid (show Below w.heap.size w W9 from by rw [hW9]; exact (HB8.out.setCell (p := ⟨gr, 0, none⟩) HGR.out _).setCell (p := ⟨gr, 1, none⟩) HGR.out _)
        have HW9 := Lib.hid hW9
        clear hW9
        go_wp2_with fail
        rw [← HW9.out]
        clear r0 r1 f0 f1
        have r0 := HR9.out.cell 0 _ rfl
        have r1 := HR9.out.cell 1 _ rfl
        have hz := HCO.out
        refine bodyPost_ret (v := .tuple #[.agg #[(.slice Am s.mem.length cm), (.slice (some ⟨gt, 0, none⟩) s.ths.length vn)], .bool true]) (by simp [results, Try.results38, go_sem, r0, r1, hz]) rfl ⟨_, _, _, by rw [HF2.out]; rfl, (by rw [HF2.out]; exact HO9.out.base HB3.out.size), HB9.out⟩
      have e4 : ¬ ((op == 4) = true) := by simpa using h4
      have HF3 := Lib.hid (show tsS ⟨op, rg, lc, nn, tn⟩ s k ⟨xa, xr, xe, xb⟩ = ⟨stM ⟨op, rg, lc, nn, tn⟩ s.mem xr, s.ths.set k (stT ⟨op, rg, lc, nn, tn⟩ s.mem ⟨xa, xr, xe, xb⟩)⟩ from by unfold tsS; simp only [h2, h3, h4, if_false])
      clear h2 h3 h4
      go_upto_region 27 with fail
      clear p0 e2 e3 e4
      have z0 := HN.out.cell 0 _ rfl
      have z1 := HN.out.cell 1 _ rfl
      have r0 := HRR.out.cell 0 _ rfl
      have r1 := HRR.out.cell 1 _ rfl
      have f0 := HRR.out.frozen 0
      have f1 := HRR.out.frozen 1
      obtain ⟨W9, hW9⟩ : ∃ W, W = (X4.setCell ⟨gr, 0, none⟩ (.slice Mn s.mem.length mn)).setCell ⟨gr, 1, none⟩ (.slice Vn s.ths.length vn) := ⟨_, rfl⟩
      have HR9 := Lib.hid (show BoxC W9 gr 33 #[(.slice Mn s.mem.length mn), (.slice Vn s.ths.length vn)] from by rw [hW9]; exact (HRR.out.set 0 _).set 1 _)
      have HO9 := Lib.hid (show OwnSt W3.heap.size W9 (.slice Mn s.mem.length mn) (.slice Vn s.ths.length vn) (tsS ⟨op, rg, lc, nn, tn⟩ s k ⟨xa, xr, xe, xb⟩) ps2 from by
        rw [hW9]
        exact (((HO4.out.base (Nat.le_trans HL3.out.size HL2.out.size)).cast HF3.out.symm).box HRR.out (by decide) (by decide) (by decide) 0 _).box (HRR.out.set 0 _) (by decide) (by decide) (by decide) 1 _)
      have HB9 := Lib.hid (show Below w.heap.size w W9 from by rw [hW9]; exact (HBX.out.setCell (p := ⟨gr, 0, none⟩) HGR.out _).setCell (p := ⟨gr, 1, none⟩) HGR.out _)
      have HW9 := Lib.hid hW9
      clear hW9
      go_wp2_with fail
      rw [← HW9.out]
      clear r0 r1 f0 f1
      have r0 := HR9.out.cell 0 _ rfl
      have r1 := HR9.out.cell 1 _ rfl
      have hz := HCO.out
      refine bodyPost_ret (v := .tuple #[.agg #[(.slice Mn s.mem.length mn), (.slice Vn s.ths.length vn)], .bool true]) (by simp [results, Try.results38, go_sem, r0, r1, hz]) rfl ⟨_, _, _, by rw [HF2.out]; rfl, (by rw [HF2.out]; exact HO9.out.base HB3.out.size), HB9.out⟩

end Go.Proofs.Ytlpjgaeelnlipaa
namespace Go.Proofs.Ytlpjgaeelnlipaa
open Go.RowKit Go.Shelf
set_option linter.unusedVariables false
set_option linter.unusedSimpArgs false
attribute [local go_sem] Oper.semAt_some
open CodM (St Pg rightP)
open ScM

/-- What a round keeps: whatever lay below n₀, and the two blocks, where they hold cells. -/
def KpD (n₀ g1 g2 : Nat) (W W' : World) : Prop := KpS n₀ g1 W W' ∧ KpS n₀ g2 W W'
theorem KpD.t {n₀ g1 g2 : Nat} {A B C : World} (h : KpD n₀ g1 g2 A B) (k : KpD n₀ g1 g2 B C) : KpD n₀ g1 g2 A C := ⟨h.1.t k.1, h.2.t k.2⟩
theorem KpD.b {n₀ g1 g2 : Nat} {w : World} (hn : n₀ ≤ w.heap.size) (W : World) (l : Nat) (o o' : Obj) (hl : w.heap.size ≤ l) (h : W.heap[l]? = some o) (hc : o.isCells = false) (hw : o.isWalk = false) : KpD n₀ g1 g2 W (W.putObj l o') :=
  ⟨KpS.b hn W l o o' hl h hc hw, KpS.b hn W l o o' hl h hc hw⟩
theorem KpD.grown {n₀ g1 g2 : Nat} {W W' : World} {row : Option Nat} (hn : n₀ ≤ W.heap.size) (hg : W.grownBy W' row) (hr : ∀ r, row = some r → n₀ ≤ r ∧ r ≠ g1 ∧ r ≠ g2) : KpD n₀ g1 g2 W W' :=
  ⟨KpS.grown hn hg (fun r e => ⟨(hr r e).1, (hr r e).2.1⟩), KpS.grown hn hg (fun r e => ⟨(hr r e).1, (hr r e).2.2⟩)⟩
theorem KpD.refl {n₀ g1 g2 : Nat} (W : World) : KpD n₀ g1 g2 W W := ⟨⟨Below.refl _ _, fun _ h _ => h⟩, ⟨Below.refl _ _, fun _ h _ => h⟩⟩
theorem KpS.box {n₀ g : Nat} {W W' : World} {T : TypeId} {cs : Array Value} (h : KpS n₀ g W W') (hb : BoxC W g T cs) : BoxC W' g T cs := h.2 _ hb rfl
end Go.Proofs.Ytlpjgaeelnlipaa
namespace Go.Proofs.Ytlpjgaeelnlipaa
open Go.RowKit Go.Shelf
set_option linter.unusedVariables false
set_option linter.unusedSimpArgs false
open CodM (St Pg rightP)
open BfM (Wr plc)
open ScM

theorem rtstep_any {B : Nat} {v u : Value} {P : Pg} {s : Sta} (t : Int) (d : Bool) (w : World) (hv : PgV B w v P) (hu : StaV B w u s) (hBB : B ≤ w.heap.size) (hp : rightP P = true) (ho : OkSt P s) (hw : WideS s) :
    Calls Try.prog 38 #[v, u, .agg #[.int .i64 t, .bool d]] w (TpRet P s t d w) := by
  cases d
  · exact rtstepN_any t w hv hu hBB hp ho hw
  · exact rtstepD_any t w hv hu hBB hw
end Go.Proofs.Ytlpjgaeelnlipaa
namespace Go.Proofs.Ytlpjgaeelnlipaa
open Go.RowKit
set_option linter.unusedVariables false
set_option linter.unusedSimpArgs false
open CodM (St Pg rightP)
open BfM (Wr plc)
open ScM

set_option maxHeartbeats 8000000 in
set_option maxRecDepth 100000 in
theorem rbegin_any {B : Nat} {v : Value} {P : Pg} (w : World) (hv : PgZ B w v P) (hBB : B ≤ w.heap.size) (hp : rightP P = true) :
    Calls Try.prog 24 #[v] w (StRet (beg P) w) := by
  obtain ⟨pi, pt, rfl, hpm, hpi⟩ := hv
  obtain ⟨hi4, ht1, ht3, -⟩ := right_ths hp
  obtain ⟨-, P1, d1, rfl, l1, l2, -⟩ := hpm
  obtain ⟨A0, c0, rfl, a1, a2, a0, a3⟩ := hpi
  unfold maxLen at l2 a2
  obtain ⟨i0, hi0, hz0, hz1, hz2⟩ := info_parts info_nu
  obtain ⟨i1', hi1', hy1, hy2, hy3⟩ := info_parts info_th
  have HCO := Lib.hid (show Try.prog.cellsOf 33 = 2 from by kernel_rfl)
  obtain ⟨W2, hW2⟩ : ∃ W, W = (w.alloc (.cells #[.slice A0 P.init.length c0, .slice P1 P.ths.length d1] 25)).alloc (.cells #[.slice none 0 0, .slice none 0 0] 33) := ⟨_, rfl⟩
  obtain ⟨gp, hgp⟩ : ∃ g, g = w.heap.size := ⟨_, rfl⟩
  obtain ⟨gr, hgr⟩ : ∃ g, g = w.heap.size + 1 := ⟨_, rfl⟩
  have HX := Lib.hid (show BoxC W2 gp 25 #[.slice A0 P.init.length c0, .slice P1 P.ths.length d1] from by rw [hW2, hgp]; exact (BoxC.new w _ _).alloc _)
  have HR := Lib.hid (show BoxC W2 gr 33 #[.slice none 0 0, .slice none 0 0] from by rw [hW2, hgr]; have := BoxC.new (w.alloc (.cells #[.slice A0 P.init.length c0, .slice P1 P.ths.length d1] 25)) 33 #[.slice none 0 0, .slice none 0 0]; rw [World.size_alloc] at this; exact this)
  have HB2 := Lib.hid (show Below w.heap.size w W2 from by rw [hW2]; exact below_al (below_al (Below.refl _ _) _) _)
  have HGR := Lib.hid (show w.heap.size ≤ gr from by omega)
  have HSRC := Lib.hid (fun W (hW : Below W2.heap.size W2 W) => src_rw (W := W) nuC_len a0 a3 ((chain HB2.out hW).mono hBB))
  have HTH := Lib.hid (show (beg P).ths = List.replicate P.ths.length begTh from by unfold beg; simp [List.map_const'])
  have x0 := HX.out.cell 0 _ rfl
  clear a3
  go_enter Try.func24, Try.ntmps24
  go_upto_region 1 with fail
  rw [← hW2]
  (try rw [← hgr])
  (try rw [← hgp])
  clear hW2 hgr hgp
  go_cut [3] (fun s3 wx => ∃ (gs : Nat) (vm : Value), s3 = .pointer (some ⟨gs, 0, none⟩) ∧ BoxC wx gs 33 #[vm, .slice none 0 0] ∧ OwnI W2.heap.size wx vm P.init ∧ Below W2.heap.size W2 wx ∧ W2.heap.size ≤ gs)
  case first =>
    have HE := Lib.hid (below_al (Below.refl W2.heap.size W2) (.cells #[] 3))
    have HO := Lib.hid (show (W2.alloc (.cells #[] 3)).ownsRow W2.heap.size 3 1 (.slice (some ⟨W2.heap.size, 0, none⟩) 0 0) 0 [] from World.ownsRow_lit (base := W2.heap.size) (e := 3) (size := 1) W2 #[] 0 (Nat.le_refl _) (by decide) rfl)
    have l0 := lt_of_cell x0
    have x0 := kc HE.out x0
    go_wp2_with (at_builtin; refine wpList_append_rw _ rfl _ _ 22 rfl W2.heap.size 3 i0 (.int .i64 0) 1 8 Try.underlying22 hi0 hz0 hz1 hz2 rfl (by decide) _ 0 [] rfl HO.out A0 P.init.length c0 (P.init.flatMap nuC) rfl (fl_len nuC_len P.init) a0 (HSRC.out _ HE.out) (one_nu P.init) (by unfold maxLen; omega) (by omega) (by simp) ?_; intro v1 wz hown1 hg1; rw [Nat.zero_add, List.nil_append] at hown1; obtain ⟨A8, c8, rfl⟩ := own_slice hown1)
    go_meet
    have hb1 := below_append HE.out HO.out (Nat.le_refl _) HE.out.size hg1
    have hb2 := below_al (Below.refl wz.heap.size wz) (.cells #[.slice A8 P.init.length c8, .slice none 0 0] 33)
    exact ⟨wz.heap.size, _, rfl, BoxC.new wz _ _, own_below hown1 hb2, chain hb1 hb2, hb1.size⟩
  case rest =>
    obtain ⟨gs, vm, rfl, hbs, hom, hBc, hgs⟩ := hcut
    have HBS := Lib.hid hbs
    have HOM := Lib.hid hom
    have HBC := Lib.hid hBc
    obtain ⟨Am, cm, rfl⟩ := own_slice hom
    clear hbs hom hBc x0
    have hmk := mk4
    go_wp2
    go_loopw [4] (fun i wr => ∃ (k : Nat) (vt : Value) (ps : List TV), k ≤ P.ths.length ∧ i = .int .i64 k ∧ BoxC wr gs 33 #[.slice Am P.init.length cm, vt] ∧ OwnSt W2.heap.size wr (.slice Am P.init.length cm) vt ⟨P.init, List.replicate k begTh⟩ ps ∧ Below W2.heap.size W2 wr) (fun i _ => P.ths.length - (intOf i).toNat)
    case atStart => exact ⟨0, _, [], Nat.zero_le _, rfl, HBS.out, OwnSt.nothing _ HOM.out, HBC.out⟩
    case round =>
      obtain ⟨k, vt, ps, hk, rfl, hbx, hos, hB⟩ := hrel
      have HBX := Lib.hid hbx
      have HOS := Lib.hid hos
      have HB := Lib.hid hB
      have HOT := Lib.hid (show wr.ownsRow W2.heap.size 79 4 vt k (ps.flatMap thC) from by have := hos.ths; rwa [show (⟨P.init, List.replicate k begTh⟩ : Sta).ths.length = k from List.length_replicate] at this)
      obtain ⟨Av, cv, rfl⟩ := own_slice HOT.out
      have HSZ := Lib.hid (show W2.heap.size ≤ wr.heap.size from hB.size)
      have x1 := (HX.out.below hB HX.out.lt).cell 1 _ rfl
      clear hbx hos hB
      by_cases hlt : k < P.ths.length
      · go_wp2
        have y1 := HBX.out.cell 1 _ rfl
        refine wp_region_held_drew (S := (fun w' => True)) (by kernel_rfl) trivial (fun hHeld => ?_)
        obtain ⟨Xa, hXa⟩ : ∃ W, W = wr.drew := ⟨_, rfl⟩
        have HLXa := Lib.hid (show Below wr.heap.size wr Xa from by rw [hXa]; exact below_drewN (Below.refl _ _) 1)
        rw [← hXa]
        clear hXa
        refine wpAnyH_take (i := 0) (v := ?_) rfl (by kernel_rfl) (by kernel_rfl) (by kernel_rfl) (fun _ _ _ h => h) (Or.inl ⟨by rfl, ?_⟩) (by assumption) ?_
        rotate_left
        · intro w hSw; (try dsimp only at hSw); go_simp; (try with_reducible rfl)
        (try simp only [Act.put, pt8])
        refine wpAnyH_ready (rs := [1, 2]) (by kernel_rfl) (by simp) ?_
        refine AllReadyH.cons rfl (fun K hK => ?_) (AllReadyH.cons rfl (fun K hK => ?_) (AllReadyH.nil))
        · -- 1 first
          have y2 := kc HLXa.out y1
          go_simp
          refine hK.out _ _ trivial (fun hHeld => ?_)
          clear hK K
          (try simp only [Act.put, pt8])
          clear y2
          refine wpAnyH_ready (rs := [2]) (by kernel_rfl) (by simp) ?_
          refine AllReadyH.cons rfl (fun K hK => ?_) AllReadyH.nil
          go_simp
          refine hK.out _ _ trivial (fun hHeld => ?_)
          clear hK K
          (try simp only [Act.put, pt8])
          obtain ⟨gn, hgn⟩ : ∃ g, g = Xa.heap.size := ⟨_, rfl⟩
          obtain ⟨X0, hX0⟩ : ∃ W, W = Xa.alloc (.cells #[.int .i64 0, .int .i64 0, .int .i64 0, .int .i64 0] 3) := ⟨_, rfl⟩
          have HLX0 := Lib.hid (show Below wr.heap.size wr X0 from by rw [hX0]; exact below_al HLXa.out _)
          have HON := Lib.hid (show OwnI wr.heap.size X0 (.slice (some ⟨gn, 0, none⟩) 4 4) [0, 0, 0, 0] from by rw [hX0, hgn]; exact World.ownsRow_lit (base := wr.heap.size) (e := 3) (size := 1) Xa #[.int .i64 0, .int .i64 0, .int .i64 0, .int .i64 0] 4 HLXa.out.size (by decide) rfl)
          rw [← hX0]
          rw [← hgn]
          clear hX0 hgn
          refine wpAnyH_take (i := 3) (v := ?_) rfl (by kernel_rfl) (by kernel_rfl) (by kernel_rfl) (fun _ _ _ h => h) (Or.inl ⟨by rfl, ?_⟩) (by assumption) ?_
          rotate_left
          · intro w hSw; (try dsimp only at hSw); go_simp; (try with_reducible rfl)
          (try simp only [Act.put, pt8])
          refine wpAnyH_ready (rs := [4]) (by kernel_rfl) (by simp) ?_
          refine AllReadyH.cons rfl (fun K hK => ?_) AllReadyH.nil
          go_simp
          refine hK.out _ _ trivial (fun hHeld => ?_)
          clear hK K
          (try simp only [Act.put, pt8])
          obtain ⟨gb, hgb⟩ : ∃ g, g = X0.heap.size := ⟨_, rfl⟩
          obtain ⟨X1, hX1⟩ : ∃ W, W = X0.alloc (.cells #[.int .i64 0, .slice (some ⟨gn, 0, none⟩) 4 4, .bool false, .slice none 0 0] 79) := ⟨_, rfl⟩
          have HLX1 := Lib.hid (show Below wr.heap.size wr X1 from by rw [hX1]; exact below_al HLX0.out _)
          have HF := Lib.hid (fun (j : Nat) (u : Value) (h : (thC ⟨begTh, .slice (some ⟨gn, 0, none⟩) 4 4, .slice none 0 0⟩)[j]? = some u) => (show X1.cell? ⟨gb, j, none⟩ = some u from by
            have e := World.news_of_block (heap_alloc_new X0 (.cells #[.int .i64 0, .slice (some ⟨gn, 0, none⟩) 4 4, .bool false, .slice none 0 0] 79)) j u h
            rw [Addr.add_lit, Nat.zero_add] at e
            rw [hX1, hgb]; exact e))
          replace HON := Lib.hid (own_below HON.out (show Below X0.heap.size X0 X1 from by rw [hX1]; exact below_al (Below.refl _ _) _))
          rw [← hX1]
          rw [← hgb]
          clear hX1 hgb
          refine wpAnyH_ready (rs := [5]) (by kernel_rfl) (by simp) ?_
          refine AllReadyH.cons rfl (fun K hK => ?_) AllReadyH.nil
          refine step_append_src (by rfl) _ _ _ (by rfl) W2.heap.size 79 i1' (.agg #[.int .i64 0, .slice none 0 0, .bool false, .slice none 0 0]) 4 64 Try.underlying31 hi1' hy1 hy2 hy3 (by rfl) (by decide) _ k (ps.flatMap thC) (by rfl) (own_below HOT.out HLX1.out) (some ⟨gb, 0, none⟩) 1 1 (thC ⟨begTh, .slice (some ⟨gn, 0, none⟩) 4 4, .slice none 0 0⟩) (by rfl) (by rfl) (fun c => (by cases c)) (fun ad e j u h => by injection e with e; rw [← e, Addr.add_lit, Nat.zero_add]; exact HF.out j u h) (one_th _ rfl rfl) (by unfold maxLen; omega) (by omega) (Nat.le_trans HSZ.out HLX1.out.size) (fun v2 w5 hown5 hg5 => ?_)
          have HO5 := Lib.hid ((HOS.out.below HLX1.out).snoc ⟨begTh, .slice (some ⟨gn, 0, none⟩) 4 4, .slice none 0 0⟩ (own_base HON.out HSZ.out) (World.ownsRow_nil _ _ _ _) (HOS.out.new_r HON.out (Nat.le_refl _)).1 (HOS.out.new_r HON.out (Nat.le_refl _)).2 (by simpa using hown5) hg5)
          have HB5 := Lib.hid (below_append (HB.out.trans (HLX1.out.mono HB.out.size)) (own_below HOT.out HLX1.out) (Nat.le_refl _) (Nat.le_trans HB.out.size HLX1.out.size) hg5)
          have HBX5 := Lib.hid ((HBX.out.below HLX1.out HBX.out.lt).grown (by decide) (own_below HOT.out HLX1.out) hg5)
          have HBR5 := Lib.hid (HR.out.below HB5.out HR.out.lt)
          obtain ⟨A5, c5, rfl⟩ := own_slice hown5
          have y5 := HBX5.out.cell 1 _ rfl
          have f5 := HBX5.out.frozen 1
          clear hown5 hg5 HF HON
          refine hK.out _ _ trivial (fun hHeld => ?_)
          clear hK K
          (try simp only [Act.put, pt8])
          refine wpAnyH_take (i := 6) (v := ?_) rfl (by kernel_rfl) (by kernel_rfl) (by kernel_rfl) (fun _ _ _ h => h) (Or.inl ⟨by rfl, ?_⟩) (by assumption) ?_
          rotate_left
          · intro w hSw; (try dsimp only at hSw); go_simp; (try with_reducible rfl)
          (try simp only [Act.put, pt8])
          refine wpAnyH_ready (rs := [7]) (by kernel_rfl) (by simp) ?_
          refine AllReadyH.cons rfl (fun K hK => ?_) AllReadyH.nil
          go_simp
          refine hK.out _ _ trivial (fun hHeld => ?_)
          clear hK K
          (try simp only [Act.put, pt8])
          refine wpAnyH_done (by kernel_rfl) ?_ _
          clear hHeld
          go_wp2_with fail
          clear y5 f5
          go_roundw
          case rel => exact ⟨k + 1, _, _, by omega, by go_num, HBX5.out.set 1 _, by rw [List.replicate_succ']; exact HO5.out.box HBX5.out (by decide) (by decide) (by decide) 1 _, HB5.out.setCell (p := ⟨gs, 1, none⟩) hgs _⟩
          case measure => simp [intOf]; omega
        · -- 2 first
          go_simp
          refine hK.out _ _ trivial (fun hHeld => ?_)
          clear hK K
          (try simp only [Act.put, pt8])
          obtain ⟨gn, hgn⟩ : ∃ g, g = Xa.heap.size := ⟨_, rfl⟩
          obtain ⟨X0, hX0⟩ : ∃ W, W = Xa.alloc (.cells #[.int .i64 0, .int .i64 0, .int .i64 0, .int .i64 0] 3) := ⟨_, rfl⟩
          have HLX0 := Lib.hid (show Below wr.heap.size wr X0 from by rw [hX0]; exact below_al HLXa.out _)
          have HON := Lib.hid (show OwnI wr.heap.size X0 (.slice (some ⟨gn, 0, none⟩) 4 4) [0, 0, 0, 0] from by rw [hX0, hgn]; exact World.ownsRow_lit (base := wr.heap.size) (e := 3) (size := 1) Xa #[.int .i64 0, .int .i64 0, .int .i64 0, .int .i64 0] 4 HLXa.out.size (by decide) rfl)
          rw [← hX0]
          rw [← hgn]
          clear hX0 hgn
          refine wpAnyH_take (i := 3) (v := ?_) rfl (by kernel_rfl) (by kernel_rfl) (by kernel_rfl) (fun _ _ _ h => h) (Or.inl ⟨by rfl, ?_⟩) (by assumption) ?_
          rotate_left
          · intro w hSw; (try dsimp only at hSw); go_simp; (try with_reducible rfl)
          (try simp only [Act.put, pt8])
          refine wpAnyH_ready (rs := [1, 4]) (by kernel_rfl) (by simp) ?_
          refine AllReadyH.cons rfl (fun K hK => ?_) (AllReadyH.cons rfl (fun K hK => ?_) (AllReadyH.nil))
          · -- 1 first
            have y2 := kc HLX0.out y1
            go_simp
            refine hK.out _ _ trivial (fun hHeld => ?_)
            clear hK K
            (try simp only [Act.put, pt8])
            clear y2
            refine wpAnyH_ready (rs := [4]) (by kernel_rfl) (by simp) ?_
            refine AllReadyH.cons rfl (fun K hK => ?_) AllReadyH.nil
            go_simp
            refine hK.out _ _ trivial (fun hHeld => ?_)
            clear hK K
            (try simp only [Act.put, pt8])
            obtain ⟨gb, hgb⟩ : ∃ g, g = X0.heap.size := ⟨_, rfl⟩
            obtain ⟨X1, hX1⟩ : ∃ W, W = X0.alloc (.cells #[.int .i64 0, .slice (some ⟨gn, 0, none⟩) 4 4, .bool false, .slice none 0 0] 79) := ⟨_, rfl⟩
            have HLX1 := Lib.hid (show Below wr.heap.size wr X1 from by rw [hX1]; exact below_al HLX0.out _)
            have HF := Lib.hid (fun (j : Nat) (u : Value) (h : (thC ⟨begTh, .slice (some ⟨gn, 0, none⟩) 4 4, .slice none 0 0⟩)[j]? = some u) => (show X1.cell? ⟨gb, j, none⟩ = some u from by
              have e := World.news_of_block (heap_alloc_new X0 (.cells #[.int .i64 0, .slice (some ⟨gn, 0, none⟩) 4 4, .bool false, .slice none 0 0] 79)) j u h
              rw [Addr.add_lit, Nat.zero_add] at e
              rw [hX1, hgb]; exact e))
            replace HON := Lib.hid (own_below HON.out (show Below X0.heap.size X0 X1 from by rw [hX1]; exact below_al (Below.refl _ _) _))
            rw [← hX1]
            rw [← hgb]
            clear hX1 hgb
            refine wpAnyH_ready (rs := [5]) (by kernel_rfl) (by simp) ?_
            refine AllReadyH.cons rfl (fun K hK => ?_) AllReadyH.nil
            refine step_append_src (by rfl) _ _ _ (by rfl) W2.heap.size 79 i1' (.agg #[.int .i64 0, .slice none 0 0, .bool false, .slice none 0 0]) 4 64 Try.underlying31 hi1' hy1 hy2 hy3 (by rfl) (by decide) _ k (ps.flatMap thC) (by rfl) (own_below HOT.out HLX1.out) (some ⟨gb, 0, none⟩) 1 1 (thC ⟨begTh, .slice (some ⟨gn, 0, none⟩) 4 4, .slice none 0 0⟩) (by rfl) (by rfl) (fun c => (by cases c)) (fun ad e j u h => by injection e with e; rw [← e, Addr.add_lit, Nat.zero_add]; exact HF.out j u h) (one_th _ rfl rfl) (by unfold maxLen; omega) (by omega) (Nat.le_trans HSZ.out HLX1.out.size) (fun v2 w5 hown5 hg5 => ?_)
            have HO5 := Lib.hid ((HOS.out.below HLX1.out).snoc ⟨begTh, .slice (some ⟨gn, 0, none⟩) 4 4, .slice none 0 0⟩ (own_base HON.out HSZ.out) (World.ownsRow_nil _ _ _ _) (HOS.out.new_r HON.out (Nat.le_refl _)).1 (HOS.out.new_r HON.out (Nat.le_refl _)).2 (by simpa using hown5) hg5)
            have HB5 := Lib.hid (below_append (HB.out.trans (HLX1.out.mono HB.out.size)) (own_below HOT.out HLX1.out) (Nat.le_refl _) (Nat.le_trans HB.out.size HLX1.out.size) hg5)
            have HBX5 := Lib.hid ((HBX.out.below HLX1.out HBX.out.lt).grown (by decide) (own_below HOT.out HLX1.out) hg5)
            have HBR5 := Lib.hid (HR.out.below HB5.out HR.out.lt)
            obtain ⟨A5, c5, rfl⟩ := own_slice hown5
            have y5 := HBX5.out.cell 1 _ rfl
            have f5 := HBX5.out.frozen 1
            clear hown5 hg5 HF HON
            refine hK.out _ _ trivial (fun hHeld => ?_)
            clear hK K
            (try simp only [Act.put, pt8])
            refine wpAnyH_take (i := 6) (v := ?_) rfl (by kernel_rfl) (by kernel_rfl) (by kernel_rfl) (fun _ _ _ h => h) (Or.inl ⟨by rfl, ?_⟩) (by assumption) ?_
            rotate_left
            · intro w hSw; (try dsimp only at hSw); go_simp; (try with_reducible rfl)
            (try simp only [Act.put, pt8])
            refine wpAnyH_ready (rs := [7]) (by kernel_rfl) (by simp) ?_
            refine AllReadyH.cons rfl (fun K hK => ?_) AllReadyH.nil
            go_simp
            refine hK.out _ _ trivial (fun hHeld => ?_)
            clear hK K
            (try simp only [Act.put, pt8])
            refine wpAnyH_done (by kernel_rfl) ?_ _
            clear hHeld
            go_wp2_with fail
            clear y5 f5
            go_roundw
            case rel => exact ⟨k + 1, _, _, by omega, by go_num, HBX5.out.set 1 _, by rw [List.replicate_succ']; exact HO5.out.box HBX5.out (by decide) (by decide) (by decide) 1 _, HB5.out.setCell (p := ⟨gs, 1, none⟩) hgs _⟩
            case measure => simp [intOf]; omega
          · -- 4 first
            go_simp
            refine hK.out _ _ trivial (fun hHeld => ?_)
            clear hK K
            (try simp only [Act.put, pt8])
            obtain ⟨gb, hgb⟩ : ∃ g, g = X0.heap.size := ⟨_, rfl⟩
            obtain ⟨X1, hX1⟩ : ∃ W, W = X0.alloc (.cells #[.int .i64 0, .slice (some ⟨gn, 0, none⟩) 4 4, .bool false, .slice none 0 0] 79) := ⟨_, rfl⟩
            have HLX1 := Lib.hid (show Below wr.heap.size wr X1 from by rw [hX1]; exact below_al HLX0.out _)
            have HF := Lib.hid (fun (j : Nat) (u : Value) (h : (thC ⟨begTh, .slice (some ⟨gn, 0, none⟩) 4 4, .slice none 0 0⟩)[j]? = some u) => (show X1.cell? ⟨gb, j, none⟩ = some u from by
              have e := World.news_of_block (heap_alloc_new X0 (.cells #[.int .i64 0, .slice (some ⟨gn, 0, none⟩) 4 4, .bool false, .slice none 0 0] 79)) j u h
              rw [Addr.add_lit, Nat.zero_add] at e
              rw [hX1, hgb]; exact e))
            replace HON := Lib.hid (own_below HON.out (show Below X0.heap.size X0 X1 from by rw [hX1]; exact below_al (Below.refl _ _) _))
            rw [← hX1]
            rw [← hgb]
            clear hX1 hgb
            refine wpAnyH_ready (rs := [1]) (by kernel_rfl) (by simp) ?_
            refine AllReadyH.cons rfl (fun K hK => ?_) AllReadyH.nil
            have y2 := kc HLX1.out y1
            go_simp
            refine hK.out _ _ trivial (fun hHeld => ?_)
            clear hK K
            (try simp only [Act.put, pt8])
            clear y2
            refine wpAnyH_ready (rs := [5]) (by kernel_rfl) (by simp) ?_
            refine AllReadyH.cons rfl (fun K hK => ?_) AllReadyH.nil
            refine step_append_src (by rfl) _ _ _ (by rfl) W2.heap.size 79 i1' (.agg #[.int .i64 0, .slice none 0 0, .bool false, .slice none 0 0]) 4 64 Try.underlying31 hi1' hy1 hy2 hy3 (by rfl) (by decide) _ k (ps.flatMap thC) (by rfl) (own_below HOT.out HLX1.out) (some ⟨gb, 0, none⟩) 1 1 (thC ⟨begTh, .slice (some ⟨gn, 0, none⟩) 4 4, .slice none 0 0⟩) (by rfl) (by rfl) (fun c => (by cases c)) (fun ad e j u h => by injection e with e; rw [← e, Addr.add_lit, Nat.zero_add]; exact HF.out j u h) (one_th _ rfl rfl) (by unfold maxLen; omega) (by omega) (Nat.le_trans HSZ.out HLX1.out.size) (fun v2 w5 hown5 hg5 => ?_)
            have HO5 := Lib.hid ((HOS.out.below HLX1.out).snoc ⟨begTh, .slice (some ⟨gn, 0, none⟩) 4 4, .slice none 0 0⟩ (own_base HON.out HSZ.out) (World.ownsRow_nil _ _ _ _) (HOS.out.new_r HON.out (Nat.le_refl _)).1 (HOS.out.new_r HON.out (Nat.le_refl _)).2 (by simpa using hown5) hg5)
            have HB5 := Lib.hid (below_append (HB.out.trans (HLX1.out.mono HB.out.size)) (own_below HOT.out HLX1.out) (Nat.le_refl _) (Nat.le_trans HB.out.size HLX1.out.size) hg5)
            have HBX5 := Lib.hid ((HBX.out.below HLX1.out HBX.out.lt).grown (by decide) (own_below HOT.out HLX1.out) hg5)
            have HBR5 := Lib.hid (HR.out.below HB5.out HR.out.lt)
            obtain ⟨A5, c5, rfl⟩ := own_slice hown5
            have y5 := HBX5.out.cell 1 _ rfl
            have f5 := HBX5.out.frozen 1
            clear hown5 hg5 HF HON
            refine hK.out _ _ trivial (fun hHeld => ?_)
            clear hK K
            (try simp only [Act.put, pt8])
            refine wpAnyH_take (i := 6) (v := ?_) rfl (by kernel_rfl) (by kernel_rfl) (by kernel_rfl) (fun _ _ _ h => h) (Or.inl ⟨by rfl, ?_⟩) (by assumption) ?_
            rotate_left
            · intro w hSw; (try dsimp only at hSw); go_simp; (try with_reducible rfl)
            (try simp only [Act.put, pt8])
            refine wpAnyH_ready (rs := [7]) (by kernel_rfl) (by simp) ?_
            refine AllReadyH.cons rfl (fun K hK => ?_) AllReadyH.nil
            go_simp
            refine hK.out _ _ trivial (fun hHeld => ?_)
            clear hK K
            (try simp only [Act.put, pt8])
            refine wpAnyH_done (by kernel_rfl) ?_ _
            clear hHeld
            go_wp2_with fail
            clear y5 f5
            go_roundw
            case rel => exact ⟨k + 1, _, _, by omega, by go_num, HBX5.out.set 1 _, by rw [List.replicate_succ']; exact HO5.out.box HBX5.out (by decide) (by decide) (by decide) 1 _, HB5.out.setCell (p := ⟨gs, 1, none⟩) hgs _⟩
            case measure => simp [intOf]; omega
      · obtain rfl : P.ths.length = k := by omega
        have y0 := HBX.out.cell 0 _ rfl
        have y1 := HBX.out.cell 1 _ rfl
        have HRR := Lib.hid (HR.out.below HB.out HR.out.lt)
        have r0 := HRR.out.cell 0 _ rfl
        have r1 := HRR.out.cell 1 _ rfl
        have f0 := HRR.out.frozen 0
        have f1 := HRR.out.frozen 1
        obtain ⟨W9, hW9⟩ : ∃ W, W = (wr.setCell ⟨gr, 0, none⟩ (.slice Am P.init.length cm)).setCell ⟨gr, 1, none⟩ (.slice Av P.ths.length cv) := ⟨_, rfl⟩
        have HR9 := Lib.hid (show BoxC W9 gr 33 #[.slice Am P.init.length cm, .slice Av P.ths.length cv] from by rw [hW9]; exact (HRR.out.set 0 _).set 1 _)
        have HO9 := Lib.hid (show OwnSt W2.heap.size W9 (.slice Am P.init.length cm) (.slice Av P.ths.length cv) (beg P) ps from by
          rw [hW9, show beg P = ⟨P.init, List.replicate P.ths.length begTh⟩ from by rw [← HTH.out]; rfl]
          exact (HOS.out.box HRR.out (by decide) (by decide) (by decide) 0 _).box (HRR.out.set 0 _) (by decide) (by decide) (by decide) 1 _)
        have HB9 := Lib.hid (show Below w.heap.size w W9 from by rw [hW9]; exact ((chain HB2.out HB.out).setCell (p := ⟨gr, 0, none⟩) HGR.out _).setCell (p := ⟨gr, 1, none⟩) HGR.out _)
        have HW9 := Lib.hid hW9
        clear hW9
        go_wp2_with fail
        rw [← HW9.out]
        clear y0 y1 r0 r1 f0 f1
        have r0 := HR9.out.cell 0 _ rfl
        have r1 := HR9.out.cell 1 _ rfl
        have hz := HCO.out
        refine bodyPost_ret (v := .agg #[.slice Am P.init.length cm, .slice Av P.ths.length cv]) (by simp [results, Try.results24, go_sem, r0, r1, hz]) rfl ⟨_, _, _, rfl, HO9.out.base HB2.out.size, HB9.out⟩
end Go.Proofs.Ytlpjgaeelnlipaa
namespace Go.Proofs.Ytlpjgaeelnlipaa
open Go.RowKit
set_option linter.unusedVariables false
set_option linter.unusedSimpArgs false
open CodM (St Pg rightP)
open BfM (Wr plc)
open ScM

set_option maxHeartbeats 8000000 in
set_option maxRecDepth 100000 in
theorem rstep13_any {B : Nat} {v u : Value} {P : Pg} {s : Sta} (t : Int) (d wk : Bool) (w : World) (hv : PgV B w v P) (hu : StaV B w u s) (hBB : B ≤ w.heap.size) (hp : rightP P = true) (ho : OkSt P s) (hw : WideS s) :
    Calls Try.prog 25 #[v, u, .agg #[.int .i64 t, .bool d], .bool wk] w (RsRet P s t d wk w) := by
  have HS := Lib.hid (fun W (hW : Below w.heap.size w W) => refstep_any t W ((hv.below (hW.mono hBB)).more (Nat.le_trans hBB hW.size)) ((hu.below (hW.mono hBB)).more (Nat.le_trans hBB hW.size)) (Nat.le_refl _) hp ho hw)
  have HT := Lib.hid (fun W (hW : Below w.heap.size w W) => rtstep_any t d W ((hv.below (hW.mono hBB)).more (Nat.le_trans hBB hW.size)) ((hu.below (hW.mono hBB)).more (Nat.le_trans hBB hW.size)) (Nat.le_refl _) hp ho hw)
  clear hp ho hw
  obtain ⟨pi, pt, rfl, hpm⟩ := hv
  obtain ⟨um, ut, rfl, hum⟩ := hu
  obtain ⟨⟨P0, d0, rfl, -⟩, ⟨P1, d1, rfl, -⟩⟩ := hpm
  obtain ⟨⟨A7, c7, rfl, -⟩, ⟨A1, c1, rfl, -⟩⟩ := hum
  obtain ⟨W2, hW2⟩ : ∃ W, W = ((((w.alloc (.cells #[.slice P0 P.init.length d0, .slice P1 P.ths.length d1] 25)).alloc (.cells #[.slice A7 s.mem.length c7, .slice A1 s.ths.length c1] 33)).alloc (.cells #[.int .i64 t, .bool d] 52)).alloc (.cells #[.slice none 0 0, .slice none 0 0] 33)) := ⟨_, rfl⟩
  obtain ⟨gp, hgp⟩ : ∃ g, g = w.heap.size := ⟨_, rfl⟩
  obtain ⟨gs, hgs⟩ : ∃ g, g = w.heap.size + 1 := ⟨_, rfl⟩
  obtain ⟨gk, hgk⟩ : ∃ g, g = w.heap.size + 1 + 1 := ⟨_, rfl⟩
  obtain ⟨gr, hgr⟩ : ∃ g, g = w.heap.size + 1 + 1 + 1 := ⟨_, rfl⟩
  have HX := Lib.hid (show BoxC W2 gp 25 #[.slice P0 P.init.length d0, .slice P1 P.ths.length d1] from by rw [hW2, hgp]; have := (BoxC.new w 25 #[.slice P0 P.init.length d0, .slice P1 P.ths.length d1]) |>.alloc (.cells #[.slice A7 s.mem.length c7, .slice A1 s.ths.length c1] 33) |>.alloc (.cells #[.int .i64 t, .bool d] 52) |>.alloc (.cells #[.slice none 0 0, .slice none 0 0] 33); (try rw [World.size_alloc] at this); (try rw [World.size_alloc] at this); (try rw [World.size_alloc] at this); exact this)
  have HY := Lib.hid (show BoxC W2 gs 33 #[.slice A7 s.mem.length c7, .slice A1 s.ths.length c1] from by rw [hW2, hgs]; have := (BoxC.new (w.alloc (.cells #[.slice P0 P.init.length d0, .slice P1 P.ths.length d1] 25)) 33 #[.slice A7 s.mem.length c7, .slice A1 s.ths.length c1]) |>.alloc (.cells #[.int .i64 t, .bool d] 52) |>.alloc (.cells #[.slice none 0 0, .slice none 0 0] 33); (try rw [World.size_alloc] at this); (try rw [World.size_alloc] at this); (try rw [World.size_alloc] at this); exact this)
  have HK := Lib.hid (show BoxC W2 gk 52 #[.int .i64 t, .bool d] from by rw [hW2, hgk]; have := (BoxC.new ((w.alloc (.cells #[.slice P0 P.init.length d0, .slice P1 P.ths.length d1] 25)).alloc (.cells #[.slice A7 s.mem.length c7, .slice A1 s.ths.length c1] 33)) 52 #[.int .i64 t, .bool d]) |>.alloc (.cells #[.slice none 0 0, .slice none 0 0] 33); (try rw [World.size_alloc] at this); (try rw [World.size_alloc] at this); (try rw [World.size_alloc] at this); exact this)
  have HR := Lib.hid (show BoxC W2 gr 33 #[.slice none 0 0, .slice none 0 0] from by rw [hW2, hgr]; have := (BoxC.new (((w.alloc (.cells #[.slice P0 P.init.length d0, .slice P1 P.ths.length d1] 25)).alloc (.cells #[.slice A7 s.mem.length c7, .slice A1 s.ths.length c1] 33)).alloc (.cells #[.int .i64 t, .bool d] 52)) 33 #[.slice none 0 0, .slice none 0 0]); (try rw [World.size_alloc] at this); (try rw [World.size_alloc] at this); (try rw [World.size_alloc] at this); exact this)
  have HG := Lib.hid (show w.heap.size ≤ gr from by omega)
  have HB2 := Lib.hid (show Below w.heap.size w W2 from by rw [hW2]; exact below_al (below_al (below_al (below_al (Below.refl _ _) _) _) _) _)
  go_enter Try.func25, Try.ntmps25
  go_upto_region 1 with fail
  rw [← hW2]
  (try rw [← hgr])
  (try rw [← hgk])
  (try rw [← hgs])
  (try rw [← hgp])
  clear hW2 hgr hgk hgs hgp
  have x0 := HX.out.cell 0 _ rfl
  have x1 := HX.out.cell 1 _ rfl
  have y0 := HY.out.cell 0 _ rfl
  have y1 := HY.out.cell 1 _ rfl
  have k0 := HK.out.cell 0 _ rfl
  have k1 := HK.out.cell 1 _ rfl
  cases wk
  · cases d
    · go_wp2_with fail
      refine (Calls.mono (HS.out _ HB2.out) (fun e w' h => rs_strict h)).mono ?_
      rintro e V1 ⟨A, n, c, Bq, m, k, rfl, hos, hb⟩
      obtain ⟨q, hq⟩ : ∃ q, q = (rst P s t false false).isSome := ⟨_, rfl⟩
      rw [← hq]
      have HQ := Lib.hid hq
      have HO := Lib.hid hos
      have HR1 := Lib.hid (HR.out.below hb HR.out.lt)
      have HB3 := Lib.hid (chain HB2.out hb)
      have HZ2 := Lib.hid HB2.out.size
      clear hq hos hb x0 x1 y0 y1 k0 k1
      go_upto_region 7 with fail
      obtain ⟨X1, hX1⟩ : ∃ W, W = V1.alloc (.cells #[.slice A n c, .slice Bq m k] 33) := ⟨_, rfl⟩
      obtain ⟨g7, hg7⟩ : ∃ g, g = V1.heap.size := ⟨_, rfl⟩
      have H7 := Lib.hid (show BoxC X1 g7 33 #[.slice A n c, .slice Bq m k] from by rw [hX1, hg7]; exact BoxC.new V1 _ _)
      have HX1 := Lib.hid (show Below V1.heap.size V1 X1 from by rw [hX1]; exact below_al (Below.refl _ _) _)
      have HN7 := Lib.hid (show gr ≠ g7 from by have := HR1.out.lt; omega)
      rw [← hX1]
      (try rw [← hg7])
      clear hX1 hg7
      replace HR1 := Lib.hid (HR1.out.below HX1.out HR1.out.lt)
      replace HB3 := Lib.hid (chain HB3.out HX1.out)
      have e0 := H7.out.cell 0 _ rfl
      have e1 := H7.out.cell 1 _ rfl
      have r0 := HR1.out.cell 0 _ rfl
      have r1 := HR1.out.cell 1 _ rfl
      have f0 := HR1.out.frozen 0
      have f1 := HR1.out.frozen 1
      obtain ⟨W9, hW9⟩ : ∃ W, W = (X1.setCell ⟨gr, 0, none⟩ (.slice A n c)).setCell ⟨gr, 1, none⟩ (.slice Bq m k) := ⟨_, rfl⟩
      have HR9 := Lib.hid (show BoxC W9 gr 33 #[(.slice A n c), (.slice Bq m k)] from by rw [hW9]; exact (HR1.out.set 0 _).set 1 _)
      have HO9 := Lib.hid (fun s' (h : rst P s t false false = some s') => show ∃ ps, OwnSt w.heap.size W9 (.slice A n c) (.slice Bq m k) s' ps from by
        obtain ⟨ps, ho⟩ := HO.out s' h
        rw [hW9]
        exact ⟨ps, (((ho.below HX1.out).base HZ2.out).box HR1.out (by decide) (by decide) (by decide) 0 _).box (HR1.out.set 0 _) (by decide) (by decide) (by decide) 1 _⟩)
      have HB9 := Lib.hid (show Below w.heap.size w W9 from by rw [hW9]; exact (HB3.out.setCell (p := ⟨gr, 0, none⟩) HG.out _).setCell (p := ⟨gr, 1, none⟩) HG.out _)
      have HW9 := Lib.hid hW9
      clear hW9
      go_wp2_with fail
      rw [← HW9.out]
      clear r0 r1 f0 f1
      have r0 := HR9.out.cell 0 _ rfl
      have r1 := HR9.out.cell 1 _ rfl
      have hz : Try.prog.cellsOf 33 = 2 := by kernel_rfl
      refine bodyPost_ret (v := .tuple #[.agg #[(.slice A n c), (.slice Bq m k)], .bool q]) (by simp [results, Try.results25, go_sem, r0, r1, hz]) rfl ?_
      exact ⟨_, _, _, _, _, _, by rw [← HQ.out], HO9.out, HB9.out⟩
    · have HN := Lib.hid (rst_drain P s t)
      have r0 := HR.out.cell 0 _ rfl
      have r1 := HR.out.cell 1 _ rfl
      have f0 := HR.out.frozen 0
      have f1 := HR.out.frozen 1
      obtain ⟨W9, hW9⟩ : ∃ W, W = (W2.setCell ⟨gr, 0, none⟩ (.slice A7 s.mem.length c7)).setCell ⟨gr, 1, none⟩ (.slice A1 s.ths.length c1) := ⟨_, rfl⟩
      have HR9 := Lib.hid (show BoxC W9 gr 33 #[(.slice A7 s.mem.length c7), (.slice A1 s.ths.length c1)] from by rw [hW9]; exact (HR.out.set 0 _).set 1 _)
      clear x0 x1 k0
      have HB9 := Lib.hid (show Below w.heap.size w W9 from by rw [hW9]; exact (HB2.out.setCell (p := ⟨gr, 0, none⟩) HG.out _).setCell (p := ⟨gr, 1, none⟩) HG.out _)
      have HW9 := Lib.hid hW9
      clear hW9
      go_wp2_with fail
      rw [← HW9.out]
      clear r0 r1 f0 f1
      have r0 := HR9.out.cell 0 _ rfl
      have r1 := HR9.out.cell 1 _ rfl
      have hz : Try.prog.cellsOf 33 = 2 := by kernel_rfl
      refine bodyPost_ret (v := .tuple #[.agg #[(.slice A7 s.mem.length c7), (.slice A1 s.ths.length c1)], .bool false]) (by simp [results, Try.results25, go_sem, r0, r1, hz]) rfl ?_
      exact ⟨_, _, _, _, _, _, by rw [HN.out]; rfl, fun s' (h : rst P s t true false = some s') => absurd (HN.out.symm.trans h) (by simp), HB9.out⟩
  · go_wp2_with fail
    refine (Calls.mono (HT.out _ HB2.out) (fun e w' h => rs_weak h)).mono ?_
    rintro e V1 ⟨A, n, c, Bq, m, k, rfl, hos, hb⟩
    obtain ⟨q, hq⟩ : ∃ q, q = (rst P s t d true).isSome := ⟨_, rfl⟩
    rw [← hq]
    have HQ := Lib.hid hq
    have HO := Lib.hid hos
    have HR1 := Lib.hid (HR.out.below hb HR.out.lt)
    have HB3 := Lib.hid (chain HB2.out hb)
    have HZ2 := Lib.hid HB2.out.size
    clear hq hos hb x0 x1 y0 y1 k0 k1
    go_upto_region 3 with fail
    obtain ⟨X1, hX1⟩ : ∃ W, W = V1.alloc (.cells #[.slice A n c, .slice Bq m k] 33) := ⟨_, rfl⟩
    obtain ⟨g7, hg7⟩ : ∃ g, g = V1.heap.size := ⟨_, rfl⟩
    have H7 := Lib.hid (show BoxC X1 g7 33 #[.slice A n c, .slice Bq m k] from by rw [hX1, hg7]; exact BoxC.new V1 _ _)
    have HX1 := Lib.hid (show Below V1.heap.size V1 X1 from by rw [hX1]; exact below_al (Below.refl _ _) _)
    have HN7 := Lib.hid (show gr ≠ g7 from by have := HR1.out.lt; omega)
    rw [← hX1]
    (try rw [← hg7])
    clear hX1 hg7
    replace HR1 := Lib.hid (HR1.out.below HX1.out HR1.out.lt)
    replace HB3 := Lib.hid (chain HB3.out HX1.out)
    have e0 := H7.out.cell 0 _ rfl
    have e1 := H7.out.cell 1 _ rfl
    have r0 := HR1.out.cell 0 _ rfl
    have r1 := HR1.out.cell 1 _ rfl
    have f0 := HR1.out.frozen 0
    have f1 := HR1.out.frozen 1
    obtain ⟨W9, hW9⟩ : ∃ W, W = (X1.setCell ⟨gr, 0, none⟩ (.slice A n c)).setCell ⟨gr, 1, none⟩ (.slice Bq m k) := ⟨_, rfl⟩
    have HR9 := Lib.hid (show BoxC W9 gr 33 #[(.slice A n c), (.slice Bq m k)] from by rw [hW9]; exact (HR1.out.set 0 _).set 1 _)
    have HO9 := Lib.hid (fun s' (h : rst P s t d true = some s') => show ∃ ps, OwnSt w.heap.size W9 (.slice A n c) (.slice Bq m k) s' ps from by
      obtain ⟨ps, ho⟩ := HO.out s' h
      rw [hW9]
      exact ⟨ps, (((ho.below HX1.out).base HZ2.out).box HR1.out (by decide) (by decide) (by decide) 0 _).box (HR1.out.set 0 _) (by decide) (by decide) (by decide) 1 _⟩)
    have HB9 := Lib.hid (show Below w.heap.size w W9 from by rw [hW9]; exact (HB3.out.setCell (p := ⟨gr, 0, none⟩) HG.out _).setCell (p := ⟨gr, 1, none⟩) HG.out _)
    have HW9 := Lib.hid hW9
    clear hW9
    go_wp2_with fail
    rw [← HW9.out]
    clear r0 r1 f0 f1
    have r0 := HR9.out.cell 0 _ rfl
    have r1 := HR9.out.cell 1 _ rfl
    have hz : Try.prog.cellsOf 33 = 2 := by kernel_rfl
    refine bodyPost_ret (v := .tuple #[.agg #[(.slice A n c), (.slice Bq m k)], .bool q]) (by simp [results, Try.results25, go_sem, r0, r1, hz]) rfl ?_
    exact ⟨_, _, _, _, _, _, by rw [← HQ.out], HO9.out, HB9.out⟩
end Go.Proofs.Ytlpjgaeelnlipaa
namespace Go.Proofs.Ytlpjgaeelnlipaa
open Go.RowKit
set_option linter.unusedVariables false
set_option linter.unusedSimpArgs false
open CodM (St Pg rightP)
open BfM (Wr plc)
open ScM

theorem ki_new (w : World) (t : Int) (d : Bool) : ∀ j u, ([.int .i64 t, .bool d] : List Value)[j]? = some u → (w.alloc (.cells #[.int .i64 t, .bool d] 52)).cell? ((⟨w.heap.size, 0, none⟩ : Addr).add j) = some u := by
  intro j u hj
  rw [show ((⟨w.heap.size, 0, none⟩ : Addr).add j) = ⟨w.heap.size, j, none⟩ by simp [Addr.add]; intro e; exact e.symm]
  rw [World.cell?_alloc_at _ _ _ _ rfl]
  simpa using hj
end Go.Proofs.Ytlpjgaeelnlipaa
namespace Go.Proofs.Ytlpjgaeelnlipaa
open Go.RowKit
set_option linter.unusedVariables false
set_option linter.unusedSimpArgs false
open CodM (St Pg rightP)
open BfM (Wr plc)
open ScM
open SlM
open CrM

/-- A box with a set of slots, and one with a row of picks of the call's own. -/
def RwJ (W : World) (gF bF n : Nat) (f : Int → Bool) (g3 base : Nat) (r : List (Int × Bool)) : Prop :=
  BoxC W gF 55 #[.map (some bF)] ∧ MapT W bF n f ∧ ∃ A c, BoxC W g3 26 #[.slice A r.length c] ∧ W.ownsRow base 52 2 (.slice A r.length c) r.length (r.flatMap kiC)
theorem RwJ.grown {W W' : World} {gF bF n g3 base : Nat} {f : Int → Bool} {r : List (Int × Bool)} (h : RwJ W gF bF n f g3 base r) (hg : W.grownBy W' none) : RwJ W' gF bF n f g3 base r := by
  obtain ⟨h1, h2, A, c, h3, h4⟩ := h
  exact ⟨(hg.block _ h1.lt (by simp)).trans h1, h2.kept hg (by simp), A, c, (hg.block _ h3.lt (by simp)).trans h3, own_same h4 (fun g cs hh _ => hg.block g (Array.getElem?_eq_some_iff.1 hh).1 (by simp))⟩
theorem mapT_box {W : World} {b n : Nat} {f : Int → Bool} {T : TypeId} {cs : Array Value} {q : Nat} (hm : MapT W b n f) (hb : BoxC W q T cs) : b ≠ q := fun e => by
  subst e
  obtain ⟨D, ⟨es, cl, hh, -⟩, -⟩ := hm
  rw [show W.heap[b]? = _ from hb] at hh
  cases hh
/-- A pick is put behind, and the row stored. -/
theorem RwJ.put {W W' : World} {gF bF n g3 base c c' : Nat} {A A' : Option Addr} {f : Int → Bool} {r : List (Int × Bool)} {p : Int × Bool} (h : RwJ W gF bF n f g3 base r) (hb : BoxC W g3 26 #[.slice A r.length c]) (ho : W.ownsRow base 52 2 (.slice A r.length c) r.length (r.flatMap kiC))
    (ho2 : W'.ownsRow base 52 2 (.slice A' (r.length + 1) c') (r.length + 1) (r.flatMap kiC ++ kiC p)) (hg : W.grownBy W' (Value.slice A r.length c).ownBlock) : RwJ (W'.setCell ⟨g3, 0, none⟩ (.slice A' (r.length + 1) c')) gF bF n f g3 base (r ++ [p]) := by
  obtain ⟨h1, h2, -⟩ := h
  have hne : gF ≠ g3 := fun e => by
    subst e
    have := Option.some.inj ((show W.heap[gF]? = _ from h1).symm.trans (show W.heap[gF]? = _ from hb))
    injection this with _ e
    exact absurd e (by decide)
  have k1 : BoxC W' gF 55 #[.map (some bF)] := h1.grown (by decide) ho hg
  have k3 : BoxC W' g3 26 #[.slice A r.length c] := hb.grown (by decide) ho hg
  have k2 : MapT W' bF n f := h2.kept hg (fun e => by
    obtain ⟨D, ⟨es, cl, hh, -⟩, -⟩ := h2
    rcases ho.2 with ⟨h, _⟩ | ⟨g, c2, cur, h, _, hh2, _⟩
    · rw [h] at e; cases e
    · rw [h] at e
      have e2 : bF = g := Option.some.inj e
      subst e2
      rw [hh2] at hh
      cases hh)
  have hl : (r ++ [p]).length = r.length + 1 := by simp
  have hx : (r ++ [p]).flatMap kiC = r.flatMap kiC ++ kiC p := by rw [List.flatMap_append]; simp
  refine ⟨k1.other hne 0 _, k2.heap (heap_setCell_other W' ⟨g3, 0, none⟩ bF _ (mapT_box k2 k3)), A', c', ?_, ?_⟩
  · rw [hl]; exact k3.set 0 _
  · rw [hl, hx]; exact own_box ho2 k3 (by decide) 0 _
theorem RwJ.ab {E : List ((Int × Bool) × (Int × Bool))} {gF bF n g3 base N : Nat} {f : Int → Bool} {φ : Nat → List (Int × Bool)} (h1 : gF < N) (h2 : bF < N) (h3 : g3 < N) : MayAb N (fun k W => RwJ W gF bF n f g3 base (φ k)) := by
  rintro k X Y row ⟨k1, k2, A, c, k3, k4⟩ hgr hr
  have hne : ∀ q, q < N → some q ≠ row := fun q hq e => by have := (hr q e.symm).1; omega
  refine ⟨(hgr.block gF k1.lt (hne gF h1)).trans k1, k2.kept hgr (hne bF h2), A, c, (hgr.block g3 k3.lt (hne g3 h3)).trans k3, own_same k4 (fun g cs hh _ => hgr.block g (Array.getElem?_eq_some_iff.1 hh).1 (fun e => ?_))⟩
  obtain ⟨-, o, ho, hc⟩ := hr g e.symm
  rw [hh] at ho
  injection ho with ho
  subst ho
  rcases hc with hc | ⟨cs2, ro, T, e2, hT⟩
  · cases hc
  · injection e2 with _ e2; exact hT e2.symm
/-- All stays but block g, and rows of picks. -/
def KpY (g : Nat) (W W' : World) : Prop := ∀ k (o : Obj), W.heap[k]? = some o → k ≠ g → (∀ cs ro, o ≠ .cells cs 52 ro) → W'.heap[k]? = some o
theorem KpY.trans {g : Nat} {X Y Z : World} (h : KpY g X Y) (k : KpY g Y Z) : KpY g X Z := fun i o h1 h2 h3 => k i o (h i o h1 h2 h3) h2 h3
theorem KpY.grown {g : Nat} {A D : World} (hg : A.grownBy D none) : KpY g A D := fun k o h1 _ _ => (hg.block k (Array.getElem?_eq_some_iff.1 h1).1 (by simp)).trans h1
theorem KpY.app {g base m s : Nat} {A D : World} {v : Value} {xs : List Value} (ho : A.ownsRow base 52 s v m xs) (hg : A.grownBy D v.ownBlock) : KpY g A D := fun k o h1 _ h3 => (hg.block k (Array.getElem?_eq_some_iff.1 h1).1 (fun e => by
  rcases ho.2 with ⟨rfl, _⟩ | ⟨g, c, cur, rfl, _, h2, _⟩
  · cases e
  · have e2 : k = g := Option.some.inj e
    subst e2
    rw [h2] at h1
    injection h1 with h1
    exact h3 cur (0, 0) h1.symm)).trans h1
theorem KpY.set (g : Nat) (A : World) (v : Value) : KpY g A (A.setCell ⟨g, 0, none⟩ v) := fun k o h1 h2 _ => (heap_setCell_other A ⟨g, 0, none⟩ k v (by show k ≠ g; exact h2)).trans h1
set_option maxHeartbeats 8000000 in
set_option maxRecDepth 100000 in
theorem lomay_any {B N n gF bF g3 base : Nat} {f : Int → Bool} {r : List (Int × Bool)} (t x : Int) (d c : Bool) (w : World) (hJ : RwJ w gF bF n f g3 base r) (hx : -1 ≤ x ∧ x ≤ 1000000) (hln : r.length ≤ 150000) (hBw : B ≤ w.heap.size) (hB3 : B ≤ g3) (h3N : g3 < N) (hBb : B ≤ base) (hbw : base ≤ w.heap.size) :
    Calls Try.prog 31 #[.agg #[.int .i64 t, .bool d], .agg #[.int .i64 x, .bool c], .pointer (some ⟨gF, 0, none⟩), .pointer (some ⟨g3, 0, none⟩)] w fun e w' => e = .returned (.bool true) ∧ RwJ w' gF bF n f g3 base (r ++ (if f x then [] else [(t, d)])) ∧ KpM B N w w' ∧ KpY g3 w w' := by
  obtain ⟨i0, hi, hz0, hz1, hz2⟩ := info_parts info_pk
  have hwx : (Lit.int .i64 x).wf = true := WalkArith.wf_i64 (by omega)
  have HLN := Lib.hid hln
  obtain ⟨rx, hrx⟩ : ∃ rx, rx = (if f x then [] else [(t, d)]) := ⟨_, rfl⟩
  rw [← hrx]
  have HRX := Lib.hid hrx
  clear hrx
  obtain ⟨W1, hW1⟩ : ∃ W, W = (w.alloc (.cells #[.int .i64 t, .bool d] 52)).alloc (.cells #[.int .i64 x, .bool c] 58) := ⟨_, rfl⟩
  obtain ⟨gk, hgk⟩ : ∃ g, g = w.heap.size := ⟨_, rfl⟩
  obtain ⟨gw, hgw⟩ : ∃ g, g = w.heap.size + 1 := ⟨_, rfl⟩
  have HP := Lib.hid (show BoxC W1 gk 52 #[.int .i64 t, .bool d] from by rw [hW1, hgk]; exact (BoxC.new w 52 #[.int .i64 t, .bool d]).alloc _)
  have HW := Lib.hid (show BoxC W1 gw 58 #[.int .i64 x, .bool c] from by rw [hW1, hgw]; have := BoxC.new (w.alloc (.cells #[.int .i64 t, .bool d] 52)) 58 #[.int .i64 x, .bool c]; rw [World.size_alloc] at this; exact this)
  have HG0 := Lib.hid (show w.grownBy W1 none from by rw [hW1]; exact (World.grownBy_alloc w (.cells #[.int .i64 t, .bool d] 52) none).trans (World.grownBy_alloc _ (.cells #[.int .i64 x, .bool c] 58) none))
  have HK1 := Lib.hid (show KpM B N w W1 from KpM.grown hBw HG0.out)
  have HJ1 := Lib.hid (hJ.grown HG0.out)
  have HBW1 := Lib.hid (Nat.le_trans hBw HG0.out.size)
  have HBA1 := Lib.hid (Nat.le_trans hbw HG0.out.size)
  have HGN := Lib.hid (show gk ≠ g3 ∧ gw ≠ g3 ∧ w.heap.size ≤ gk from by obtain ⟨-, -, A, c', h3, -⟩ := hJ; have := h3.lt; omega)
  have q0 := HP.out.cell 0 _ rfl
  have q1 := HP.out.cell 1 _ rfl
  have y0 := HW.out.cell 0 _ rfl
  have y1 := HW.out.cell 1 _ rfl
  have y2 := HJ1.out.1.cell 0 _ rfl
  have HMT := Lib.hid HJ1.out.2.1
  clear hJ
  go_enter Try.func31, Try.ntmps31
  go_upto_region 1 with fail
  rw [← hW1]
  (try rw [← hgw])
  (try rw [← hgk])
  clear hW1 hgw hgk

  cases hfx : f x
  case true =>
    go_wp2_with (at_lookup; refine at_mapI _ rfl _ _ rfl bF n _ rfl HMT.out.i x rfl hwx ?_; rw [hfx])
    go_ret
    exact ⟨rfl, by rw [HRX.out, hfx]; simpa using HJ1.out, HK1.out, KpY.grown HG0.out⟩
  case false =>
    obtain ⟨-, -, A1, c1, hb1, ho1⟩ := HJ1.out
    have HO1 := Lib.hid ho1
    have HX1 := Lib.hid hb1
    obtain ⟨m1, hm1⟩ : ∃ m, m = r.length := ⟨_, rfl⟩
    have HM1 := Lib.hid hm1
    rw [← hm1] at hb1 HO1 HX1
    have hml1 : m1 ≤ 200000 := by have := HLN.out; rw [hm1]; simp; omega
    have z1 := hb1.cell 0 _ rfl
    have HXL1 := Lib.hid (HX1.out.alloc (.cells #[.int .i64 t, .bool d] 52))
    have HOL1 := Lib.hid (own_same HO1.out (fun g cs hh _ => (World.grownBy_alloc W1 (.cells #[.int .i64 t, .bool d] 52) none).block g (Array.getElem?_eq_some_iff.1 hh).1 (by simp)))
    clear hb1 ho1 hm1
    go_upto_region 2 with (at_lookup; refine at_mapI _ rfl _ _ rfl bF n _ rfl HMT.out.i x rfl hwx ?_; rw [hfx])
    go_upto_region 3 with (at_builtin; refine wpList_append_own _ rfl _ _ 26 rfl base 52 i0 (.agg #[.int .i64 0, .bool false]) 2 16 Try.underlying26 hi hz0 hz1 hz2 rfl (by decide) _ m1 ((r).flatMap kiC) rfl HOL1.out ⟨W1.heap.size, 0, none⟩ 1 1 [.int .i64 t, .bool d] rfl rfl (ki_new _ _ _) (by simp [Value.oneCell']) (by unfold maxLen; omega) (by omega) (by rw [World.size_alloc]; have := HBA1.out; omega) ?_; intro v1 wz1 hown1 hg1 _; obtain ⟨Az1, cz1, rfl⟩ := own_slice hown1; have HZ1 := Lib.hid hown1; have HG1 := Lib.hid hg1; have HY1 := Lib.hid (HXL1.out.grown (by decide) HOL1.out hg1); have e1 := HY1.out.cell 0 _ rfl; have f1 := HY1.out.frozen 0; clear hown1 hg1)
    obtain ⟨Y1, hY1⟩ : ∃ W, W = wz1.setCell ⟨g3, 0, none⟩ (.slice Az1 (m1 + 1) cz1) := ⟨_, rfl⟩
    rw [← hY1]
    have HJ2 := Lib.hid (show RwJ Y1 gF bF n f g3 base (r ++ [(t, d)]) from by
      have h1 := HXL1.out
      have h2 := HOL1.out
      have h3 := HZ1.out
      have h4 := HG1.out
      rw [hY1]
      rw [HM1.out] at h1 h2 h3 h4 ⊢
      exact RwJ.put (HJ1.out.grown (World.grownBy_alloc W1 (.cells #[.int .i64 t, .bool d] 52) none)) h1 h2 h3 h4)
    have HK2 := Lib.hid (show KpM B N w Y1 from by
      rw [hY1]
      exact ((HK1.out.trans (KpM.grown HBW1.out (World.grownBy_alloc W1 (.cells #[.int .i64 t, .bool d] 52) none))).trans (KpM.app (by rw [World.size_alloc]; have := HBW1.out; omega) HOL1.out hBb HG1.out)).trans (KpM.set hB3 h3N _ _))
    have HKY := Lib.hid (show KpY g3 w Y1 from by
      rw [hY1]
      exact (((KpY.grown HG0.out).trans (KpY.grown (World.grownBy_alloc W1 (.cells #[.int .i64 t, .bool d] 52) none))).trans (KpY.app HOL1.out HG1.out)).trans (KpY.set g3 _ _))
    clear e1 f1 hY1 z1
    go_wp2
    go_ret
    exact ⟨rfl, by rw [HRX.out, hfx]; exact HJ2.out, HK2.out, HKY.out⟩
set_option maxHeartbeats 8000000 in
set_option maxRecDepth 100000 in
theorem ramay_any {B N n gF bF g3 base : Nat} {f : Int → Bool} {r : List (Int × Bool)} (t x : Int) (d c : Bool) (w : World) (hJ : RwJ w gF bF n f g3 base r) (hx : -1 ≤ x ∧ x ≤ 1000000) (hln : r.length ≤ 150000) (hBw : B ≤ w.heap.size) (hB3 : B ≤ g3) (h3N : g3 < N) (hBb : B ≤ base) (hbw : base ≤ w.heap.size) :
    Calls Try.prog 28 #[.agg #[.int .i64 t, .bool d], .agg #[.int .i64 x, .bool c], .pointer (some ⟨gF, 0, none⟩), .pointer (some ⟨g3, 0, none⟩)] w fun e w' => e = .returned (.bool (!(f x && c))) ∧ RwJ w' gF bF n f g3 base (r ++ (if f x then [(t, d), (t, d)] else [(t, d)])) ∧ KpM B N w w' := by
  obtain ⟨i0, hi, hz0, hz1, hz2⟩ := info_parts info_pk
  have hwx : (Lit.int .i64 x).wf = true := WalkArith.wf_i64 (by omega)
  have HLN := Lib.hid hln
  obtain ⟨rx, hrx⟩ : ∃ rx, rx = (if f x then [(t, d), (t, d)] else [(t, d)]) := ⟨_, rfl⟩
  rw [← hrx]
  have HRX := Lib.hid hrx
  clear hrx
  obtain ⟨W1, hW1⟩ : ∃ W, W = (w.alloc (.cells #[.int .i64 t, .bool d] 52)).alloc (.cells #[.int .i64 x, .bool c] 58) := ⟨_, rfl⟩
  obtain ⟨gk, hgk⟩ : ∃ g, g = w.heap.size := ⟨_, rfl⟩
  obtain ⟨gw, hgw⟩ : ∃ g, g = w.heap.size + 1 := ⟨_, rfl⟩
  have HP := Lib.hid (show BoxC W1 gk 52 #[.int .i64 t, .bool d] from by rw [hW1, hgk]; exact (BoxC.new w 52 #[.int .i64 t, .bool d]).alloc _)
  have HW := Lib.hid (show BoxC W1 gw 58 #[.int .i64 x, .bool c] from by rw [hW1, hgw]; have := BoxC.new (w.alloc (.cells #[.int .i64 t, .bool d] 52)) 58 #[.int .i64 x, .bool c]; rw [World.size_alloc] at this; exact this)
  have HG0 := Lib.hid (show w.grownBy W1 none from by rw [hW1]; exact (World.grownBy_alloc w (.cells #[.int .i64 t, .bool d] 52) none).trans (World.grownBy_alloc _ (.cells #[.int .i64 x, .bool c] 58) none))
  have HK1 := Lib.hid (show KpM B N w W1 from KpM.grown hBw HG0.out)
  have HJ1 := Lib.hid (hJ.grown HG0.out)
  have HBW1 := Lib.hid (Nat.le_trans hBw HG0.out.size)
  have HBA1 := Lib.hid (Nat.le_trans hbw HG0.out.size)
  have HGN := Lib.hid (show gk ≠ g3 ∧ gw ≠ g3 ∧ w.heap.size ≤ gk from by obtain ⟨-, -, A, c', h3, -⟩ := hJ; have := h3.lt; omega)
  have q0 := HP.out.cell 0 _ rfl
  have q1 := HP.out.cell 1 _ rfl
  have y0 := HW.out.cell 0 _ rfl
  have y1 := HW.out.cell 1 _ rfl
  have y2 := HJ1.out.1.cell 0 _ rfl
  have HMT := Lib.hid HJ1.out.2.1
  obtain ⟨-, -, A1, c1, hb1, ho1⟩ := hJ
  have HVB := Lib.hid (show ∀ g, (Value.slice A1 r.length c1).ownBlock = some g → g < w.heap.size from fun g e => by
    rcases ho1.2 with ⟨h, _⟩ | ⟨g2, c2, cur, h, _, hh, _⟩
    · rw [h] at e; cases e
    · rw [h] at e
      have e2 : g2 = g := Option.some.inj e
      subst e2
      exact (Array.getElem?_eq_some_iff.1 hh).1)
  have HX1 := Lib.hid (show BoxC W1 g3 26 #[.slice A1 r.length c1] from (HG0.out.block _ hb1.lt (by simp)).trans hb1)
  have HO1 := Lib.hid (own_same ho1 (fun g cs hh _ => HG0.out.block g (Array.getElem?_eq_some_iff.1 hh).1 (by simp)))
  have HWY1 := Lib.hid HW.out
  have HGK := Lib.hid (show gk = w.heap.size from hgk)
  obtain ⟨m1, hm1⟩ : ∃ m, m = r.length := ⟨_, rfl⟩
  have HM1 := Lib.hid hm1
  rw [← hm1] at HX1 HO1 HVB hln
  have HBC := Lib.hid (show ∀ b : Bool, (!(b && c)) = (if b then !c else true) from fun b => by cases b <;> simp)
  clear hb1 ho1 hm1
  go_enter Try.func28, Try.ntmps28
  go_upto_region 1 with fail
  rw [← hW1]
  (try rw [← hgw])
  (try rw [← hgk])
  clear hW1 hgw hgk

  cases hfx : f x
  case true =>
    have HXL1 := Lib.hid (HX1.out.alloc (.cells #[.int .i64 t, .bool d] 52))
    have HOL1 := Lib.hid (own_same HO1.out (fun g cs hh _ => (World.grownBy_alloc W1 (.cells #[.int .i64 t, .bool d] 52) none).block g (Array.getElem?_eq_some_iff.1 hh).1 (by simp)))
    have z1 := HX1.out.cell 0 _ rfl
    go_upto_region 2 with (at_lookup; refine at_mapI _ rfl _ _ rfl bF n _ rfl HMT.out.i x rfl hwx ?_; rw [hfx])
    go_upto_region 3 with (at_builtin; refine wpList_append_own_at _ rfl _ _ 26 rfl base 52 i0 (.agg #[.int .i64 0, .bool false]) 2 16 Try.underlying26 hi hz0 hz1 hz2 rfl (by decide) _ m1 ((r).flatMap kiC) rfl HOL1.out ⟨W1.heap.size, 0, none⟩ 1 1 [.int .i64 t, .bool d] rfl rfl (ki_new _ _ _) (by simp [Value.oneCell']) (by unfold maxLen; omega) (by omega) (by rw [World.size_alloc]; have := HBA1.out; omega) ?_; intro v1 wz1 hown1 hg1 _ hat1; obtain ⟨Az1, cz1, rfl⟩ := own_slice hown1; have HZ1 := Lib.hid hown1; have HG1 := Lib.hid hg1; have HAT1 := Lib.hid hat1; have HY1 := Lib.hid (HXL1.out.grown (by decide) HOL1.out hg1); have HW1 := Lib.hid ((HWY1.out.alloc (.cells #[.int .i64 t, .bool d] 52)).grown (by decide) HOL1.out hg1); have e1 := HY1.out.cell 0 _ rfl; have f1 := HY1.out.frozen 0; clear hown1 hg1 hat1)
    obtain ⟨Y1, hY1⟩ : ∃ W, W = wz1.setCell ⟨g3, 0, none⟩ (.slice Az1 (m1 + 1) cz1) := ⟨_, rfl⟩
    rw [← hY1]
    have HJ2 := Lib.hid (show RwJ Y1 gF bF n f g3 base (r ++ [(t, d)]) from by
      have h1 := HXL1.out
      have h2 := HOL1.out
      have h3 := HZ1.out
      have h4 := HG1.out
      rw [hY1]
      rw [HM1.out] at h1 h2 h3 h4 ⊢
      exact RwJ.put (HJ1.out.grown (World.grownBy_alloc W1 (.cells #[.int .i64 t, .bool d] 52) none)) h1 h2 h3 h4)
    have HK2 := Lib.hid (show KpM B N w Y1 from by
      rw [hY1]
      exact ((HK1.out.trans (KpM.grown HBW1.out (World.grownBy_alloc W1 (.cells #[.int .i64 t, .bool d] 52) none))).trans (KpM.app (by rw [World.size_alloc]; have := HBW1.out; omega) HOL1.out hBb HG1.out)).trans (KpM.set hB3 h3N _ _))
    have HBW2 := Lib.hid (show B ≤ Y1.heap.size from Nat.le_trans hBw HK2.out.2.size)
    have HBA2 := Lib.hid (show base ≤ Y1.heap.size from Nat.le_trans hbw HK2.out.2.size)
    have HX2 := Lib.hid (show BoxC Y1 g3 26 #[.slice Az1 (m1 + 1) cz1] from by rw [hY1]; exact HY1.out.set 0 _)
    have HO2 := Lib.hid (show Y1.ownsRow base 52 2 (.slice Az1 (m1 + 1) cz1) (m1 + 1) ((r ++ [(t, d)]).flatMap kiC) from by
      rw [hY1, show (r ++ [(t, d)]).flatMap kiC = (r).flatMap kiC ++ [.int .i64 t, .bool d] from by rw [List.flatMap_append]; rfl]
      exact own_box HZ1.out HY1.out (by decide) 0 _)
    have HWY2 := Lib.hid (show BoxC Y1 gw 58 #[.int .i64 x, .bool c] from by rw [hY1]; exact HW1.out.other HGN.out.2.1 0 _)
    have HYe1 := Lib.hid hY1
    clear e1 f1 hY1 z1
    (try clear y0 y1 y2)
    obtain ⟨m2, hm2⟩ : ∃ m, m = m1 + 1 := ⟨_, rfl⟩
    have HM2 := Lib.hid (show m2 = (r ++ [(t, d)]).length from by rw [hm2, HM1.out]; simp)
    rw [← hm2] at HX2 HO2
    have HPY := Lib.hid (show BoxC Y1 gk 52 #[.int .i64 t, .bool d] from by
      rw [HYe1.out]
      refine BoxC.other ?_ HGN.out.1 0 _
      exact (HG1.out.block gk (HP.out.alloc _).lt (fun e => by have := HVB.out gk e.symm; have := HGK.out; omega)).trans (HP.out.alloc _))
    clear q0 q1
    have q0 := HPY.out.cell 0 _ rfl
    have q1 := HPY.out.cell 1 _ rfl
    have hm2' : m2 ≤ 200000 := by omega
    have HE2 := Lib.hid hm2
    clear hm2
    have HXL2 := Lib.hid (HX2.out.alloc (.cells #[.int .i64 t, .bool d] 52))
    have HOL2 := Lib.hid (own_same HO2.out (fun g cs hh _ => (World.grownBy_alloc Y1 (.cells #[.int .i64 t, .bool d] 52) none).block g (Array.getElem?_eq_some_iff.1 hh).1 (by simp)))
    have z2 := HX2.out.cell 0 _ rfl
    rw [← HE2.out]
    go_upto_region 4 with (at_builtin; refine wpList_append_own_at _ rfl _ _ 26 rfl base 52 i0 (.agg #[.int .i64 0, .bool false]) 2 16 Try.underlying26 hi hz0 hz1 hz2 rfl (by decide) _ m2 ((r ++ [(t, d)]).flatMap kiC) rfl HOL2.out ⟨Y1.heap.size, 0, none⟩ 1 1 [.int .i64 t, .bool d] rfl rfl (ki_new _ _ _) (by simp [Value.oneCell']) (by unfold maxLen; omega) (by omega) (by rw [World.size_alloc]; have := HBA2.out; omega) ?_; intro v2 wz2 hown2 hg2 _ hat2; obtain ⟨Az2, cz2, rfl⟩ := own_slice hown2; have HZ2 := Lib.hid hown2; have HG2 := Lib.hid hg2; have HAT2 := Lib.hid hat2; have HY2 := Lib.hid (HXL2.out.grown (by decide) HOL2.out hg2); have HW2 := Lib.hid ((HWY2.out.alloc (.cells #[.int .i64 t, .bool d] 52)).grown (by decide) HOL2.out hg2); have e2 := HY2.out.cell 0 _ rfl; have f2 := HY2.out.frozen 0; clear hown2 hg2 hat2)
    obtain ⟨Y2, hY2⟩ : ∃ W, W = wz2.setCell ⟨g3, 0, none⟩ (.slice Az2 (m2 + 1) cz2) := ⟨_, rfl⟩
    rw [← hY2]
    have HJ3 := Lib.hid (show RwJ Y2 gF bF n f g3 base ((r ++ [(t, d)]) ++ [(t, d)]) from by
      have h1 := HXL2.out
      have h2 := HOL2.out
      have h3 := HZ2.out
      have h4 := HG2.out
      rw [hY2]
      rw [HM2.out] at h1 h2 h3 h4 ⊢
      exact RwJ.put (HJ2.out.grown (World.grownBy_alloc Y1 (.cells #[.int .i64 t, .bool d] 52) none)) h1 h2 h3 h4)
    have HK3 := Lib.hid (show KpM B N w Y2 from by
      rw [hY2]
      exact ((HK2.out.trans (KpM.grown HBW2.out (World.grownBy_alloc Y1 (.cells #[.int .i64 t, .bool d] 52) none))).trans (KpM.app (by rw [World.size_alloc]; have := HBW2.out; omega) HOL2.out hBb HG2.out)).trans (KpM.set hB3 h3N _ _))
    have HBW3 := Lib.hid (show B ≤ Y2.heap.size from Nat.le_trans hBw HK3.out.2.size)
    have HBA3 := Lib.hid (show base ≤ Y2.heap.size from Nat.le_trans hbw HK3.out.2.size)
    have HX3 := Lib.hid (show BoxC Y2 g3 26 #[.slice Az2 (m2 + 1) cz2] from by rw [hY2]; exact HY2.out.set 0 _)
    have HO3 := Lib.hid (show Y2.ownsRow base 52 2 (.slice Az2 (m2 + 1) cz2) (m2 + 1) (((r ++ [(t, d)]) ++ [(t, d)]).flatMap kiC) from by
      rw [hY2, show ((r ++ [(t, d)]) ++ [(t, d)]).flatMap kiC = ((r ++ [(t, d)])).flatMap kiC ++ [.int .i64 t, .bool d] from by rw [List.flatMap_append]; rfl]
      exact own_box HZ2.out HY2.out (by decide) 0 _)
    have HWY3 := Lib.hid (show BoxC Y2 gw 58 #[.int .i64 x, .bool c] from by rw [hY2]; exact HW2.out.other HGN.out.2.1 0 _)
    have HYe2 := Lib.hid hY2
    clear e2 f2 hY2 z2
    (try clear y0 y1 y2)
    have y0 := HWY3.out.cell 0 _ rfl
    have y1 := HWY3.out.cell 1 _ rfl
    have y2 := HJ3.out.1.cell 0 _ rfl
    have HMT3 := Lib.hid HJ3.out.2.1
    clear q0 q1
    go_wp2_with (at_lookup; refine at_mapI _ rfl _ _ rfl bF n _ rfl HMT3.out.i x rfl hwx ?_; rw [hfx])
    go_ret
    exact ⟨by rw [hfx]; cases c <;> rfl, by rw [HRX.out, hfx]; simpa using HJ3.out, HK3.out⟩
  case false =>
    have HXL1 := Lib.hid (HX1.out.alloc (.cells #[.int .i64 t, .bool d] 52))
    have HOL1 := Lib.hid (own_same HO1.out (fun g cs hh _ => (World.grownBy_alloc W1 (.cells #[.int .i64 t, .bool d] 52) none).block g (Array.getElem?_eq_some_iff.1 hh).1 (by simp)))
    have z1 := HX1.out.cell 0 _ rfl
    go_upto_region 3 with (at_lookup; refine at_mapI _ rfl _ _ rfl bF n _ rfl HMT.out.i x rfl hwx ?_; rw [hfx])
    go_upto_region 4 with (at_builtin; refine wpList_append_own_at _ rfl _ _ 26 rfl base 52 i0 (.agg #[.int .i64 0, .bool false]) 2 16 Try.underlying26 hi hz0 hz1 hz2 rfl (by decide) _ m1 ((r).flatMap kiC) rfl HOL1.out ⟨W1.heap.size, 0, none⟩ 1 1 [.int .i64 t, .bool d] rfl rfl (ki_new _ _ _) (by simp [Value.oneCell']) (by unfold maxLen; omega) (by omega) (by rw [World.size_alloc]; have := HBA1.out; omega) ?_; intro v1 wz1 hown1 hg1 _ hat1; obtain ⟨Az1, cz1, rfl⟩ := own_slice hown1; have HZ1 := Lib.hid hown1; have HG1 := Lib.hid hg1; have HAT1 := Lib.hid hat1; have HY1 := Lib.hid (HXL1.out.grown (by decide) HOL1.out hg1); have HW1 := Lib.hid ((HWY1.out.alloc (.cells #[.int .i64 t, .bool d] 52)).grown (by decide) HOL1.out hg1); have e1 := HY1.out.cell 0 _ rfl; have f1 := HY1.out.frozen 0; clear hown1 hg1 hat1)
    obtain ⟨Y1, hY1⟩ : ∃ W, W = wz1.setCell ⟨g3, 0, none⟩ (.slice Az1 (m1 + 1) cz1) := ⟨_, rfl⟩
    rw [← hY1]
    have HJ2 := Lib.hid (show RwJ Y1 gF bF n f g3 base (r ++ [(t, d)]) from by
      have h1 := HXL1.out
      have h2 := HOL1.out
      have h3 := HZ1.out
      have h4 := HG1.out
      rw [hY1]
      rw [HM1.out] at h1 h2 h3 h4 ⊢
      exact RwJ.put (HJ1.out.grown (World.grownBy_alloc W1 (.cells #[.int .i64 t, .bool d] 52) none)) h1 h2 h3 h4)
    have HK2 := Lib.hid (show KpM B N w Y1 from by
      rw [hY1]
      exact ((HK1.out.trans (KpM.grown HBW1.out (World.grownBy_alloc W1 (.cells #[.int .i64 t, .bool d] 52) none))).trans (KpM.app (by rw [World.size_alloc]; have := HBW1.out; omega) HOL1.out hBb HG1.out)).trans (KpM.set hB3 h3N _ _))
    have HBW2 := Lib.hid (show B ≤ Y1.heap.size from Nat.le_trans hBw HK2.out.2.size)
    have HBA2 := Lib.hid (show base ≤ Y1.heap.size from Nat.le_trans hbw HK2.out.2.size)
    have HX2 := Lib.hid (show BoxC Y1 g3 26 #[.slice Az1 (m1 + 1) cz1] from by rw [hY1]; exact HY1.out.set 0 _)
    have HO2 := Lib.hid (show Y1.ownsRow base 52 2 (.slice Az1 (m1 + 1) cz1) (m1 + 1) ((r ++ [(t, d)]).flatMap kiC) from by
      rw [hY1, show (r ++ [(t, d)]).flatMap kiC = (r).flatMap kiC ++ [.int .i64 t, .bool d] from by rw [List.flatMap_append]; rfl]
      exact own_box HZ1.out HY1.out (by decide) 0 _)
    have HWY2 := Lib.hid (show BoxC Y1 gw 58 #[.int .i64 x, .bool c] from by rw [hY1]; exact HW1.out.other HGN.out.2.1 0 _)
    have HYe1 := Lib.hid hY1
    clear e1 f1 hY1 z1
    (try clear y0 y1 y2)
    have y0 := HWY2.out.cell 0 _ rfl
    have y1 := HWY2.out.cell 1 _ rfl
    have y2 := HJ2.out.1.cell 0 _ rfl
    have HMT2 := Lib.hid HJ2.out.2.1
    clear q0 q1
    go_wp2_with (at_lookup; refine at_mapI _ rfl _ _ rfl bF n _ rfl HMT2.out.i x rfl hwx ?_; rw [hfx])
    go_ret
    exact ⟨by rw [hfx]; cases c <;> rfl, by rw [HRX.out, hfx]; simpa using HJ2.out, HK2.out⟩
end Go.Proofs.Ytlpjgaeelnlipaa
namespace Go.Proofs.Ytlpjgaeelnlipaa
open Go.RowKit
set_option linter.unusedVariables false
set_option linter.unusedSimpArgs false
open CodM (St Pg)
open SlM
theorem info_row : (Try.prog.info? 40).map (fun i => (i.zero, i.size, i.bytes)) = some (some (.slice none 0 0), 1, 24) := by kernel_rfl
theorem info_stp : (Try.prog.info? 39).map (fun i => (i.zero, i.size, i.bytes)) = some (some (.agg #[.int .i64 0, .int .i64 0, .int .i64 0, .int .i64 0, .int .i64 0]), 5, 40) := by kernel_rfl
theorem made_rows (n : Nat) : (madeCells (Value.cells (.slice none 0 0)) (n * 1)).toList = List.replicate n (.slice none 0 0) := by
  rw [Nat.mul_one]; exact toList_madeCells_one _ _
def WSRel (w1 : World) (gm : Nat) (f : Int → Int → Bool) (x : St) (ths : List (List St)) (i : Value) (wr : World) : Prop :=
  ∃ (j : Nat) (vs : List Value) (gy : Nat) (yv : List Value), j ≤ ths.length ∧ i = .int .i64 j ∧ WS w1 39 40 stsCs gm ths.length gy yv vs vs (rowsAt (fun (t : Nat) => wthN (fun q => f (t : Int) (q : Int)) x (ths.getD t []) (ths.getD t []).length) [] ths.length j) wr
def VSRel (w1 : World) (gm : Nat) (f : Int → Int → Bool) (x : St) (ths : List (List St)) (ss : List St) (j : Nat) (i : Value) (wr : World) : Prop :=
  ∃ (k : Nat) (vs : List Value) (gy : Nat) (yv : List Value), k ≤ ss.length ∧ i = .int .i64 k ∧ WS w1 39 40 stsCs gm ths.length gy yv vs vs (rowsAt (fun (t : Nat) => wthN (fun q => f (t : Int) (q : Int)) x (ths.getD t []) (ths.getD t []).length) (wthN (fun q => f (j : Int) (q : Int)) x ss k) ths.length j) wr
set_option maxHeartbeats 8000000 in
set_option maxRecDepth 100000 in
theorem withs_any {B bp N : Nat} {v : Value} {ths : List (List St)} {f : Int → Int → Bool} (x : St) (w : World) (hv : Sss B w v ths) (hBB : B ≤ w.heap.size) (hm : MapP w bp N f) (hbp : bp < w.heap.size) (hl : ths.length ≤ 1000000) (hll : ∀ ss ∈ ths, ss.length ≤ 1000000) :
    Calls Try.prog 44 #[v, .map (some bp), .agg #[.int .i64 x.op, .int .i64 x.reg, .int .i64 x.loc, .int .i64 x.n, .int .i64 x.to]] w fun e w' => ∃ b vs, e = .returned (.slice (some ⟨b, 0, none⟩) ths.length ths.length) ∧ w'.ownsRow w.heap.size 40 1 (.slice (some ⟨b, 0, none⟩) ths.length ths.length) ths.length vs ∧
      RowsA w' w.heap.size 39 stsCs vs ((List.range ths.length).map (fun (t : Nat) => wthN (fun q => f (t : Int) (q : Int)) x (ths.getD t []) (ths.getD t []).length)) ∧ Below w.heap.size w w' := by
  have HLL := Lib.hid (fun (t : Nat) (ht : t < ths.length) => hll ths[t] (List.getElem_mem ht))
  obtain ⟨w1, hw1⟩ : ∃ W, W = w.alloc (.cells #[.int .i64 x.op, .int .i64 x.reg, .int .i64 x.loc, .int .i64 x.n, .int .i64 x.to] 39) := ⟨_, rfl⟩
  have hb1 : Below w.heap.size w w1 := by rw [hw1]; exact below_al (Below.refl _ w) _
  have HV := Lib.hid (hv.below (hb1.mono hBB))
  have HM1 := Lib.hid (hm.below hb1 hbp)
  have hbp1 : bp < w1.heap.size := Nat.lt_of_lt_of_le hbp hb1.size
  have hB1 : B ≤ w1.heap.size := Nat.le_trans hBB hb1.size
  have HX1 := Lib.hid (show StAt w1 w.heap.size 0 x from by
    rw [hw1]
    refine ⟨?_, ?_, ?_, ?_, ?_⟩ <;> (rw [World.cell?_alloc_at _ _ _ _ rfl]; rfl))
  obtain ⟨A0, c0, rfl, hc1, hc2, -⟩ := hv
  obtain ⟨A', c', e', -, -, hc3⟩ := HV.out
  simp only [Value.slice.injEq, true_and] at e'
  obtain ⟨rfl, rfl⟩ := e'
  unfold maxLen at hc2
  obtain ⟨ii, hii, hiz, his, hib⟩ := info_parts info_row
  obtain ⟨i0, hi0, hz0, hz1, hz2⟩ := info_parts info_stp
  obtain ⟨w2, hmk, hown2, hgr2⟩ := run_makeSlice_full (P := Try.prog) (w := w1) w1.heap.size 23 40 ii (.slice none 0 0) 1 Try.underlying23 hii hiz his .i64 .i64 ths.length (by omega) (by rw [hib]; omega) (by unfold maxLen; omega) (Nat.le_refl _)
  rw [made_rows] at hown2
  have hB2 : Below w1.heap.size w1 w2 := ⟨hgr2.os, hgr2.tape, hgr2.output, hgr2.size, fun k hk => hgr2.block k hk (by simp)⟩
  obtain ⟨gm, hgm⟩ : ∃ g, g = w1.heap.size := ⟨_, rfl⟩
  rw [← hgm] at hmk
  have HST := Lib.hid (show WS w1 39 40 stsCs gm ths.length bp [] (List.replicate ths.length (.slice none 0 0)) (List.replicate ths.length (.slice none 0 0)) (rowsAt (fun (t : Nat) => wthN (fun q => f (t : Int) (q : Int)) x (ths.getD t []) (ths.getD t []).length) [] ths.length 0) w2 from by
    rw [rowsAt_zero, hgm]
    exact ⟨hown2, RowsA.made _ _ _ _ rfl _, fun i v h => (by cases h), ⟨(by omega), fun j u h => by
      rw [List.getElem?_replicate] at h
      split at h
      · injection h with h; subst h; simp [Value.ownBlock]
      · cases h⟩, Nat.lt_of_lt_of_le hbp1 hB2.size, hB2⟩)
  have HBS := Lib.hid hb1
  rw [hw1] at hmk
  have HW1 := Lib.hid hw1
  clear hw1 hb1 hown2 hgr2 hB2 hgm
  go_enter Try.func44, Try.ntmps44
  go_wp2
  go_loopw [17] (fun i wr => WSRel w1 gm f x ths i wr) (fun i _ => ths.length - (intOf i).toNat)
  case atStart => exact ⟨0, _, bp, [], Nat.zero_le _, rfl, HST.out⟩
  case round =>
    obtain ⟨j, vs, gy0, yv, hj, rfl, hW⟩ := hrel
    by_cases hlt : j < ths.length
    · obtain ⟨b1, f1, rfl, hb1, hcl⟩ := hc3 (by omega)
      obtain ⟨vv, hvs, hsts⟩ := hcl j hlt
      have hvs' := (hW.below.cell (p := ⟨b1, f1 + j, none⟩) (show b1 < _ by omega)).trans hvs
      obtain ⟨A1, c1, rfl, hd1, hd2, hd3⟩ := hsts
      have hlen := HLL.out j hlt
      unfold maxLen at hd2
      have HFU := Lib.hid (show rowsAt (fun (t : Nat) => wthN (fun q => f (t : Int) (q : Int)) x (ths.getD t []) (ths.getD t []).length) (wthN (fun q => f (j : Int) (q : Int)) x ths[j] ths[j].length) ths.length j = rowsAt (fun (t : Nat) => wthN (fun q => f (t : Int) (q : Int)) x (ths.getD t []) (ths.getD t []).length) [] ths.length (j + 1) by rw [← rowsAt_next]; simp only [SlM.getD_at hlt])
      generalize ths[j] = ss at *
      clear hcl hvs
      go_wp2
      go_loopw [24] (fun i wr => VSRel w1 gm f x ths ss j i wr) (fun i _ => ss.length - (intOf i).toNat)
      case atStart => exact ⟨0, vs, gy0, yv, Nat.zero_le _, rfl, hW⟩
      case round =>
        clear hW hvs'
        obtain ⟨k, vs, gy0, yv, hk, rfl, hW⟩ := hrel
        by_cases hlt2 : k < ss.length
        · obtain ⟨b2, f2, rfl, hb2, hst⟩ := hd3 (by omega)
          obtain ⟨z0, z1, z2, z3, z4⟩ := (hst k hlt2).below hW.below (by omega)
          have HPN := Lib.hid ((show wthN (fun q => f (j : Int) (q : Int)) x ss (k + 1) = wthN (fun q => f (j : Int) (q : Int)) x ss k ++ ((if f (j : Int) (k : Int) then [x] else []) ++ [ss[k]]) from wthN_next _ x ss k hlt2))
          generalize ss[k] = y at *
          clear hst
          have hws := hW.below.size
          have hb2' : b2 < wr.heap.size := by omega
          have wj : (Lit.int .i64 (j : Int)).wf = true := WalkArith.wf_i64 (by omega)
          have wk : (Lit.int .i64 (k : Int)).wf = true := WalkArith.wf_i64 (by omega)
          have HMw := Lib.hid ((HM1.out.below hW.below (by omega)).kept (World.grownBy_alloc wr (.cells #[.int .i64 y.op, .int .i64 y.reg, .int .i64 y.loc, .int .i64 y.n, .int .i64 y.to] 39) none) (by simp))
          have HW0 := Lib.hid (hW.box [.int .i64 y.op, .int .i64 y.reg, .int .i64 y.loc, .int .i64 y.n, .int .i64 y.to] 39)
          obtain ⟨fk, hfk⟩ : ∃ b, f (j : Int) (k : Int) = b := ⟨_, rfl⟩
          go_upto_if 33 with (at_lookup; refine at_mapP _ rfl _ _ rfl bp N _ rfl HMw.out (j : Int) (k : Int) rfl wj wk ?_; rw [hfk]; go_frame)
          have hlk : (wthN (fun q => f (j : Int) (q : Int)) x ss k).length ≤ 2000000 := by have := wthN_len (fun q => f (j : Int) (q : Int)) x ss k; omega
          generalize wthN (fun q => f (j : Int) (q : Int)) x ss k = pt at *
          obtain ⟨gy, hgy⟩ : ∃ g, g = wr.heap.size := ⟨_, rfl⟩
          obtain ⟨WW, hWW⟩ : ∃ W, W = wr.alloc (.cells #[.int .i64 y.op, .int .i64 y.reg, .int .i64 y.loc, .int .i64 y.n, .int .i64 y.to] 39) := ⟨_, rfl⟩
          have HW0 := Lib.hid (show WS w1 39 40 stsCs gm ths.length gy (stCs y) vs vs (rowsAt (fun (t : Nat) => wthN (fun q => f (t : Int) (q : Int)) x (ths.getD t []) (ths.getD t []).length) pt ths.length j) WW from by rw [hgy, hWW]; exact HW0.out)
          rw [← hWW, ← hgy]
          rw [hfk] at HPN
          clear hWW hgy HMw hW z0 z1 z2 z3 z4 hws hb2' wj wk hfk
          go_cut [] (fun wx => ∃ vs', WS w1 39 40 stsCs gm ths.length gy (stCs y) vs' vs' (rowsAt (fun (t : Nat) => wthN (fun q => f (t : Int) (q : Int)) x (ths.getD t []) (ths.getD t []).length) (pt ++ (if fk then [x] else [])) ths.length j) wx)
          case first =>
            cases fk
            · go_wp2_with fail
              go_meet
              exact ⟨vs, by simpa using HW0.out⟩
            · go_upto_region 9 with fail
              obtain ⟨Au, cu, huM, hOW⟩ := HW0.out.row hlt
              generalize hN : pt.length = N at huM hOW
              have HNL := Lib.hid (show (pt ++ [x]).length = N + 1 by simp [hN])
              have HCS := Lib.hid (show stsCs (pt ++ [x]) = stsCs pt ++ stCs x by rw [stsCs_app]; rfl)
              have hNb : N ≤ 3000000 := by omega
              have HRS := Lib.hid (fun q => rowsAt_set (fun (t : Nat) => wthN (fun q => f (t : Int) (q : Int)) x (ths.getD t []) (ths.getD t []).length) pt q hlt)
              have HOW := Lib.hid hOW
              have HON := Lib.hid (show ∀ u ∈ stCs x, u.oneCell' = true from fun u hu => stsCs_one [x] u (by simpa [stsCs] using hu))
              have HP := Lib.hid (fun (vm vr : List Value) (xss : List (List St)) (W : World) (h : WS w1 39 40 stsCs gm ths.length gy (stCs y) vm vr xss W) => (show ((W.cell? ⟨w.heap.size, 0, none⟩ = some (.int .i64 x.op) ∧ W.cell? ⟨w.heap.size, 1, none⟩ = some (.int .i64 x.reg) ∧ W.cell? ⟨w.heap.size, 2, none⟩ = some (.int .i64 x.loc) ∧ W.cell? ⟨w.heap.size, 3, none⟩ = some (.int .i64 x.n) ∧ W.cell? ⟨w.heap.size, 4, none⟩ = some (.int .i64 x.to)) ∧ Below w1.heap.size w1 W) from ⟨⟨kc h.below HX1.out.1, kc h.below HX1.out.2.1, kc h.below HX1.out.2.2.1, kc h.below HX1.out.2.2.2.1, kc h.below HX1.out.2.2.2.2⟩, h.below⟩))
              have hzt : (0 : Int) ≤ (j : Int) := by omega
              have hzt2 : (j : Int) < (ths.length : Int) := by omega
              have hjn := hlt
              obtain ⟨RS, hRS⟩ : ∃ r, r = rowsAt (fun (t : Nat) => wthN (fun q => f (t : Int) (q : Int)) x (ths.getD t []) (ths.getD t []).length) pt ths.length j := ⟨_, rfl⟩
              rw [← hRS] at HW0 HRS HOW
              clear hOW hN hRS
              refine wp_region_held_drew (S := (fun w' => (w'.cell? ⟨w.heap.size, 0, none⟩ = some (.int .i64 x.op) ∧ w'.cell? ⟨w.heap.size, 1, none⟩ = some (.int .i64 x.reg) ∧ w'.cell? ⟨w.heap.size, 2, none⟩ = some (.int .i64 x.loc) ∧ w'.cell? ⟨w.heap.size, 3, none⟩ = some (.int .i64 x.n) ∧ w'.cell? ⟨w.heap.size, 4, none⟩ = some (.int .i64 x.to)) ∧ Below w1.heap.size w1 w')) (by kernel_rfl) (HP.out _ _ _ _ HW0.out.drew) (fun hHeld => ?_)
              obtain ⟨X0, hX0⟩ : ∃ W, W = WW.drew := ⟨_, rfl⟩
              have HWX0 := Lib.hid (show WS w1 39 40 stsCs gm ths.length gy (stCs y) vs vs RS X0 from by rw [hX0]; exact HW0.out.drew)
              rw [← hX0] at hHeld ⊢
              clear hX0
              refine wpAnyH_take (i := 0) (v := ?_) rfl (by kernel_rfl) (by kernel_rfl) (by kernel_rfl) (fun _ _ _ h => h) (Or.inl ⟨by rfl, ?_⟩) (by assumption) ?_
              rotate_left
              · intro w hSw; (try dsimp only at hSw); go_simp; (try with_reducible rfl)
              (try simp only [Act.put, pt8])
              refine wpAnyH_take (i := 1) (v := ?_) rfl (by kernel_rfl) (by kernel_rfl) (by kernel_rfl) (fun _ _ _ h => h) (Or.inl ⟨by rfl, ?_⟩) (by assumption) ?_
              rotate_left
              · intro w hSw; (try dsimp only at hSw); go_simp; (try with_reducible rfl)
              (try simp only [Act.put, pt8])
              refine wpAnyH_take (i := 2) (v := ?_) rfl (by kernel_rfl) (by kernel_rfl) (by kernel_rfl) (fun _ _ _ h => h) (Or.inl ⟨by rfl, ?_⟩) (by assumption) ?_
              rotate_left
              · intro w hSw; (try dsimp only at hSw); go_simp; (try with_reducible rfl)
              (try simp only [Act.put, pt8])
              refine wpAnyH_take (i := 3) (v := ?_) rfl (by kernel_rfl) (by kernel_rfl) (by kernel_rfl) (fun _ _ _ h => h) (Or.inl ⟨by rfl, ?_⟩) (by assumption) ?_
              rotate_left
              · intro w hSw; (try dsimp only at hSw); go_simp; (try with_reducible rfl)
              (try simp only [Act.put, pt8])
              refine wpAnyH_take (i := 4) (v := ?_) rfl (by kernel_rfl) (by kernel_rfl) (by kernel_rfl) (fun _ _ _ h => h) (Or.inl ⟨by rfl, ?_⟩) (by assumption) ?_
              rotate_left
              · intro w hSw; (try dsimp only at hSw); go_simp; (try with_reducible rfl)
              (try simp only [Act.put, pt8])
              refine wpAnyH_take (i := 6) (v := ?_) rfl (by kernel_rfl) (by kernel_rfl) (by kernel_rfl) (fun _ _ _ h => h) (Or.inl ⟨by rfl, ?_⟩) (by assumption) ?_
              rotate_left
              · intro w hSw; (try dsimp only at hSw); go_simp; (try with_reducible rfl)
              (try simp only [Act.put, pt8])
              refine wpAnyH_ready (rs := [5, 7]) (by kernel_rfl) (by simp) ?_
              refine AllReadyH.cons rfl (fun K hK => ?_) (AllReadyH.cons rfl (fun K hK => ?_) (AllReadyH.nil))
              · -- 5 first
                have c39 := HWX0.out.load hjn huM
                go_simp
                refine hK.out _ _ (HP.out _ _ _ _ HWX0.out) (fun hHeld => ?_)
                clear hK K
                (try simp only [Act.put, pt8])
                clear c39
                refine wpAnyH_ready (rs := [7]) (by kernel_rfl) (by simp) ?_
                refine AllReadyH.cons rfl (fun K hK => ?_) AllReadyH.nil
                go_simp
                refine hK.out _ _ (HP.out _ _ _ _ (HWX0.out.alloc (.cells #[.int .i64 x.op, .int .i64 x.reg, .int .i64 x.loc, .int .i64 x.n, .int .i64 x.to] 39))) (fun hHeld => ?_)
                clear hK K
                (try simp only [Act.put, pt8])
                obtain ⟨X7, hX7⟩ : ∃ W, W = X0.alloc (.cells #[.int .i64 x.op, .int .i64 x.reg, .int .i64 x.loc, .int .i64 x.n, .int .i64 x.to] 39) := ⟨_, rfl⟩
                have HWX7 := Lib.hid (show WS w1 39 40 stsCs gm ths.length gy (stCs y) vs vs RS X7 from by rw [hX7]; exact HWX0.out.alloc _)
                have HF := Lib.hid (fun (i : Nat) (u : Value) (h : (stCs x)[i]? = some u) => (show X7.cell? ⟨X0.heap.size, i, none⟩ = some u from by
                  have e := World.news_of_block (heap_alloc_new X0 (.cells #[.int .i64 x.op, .int .i64 x.reg, .int .i64 x.loc, .int .i64 x.n, .int .i64 x.to] 39)) i u h
                  rw [Addr.add_lit, Nat.zero_add] at e
                  rw [hX7]; exact e))
                rw [← hX7] at hHeld ⊢
                clear hX7
                refine wpAnyH_ready (rs := [8]) (by kernel_rfl) (by simp) ?_
                refine AllReadyH.cons rfl (fun K hK => ?_) AllReadyH.nil
                refine step_append_at (by rfl) _ _ _ (by rfl) w1.heap.size 39 i0 (.agg #[.int .i64 0, .int .i64 0, .int .i64 0, .int .i64 0, .int .i64 0]) 5 40 Try.underlying40 hi0 hz0 hz1 hz2 (by rfl) (by decide) _ N (stsCs pt) (by rfl) (HOW.out _ _ _ _ HWX7.out) ⟨X0.heap.size, 0, none⟩ 1 1 (stCs x) (by rfl) (by rfl) (fun i u h => by rw [Addr.add_lit, Nat.zero_add]; exact HF.out i u h) (HON.out) (by unfold maxLen; omega) (by omega) HWX7.out.below.size (fun v8 w8 hown8 hg8 hat8 => ?_)
                obtain ⟨A8, c8, rfl⟩ := own_slice hown8
                have HWw8 := Lib.hid (show WS w1 39 40 stsCs gm ths.length gy (stCs y) vs (vs.set j (.slice A8 (N + 1) c8)) (RS.set j (pt ++ [x])) w8 from HWX7.out.append (by decide) huM (by rw [HNL.out, HCS.out]; exact hown8) hg8 hat8)
                clear hown8 hg8 hat8 HF
                refine hK.out _ _ (HP.out _ _ _ _ HWw8.out) (fun hHeld => ?_)
                clear hK K
                (try simp only [Act.put, pt8])
                refine wpAnyH_take (i := 9) (v := ?_) rfl (by kernel_rfl) (by kernel_rfl) (by kernel_rfl) (fun _ _ _ h => h) (Or.inl ⟨by rfl, ?_⟩) (by assumption) ?_
                rotate_left
                · intro w hSw; (try dsimp only at hSw); go_simp; (try with_reducible rfl)
                (try simp only [Act.put, pt8])
                refine wpAnyH_ready (rs := [10]) (by kernel_rfl) (by simp) ?_
                refine AllReadyH.cons rfl (fun K hK => ?_) AllReadyH.nil
                have c9 := HWw8.out.load hjn huM
                have f9 := HWw8.out.frz j
                go_simp
                have HW9 := Lib.hid (HWw8.out.store (by decide) rfl)
                refine hK.out _ _ (HP.out _ _ _ _ HW9.out) (fun hHeld => ?_)
                clear hK K
                (try simp only [Act.put, pt8])
                refine wpAnyH_done (by kernel_rfl) ?_ _
                clear c9 f9 hHeld
                go_wp2_with fail
                go_meet
                exact ⟨_, by simp only [if_true]; rw [← HRS.out]; exact HW9.out⟩
              · -- 7 first
                go_simp
                refine hK.out _ _ (HP.out _ _ _ _ (HWX0.out.alloc (.cells #[.int .i64 x.op, .int .i64 x.reg, .int .i64 x.loc, .int .i64 x.n, .int .i64 x.to] 39))) (fun hHeld => ?_)
                clear hK K
                (try simp only [Act.put, pt8])
                obtain ⟨X7, hX7⟩ : ∃ W, W = X0.alloc (.cells #[.int .i64 x.op, .int .i64 x.reg, .int .i64 x.loc, .int .i64 x.n, .int .i64 x.to] 39) := ⟨_, rfl⟩
                have HWX7 := Lib.hid (show WS w1 39 40 stsCs gm ths.length gy (stCs y) vs vs RS X7 from by rw [hX7]; exact HWX0.out.alloc _)
                have HF := Lib.hid (fun (i : Nat) (u : Value) (h : (stCs x)[i]? = some u) => (show X7.cell? ⟨X0.heap.size, i, none⟩ = some u from by
                  have e := World.news_of_block (heap_alloc_new X0 (.cells #[.int .i64 x.op, .int .i64 x.reg, .int .i64 x.loc, .int .i64 x.n, .int .i64 x.to] 39)) i u h
                  rw [Addr.add_lit, Nat.zero_add] at e
                  rw [hX7]; exact e))
                rw [← hX7] at hHeld ⊢
                clear hX7
                refine wpAnyH_ready (rs := [5]) (by kernel_rfl) (by simp) ?_
                refine AllReadyH.cons rfl (fun K hK => ?_) AllReadyH.nil
                have c39 := HWX7.out.load hjn huM
                go_simp
                refine hK.out _ _ (HP.out _ _ _ _ HWX7.out) (fun hHeld => ?_)
                clear hK K
                (try simp only [Act.put, pt8])
                clear c39
                refine wpAnyH_ready (rs := [8]) (by kernel_rfl) (by simp) ?_
                refine AllReadyH.cons rfl (fun K hK => ?_) AllReadyH.nil
                refine step_append_at (by rfl) _ _ _ (by rfl) w1.heap.size 39 i0 (.agg #[.int .i64 0, .int .i64 0, .int .i64 0, .int .i64 0, .int .i64 0]) 5 40 Try.underlying40 hi0 hz0 hz1 hz2 (by rfl) (by decide) _ N (stsCs pt) (by rfl) (HOW.out _ _ _ _ HWX7.out) ⟨X0.heap.size, 0, none⟩ 1 1 (stCs x) (by rfl) (by rfl) (fun i u h => by rw [Addr.add_lit, Nat.zero_add]; exact HF.out i u h) (HON.out) (by unfold maxLen; omega) (by omega) HWX7.out.below.size (fun v8 w8 hown8 hg8 hat8 => ?_)
                obtain ⟨A8, c8, rfl⟩ := own_slice hown8
                have HWw8 := Lib.hid (show WS w1 39 40 stsCs gm ths.length gy (stCs y) vs (vs.set j (.slice A8 (N + 1) c8)) (RS.set j (pt ++ [x])) w8 from HWX7.out.append (by decide) huM (by rw [HNL.out, HCS.out]; exact hown8) hg8 hat8)
                clear hown8 hg8 hat8 HF
                refine hK.out _ _ (HP.out _ _ _ _ HWw8.out) (fun hHeld => ?_)
                clear hK K
                (try simp only [Act.put, pt8])
                refine wpAnyH_take (i := 9) (v := ?_) rfl (by kernel_rfl) (by kernel_rfl) (by kernel_rfl) (fun _ _ _ h => h) (Or.inl ⟨by rfl, ?_⟩) (by assumption) ?_
                rotate_left
                · intro w hSw; (try dsimp only at hSw); go_simp; (try with_reducible rfl)
                (try simp only [Act.put, pt8])
                refine wpAnyH_ready (rs := [10]) (by kernel_rfl) (by simp) ?_
                refine AllReadyH.cons rfl (fun K hK => ?_) AllReadyH.nil
                have c9 := HWw8.out.load hjn huM
                have f9 := HWw8.out.frz j
                go_simp
                have HW9 := Lib.hid (HWw8.out.store (by decide) rfl)
                refine hK.out _ _ (HP.out _ _ _ _ HW9.out) (fun hHeld => ?_)
                clear hK K
                (try simp only [Act.put, pt8])
                refine wpAnyH_done (by kernel_rfl) ?_ _
                clear c9 f9 hHeld
                go_wp2_with fail
                go_meet
                exact ⟨_, by simp only [if_true]; rw [← HRS.out]; exact HW9.out⟩
          case rest =>
            obtain ⟨vs1, hcut1⟩ := hcut
            clear HW0
            have HW0 := Lib.hid hcut1
            have HPN2 := Lib.hid (show wthN (fun q => f (j : Int) (q : Int)) x ss (k + 1) = (pt ++ (if fk then [x] else [])) ++ [y] by rw [HPN.out, List.append_assoc])
            have hlk2 : (pt ++ (if fk then [x] else [])).length ≤ 2000001 := by rw [List.length_append]; split <;> simp <;> omega
            generalize pt ++ (if fk then [x] else []) = pt at *
            generalize vs1 = vs at *
            generalize wc = WW at *
            clear hcut1 hlk HPN
            go_upto_region 10 with fail
            obtain ⟨Au, cu, huM, hOW⟩ := HW0.out.row hlt
            generalize hN : pt.length = N at huM hOW
            have HNL := Lib.hid (show (pt ++ [y]).length = N + 1 by simp [hN])
            have HCS := Lib.hid (show stsCs (pt ++ [y]) = stsCs pt ++ stCs y by rw [stsCs_app]; rfl)
            have hNb : N ≤ 3000000 := by omega
            have HRS := Lib.hid (fun q => rowsAt_set (fun (t : Nat) => wthN (fun q => f (t : Int) (q : Int)) x (ths.getD t []) (ths.getD t []).length) pt q hlt)
            have HOW := Lib.hid hOW
            have HON := Lib.hid (show ∀ u ∈ stCs y, u.oneCell' = true from fun u hu => stsCs_one [y] u (by simpa [stsCs] using hu))
            have HP := Lib.hid (fun (vm vr : List Value) (xss : List (List St)) (W : World) (h : WS w1 39 40 stsCs gm ths.length gy (stCs y) vm vr xss W) => (show ((W.cell? ⟨gy, 0, none⟩ = some (.int .i64 y.op) ∧ W.cell? ⟨gy, 1, none⟩ = some (.int .i64 y.reg) ∧ W.cell? ⟨gy, 2, none⟩ = some (.int .i64 y.loc) ∧ W.cell? ⟨gy, 3, none⟩ = some (.int .i64 y.n) ∧ W.cell? ⟨gy, 4, none⟩ = some (.int .i64 y.to)) ∧ Below w1.heap.size w1 W) from ⟨⟨h.y 0 _ rfl, h.y 1 _ rfl, h.y 2 _ rfl, h.y 3 _ rfl, h.y 4 _ rfl⟩, h.below⟩))
            have hzt : (0 : Int) ≤ (j : Int) := by omega
            have hzt2 : (j : Int) < (ths.length : Int) := by omega
            have hjn := hlt
            obtain ⟨RS, hRS⟩ : ∃ r, r = rowsAt (fun (t : Nat) => wthN (fun q => f (t : Int) (q : Int)) x (ths.getD t []) (ths.getD t []).length) pt ths.length j := ⟨_, rfl⟩
            rw [← hRS] at HW0 HRS HOW
            clear hOW hN hRS
            refine wp_region_held_drew (S := (fun w' => (w'.cell? ⟨gy, 0, none⟩ = some (.int .i64 y.op) ∧ w'.cell? ⟨gy, 1, none⟩ = some (.int .i64 y.reg) ∧ w'.cell? ⟨gy, 2, none⟩ = some (.int .i64 y.loc) ∧ w'.cell? ⟨gy, 3, none⟩ = some (.int .i64 y.n) ∧ w'.cell? ⟨gy, 4, none⟩ = some (.int .i64 y.to)) ∧ Below w1.heap.size w1 w')) (by kernel_rfl) (HP.out _ _ _ _ HW0.out.drew) (fun hHeld => ?_)
            obtain ⟨X0, hX0⟩ : ∃ W, W = WW.drew := ⟨_, rfl⟩
            have HWX0 := Lib.hid (show WS w1 39 40 stsCs gm ths.length gy (stCs y) vs vs RS X0 from by rw [hX0]; exact HW0.out.drew)
            rw [← hX0] at hHeld ⊢
            clear hX0
            refine wpAnyH_take (i := 0) (v := ?_) rfl (by kernel_rfl) (by kernel_rfl) (by kernel_rfl) (fun _ _ _ h => h) (Or.inl ⟨by rfl, ?_⟩) (by assumption) ?_
            rotate_left
            · intro w hSw; (try dsimp only at hSw); go_simp; (try with_reducible rfl)
            (try simp only [Act.put, pt8])
            refine wpAnyH_take (i := 1) (v := ?_) rfl (by kernel_rfl) (by kernel_rfl) (by kernel_rfl) (fun _ _ _ h => h) (Or.inl ⟨by rfl, ?_⟩) (by assumption) ?_
            rotate_left
            · intro w hSw; (try dsimp only at hSw); go_simp; (try with_reducible rfl)
            (try simp only [Act.put, pt8])
            refine wpAnyH_take (i := 2) (v := ?_) rfl (by kernel_rfl) (by kernel_rfl) (by kernel_rfl) (fun _ _ _ h => h) (Or.inl ⟨by rfl, ?_⟩) (by assumption) ?_
            rotate_left
            · intro w hSw; (try dsimp only at hSw); go_simp; (try with_reducible rfl)
            (try simp only [Act.put, pt8])
            refine wpAnyH_take (i := 3) (v := ?_) rfl (by kernel_rfl) (by kernel_rfl) (by kernel_rfl) (fun _ _ _ h => h) (Or.inl ⟨by rfl, ?_⟩) (by assumption) ?_
            rotate_left
            · intro w hSw; (try dsimp only at hSw); go_simp; (try with_reducible rfl)
            (try simp only [Act.put, pt8])
            refine wpAnyH_take (i := 4) (v := ?_) rfl (by kernel_rfl) (by kernel_rfl) (by kernel_rfl) (fun _ _ _ h => h) (Or.inl ⟨by rfl, ?_⟩) (by assumption) ?_
            rotate_left
            · intro w hSw; (try dsimp only at hSw); go_simp; (try with_reducible rfl)
            (try simp only [Act.put, pt8])
            refine wpAnyH_take (i := 6) (v := ?_) rfl (by kernel_rfl) (by kernel_rfl) (by kernel_rfl) (fun _ _ _ h => h) (Or.inl ⟨by rfl, ?_⟩) (by assumption) ?_
            rotate_left
            · intro w hSw; (try dsimp only at hSw); go_simp; (try with_reducible rfl)
            (try simp only [Act.put, pt8])
            refine wpAnyH_ready (rs := [5, 7]) (by kernel_rfl) (by simp) ?_
            refine AllReadyH.cons rfl (fun K hK => ?_) (AllReadyH.cons rfl (fun K hK => ?_) (AllReadyH.nil))
            · -- 5 first
              have c39 := HWX0.out.load hjn huM
              go_simp
              refine hK.out _ _ (HP.out _ _ _ _ HWX0.out) (fun hHeld => ?_)
              clear hK K
              (try simp only [Act.put, pt8])
              clear c39
              refine wpAnyH_ready (rs := [7]) (by kernel_rfl) (by simp) ?_
              refine AllReadyH.cons rfl (fun K hK => ?_) AllReadyH.nil
              go_simp
              refine hK.out _ _ (HP.out _ _ _ _ (HWX0.out.alloc (.cells #[.int .i64 y.op, .int .i64 y.reg, .int .i64 y.loc, .int .i64 y.n, .int .i64 y.to] 39))) (fun hHeld => ?_)
              clear hK K
              (try simp only [Act.put, pt8])
              obtain ⟨X7, hX7⟩ : ∃ W, W = X0.alloc (.cells #[.int .i64 y.op, .int .i64 y.reg, .int .i64 y.loc, .int .i64 y.n, .int .i64 y.to] 39) := ⟨_, rfl⟩
              have HWX7 := Lib.hid (show WS w1 39 40 stsCs gm ths.length gy (stCs y) vs vs RS X7 from by rw [hX7]; exact HWX0.out.alloc _)
              have HF := Lib.hid (fun (i : Nat) (u : Value) (h : (stCs y)[i]? = some u) => (show X7.cell? ⟨X0.heap.size, i, none⟩ = some u from by
                have e := World.news_of_block (heap_alloc_new X0 (.cells #[.int .i64 y.op, .int .i64 y.reg, .int .i64 y.loc, .int .i64 y.n, .int .i64 y.to] 39)) i u h
                rw [Addr.add_lit, Nat.zero_add] at e
                rw [hX7]; exact e))
              rw [← hX7] at hHeld ⊢
              clear hX7
              refine wpAnyH_ready (rs := [8]) (by kernel_rfl) (by simp) ?_
              refine AllReadyH.cons rfl (fun K hK => ?_) AllReadyH.nil
              refine step_append_at (by rfl) _ _ _ (by rfl) w1.heap.size 39 i0 (.agg #[.int .i64 0, .int .i64 0, .int .i64 0, .int .i64 0, .int .i64 0]) 5 40 Try.underlying40 hi0 hz0 hz1 hz2 (by rfl) (by decide) _ N (stsCs pt) (by rfl) (HOW.out _ _ _ _ HWX7.out) ⟨X0.heap.size, 0, none⟩ 1 1 (stCs y) (by rfl) (by rfl) (fun i u h => by rw [Addr.add_lit, Nat.zero_add]; exact HF.out i u h) (HON.out) (by unfold maxLen; omega) (by omega) HWX7.out.below.size (fun v8 w8 hown8 hg8 hat8 => ?_)
              obtain ⟨A8, c8, rfl⟩ := own_slice hown8
              have HWw8 := Lib.hid (show WS w1 39 40 stsCs gm ths.length gy (stCs y) vs (vs.set j (.slice A8 (N + 1) c8)) (RS.set j (pt ++ [y])) w8 from HWX7.out.append (by decide) huM (by rw [HNL.out, HCS.out]; exact hown8) hg8 hat8)
              clear hown8 hg8 hat8 HF
              refine hK.out _ _ (HP.out _ _ _ _ HWw8.out) (fun hHeld => ?_)
              clear hK K
              (try simp only [Act.put, pt8])
              refine wpAnyH_take (i := 9) (v := ?_) rfl (by kernel_rfl) (by kernel_rfl) (by kernel_rfl) (fun _ _ _ h => h) (Or.inl ⟨by rfl, ?_⟩) (by assumption) ?_
              rotate_left
              · intro w hSw; (try dsimp only at hSw); go_simp; (try with_reducible rfl)
              (try simp only [Act.put, pt8])
              refine wpAnyH_ready (rs := [10]) (by kernel_rfl) (by simp) ?_
              refine AllReadyH.cons rfl (fun K hK => ?_) AllReadyH.nil
              have c9 := HWw8.out.load hjn huM
              have f9 := HWw8.out.frz j
              go_simp
              have HW9 := Lib.hid (HWw8.out.store (by decide) rfl)
              refine hK.out _ _ (HP.out _ _ _ _ HW9.out) (fun hHeld => ?_)
              clear hK K
              (try simp only [Act.put, pt8])
              refine wpAnyH_done (by kernel_rfl) ?_ _
              clear c9 f9 hHeld
              go_wp2_with fail
              go_roundw
              case rel => exact ⟨k + 1, _, gy, _, by omega, by go_num, by rw [HPN2.out, ← HRS.out]; exact HW9.out⟩
              case measure => simp [intOf]; omega
            · -- 7 first
              go_simp
              refine hK.out _ _ (HP.out _ _ _ _ (HWX0.out.alloc (.cells #[.int .i64 y.op, .int .i64 y.reg, .int .i64 y.loc, .int .i64 y.n, .int .i64 y.to] 39))) (fun hHeld => ?_)
              clear hK K
              (try simp only [Act.put, pt8])
              obtain ⟨X7, hX7⟩ : ∃ W, W = X0.alloc (.cells #[.int .i64 y.op, .int .i64 y.reg, .int .i64 y.loc, .int .i64 y.n, .int .i64 y.to] 39) := ⟨_, rfl⟩
              have HWX7 := Lib.hid (show WS w1 39 40 stsCs gm ths.length gy (stCs y) vs vs RS X7 from by rw [hX7]; exact HWX0.out.alloc _)
              have HF := Lib.hid (fun (i : Nat) (u : Value) (h : (stCs y)[i]? = some u) => (show X7.cell? ⟨X0.heap.size, i, none⟩ = some u from by
                have e := World.news_of_block (heap_alloc_new X0 (.cells #[.int .i64 y.op, .int .i64 y.reg, .int .i64 y.loc, .int .i64 y.n, .int .i64 y.to] 39)) i u h
                rw [Addr.add_lit, Nat.zero_add] at e
                rw [hX7]; exact e))
              rw [← hX7] at hHeld ⊢
              clear hX7
              refine wpAnyH_ready (rs := [5]) (by kernel_rfl) (by simp) ?_
              refine AllReadyH.cons rfl (fun K hK => ?_) AllReadyH.nil
              have c39 := HWX7.out.load hjn huM
              go_simp
              refine hK.out _ _ (HP.out _ _ _ _ HWX7.out) (fun hHeld => ?_)
              clear hK K
              (try simp only [Act.put, pt8])
              clear c39
              refine wpAnyH_ready (rs := [8]) (by kernel_rfl) (by simp) ?_
              refine AllReadyH.cons rfl (fun K hK => ?_) AllReadyH.nil
              refine step_append_at (by rfl) _ _ _ (by rfl) w1.heap.size 39 i0 (.agg #[.int .i64 0, .int .i64 0, .int .i64 0, .int .i64 0, .int .i64 0]) 5 40 Try.underlying40 hi0 hz0 hz1 hz2 (by rfl) (by decide) _ N (stsCs pt) (by rfl) (HOW.out _ _ _ _ HWX7.out) ⟨X0.heap.size, 0, none⟩ 1 1 (stCs y) (by rfl) (by rfl) (fun i u h => by rw [Addr.add_lit, Nat.zero_add]; exact HF.out i u h) (HON.out) (by unfold maxLen; omega) (by omega) HWX7.out.below.size (fun v8 w8 hown8 hg8 hat8 => ?_)
              obtain ⟨A8, c8, rfl⟩ := own_slice hown8
              have HWw8 := Lib.hid (show WS w1 39 40 stsCs gm ths.length gy (stCs y) vs (vs.set j (.slice A8 (N + 1) c8)) (RS.set j (pt ++ [y])) w8 from HWX7.out.append (by decide) huM (by rw [HNL.out, HCS.out]; exact hown8) hg8 hat8)
              clear hown8 hg8 hat8 HF
              refine hK.out _ _ (HP.out _ _ _ _ HWw8.out) (fun hHeld => ?_)
              clear hK K
              (try simp only [Act.put, pt8])
              refine wpAnyH_take (i := 9) (v := ?_) rfl (by kernel_rfl) (by kernel_rfl) (by kernel_rfl) (fun _ _ _ h => h) (Or.inl ⟨by rfl, ?_⟩) (by assumption) ?_
              rotate_left
              · intro w hSw; (try dsimp only at hSw); go_simp; (try with_reducible rfl)
              (try simp only [Act.put, pt8])
              refine wpAnyH_ready (rs := [10]) (by kernel_rfl) (by simp) ?_
              refine AllReadyH.cons rfl (fun K hK => ?_) AllReadyH.nil
              have c9 := HWw8.out.load hjn huM
              have f9 := HWw8.out.frz j
              go_simp
              have HW9 := Lib.hid (HWw8.out.store (by decide) rfl)
              refine hK.out _ _ (HP.out _ _ _ _ HW9.out) (fun hHeld => ?_)
              clear hK K
              (try simp only [Act.put, pt8])
              refine wpAnyH_done (by kernel_rfl) ?_ _
              clear c9 f9 hHeld
              go_wp2_with fail
              go_roundw
              case rel => exact ⟨k + 1, _, gy, _, by omega, by go_num, by rw [HPN2.out, ← HRS.out]; exact HW9.out⟩
              case measure => simp [intOf]; omega
        · obtain rfl : ss.length = k := by omega
          go_wp2
          go_roundw
          case rel => exact ⟨j + 1, vs, gy0, yv, by omega, by go_num, by rw [← HFU.out]; exact hW⟩
          case measure => simp [intOf]; omega
    · obtain rfl : ths.length = j := by omega
      rw [rowsAt_end] at hW
      go_wp2
      go_ret
      exact ⟨gm, vs, rfl, own_base hW.more HBS.out.size, ⟨hW.rows.len, fun i hi => by obtain ⟨u, h1, h2⟩ := hW.rows.own i hi; exact ⟨u, h1, own_base h2 HBS.out.size⟩, hW.rows.apart⟩, HBS.out.trans (hW.below.mono HBS.out.size)⟩
end Go.Proofs.Ytlpjgaeelnlipaa
namespace Go.Proofs.Ytlpjgaeelnlipaa
open Go.RowKit
set_option linter.unusedVariables false
set_option linter.unusedSimpArgs false
open CodM (St Pg)
open SlM
set_option maxRecDepth 100000
/-- The map value says f, now and as long as nothing of now alters. -/
def LookP (w : World) (mp : Option Nat) (f : Int → Int → Bool) : Prop :=
  ∀ W, Below w.heap.size w W → ∀ t k : Int, (Lit.int .i64 t).wf = true → (Lit.int .i64 k).wf = true → (Instr.lookup 82 (.map mp) (.agg #[.int .i64 t, .int .i64 k]) false).run Try.prog W = .ok (.bool (f t k)) W
theorem LookP.of {w : World} {bp N : Nat} {f : Int → Int → Bool} (h : MapP w bp N f) : LookP w (some bp) f := by
  intro W hW t k ht hk
  obtain ⟨D, h1, h2, h3⟩ := h.below hW h.lt
  obtain ⟨l, hl⟩ := mapP_key ht hk
  obtain ⟨c, hrun, hat⟩ := own_look_bool h1 place_law Try.underlying82 Try.underlying4 (zero_bool W) hl
  rw [h3 t k l hl] at hat
  injection hat with hat
  injection hat with hat
  rw [hrun, hat]
theorem LookP.none (w : World) : LookP w none (fun _ _ => false) := by
  intro W hW t k ht hk
  obtain ⟨l, hl⟩ := mapP_key ht hk
  have := Maps.look_nil false place_law Try.underlying82 (zero_bool W) hl
  simpa using this
theorem LookP.below {w w' : World} {mp : Option Nat} {f : Int → Int → Bool} (h : LookP w mp f) (hb : Below w.heap.size w w') : LookP w' mp f := fun W hW => h W (hb.trans (hW.mono hb.size))
section
variable (w : World) {ops : Array Oper} {rest : List Oper} {o : Oper} {a : Act} {Q : Exit → Act → World → Prop}
end
end Go.Proofs.Ytlpjgaeelnlipaa
