/-
  THE DOCUMENT's Last, View, SameInts, Same (of alike rows).
  THE DOCUMENT's Push: two appends in a region that draws its order.
  THE DOCUMENT's Step of layer 11: a step of a thread.
  tso.able: the picks that can be done, one by one, for every loop body.
  THE DOCUMENT's Picks of layer 11.
  THE DOCUMENT's Begin of layer 10.
  LAYER 13: THE DOCUMENT's Step of a run, and its Run.
  LAYER 13: THE DOCUMENT's Strict.
-/
import Derived.Test.YtlpjgaeelnlipaaL11
import Derived.Deep.RegionHeld3
import Derived.Deep.DeepCutAuto
import Derived.Test.YtlpjgaeelnlipaaL21
import Derived.Test.YtlpjgaeelnlipaaScSt
import Derived.RangeFuncNested
import Derived.RangeFuncBound
import Derived.RangeFuncCalls
import Derived.RangeFuncLeaves
import Derived.RangeFuncBox
import Derived.Shelf.Abstract
import Derived.WalkKit
import Derived.OwnWalkIn
import Derived.TacticsInMore
import Derived.LoopNIn
import Derived.LoopIn
import Derived.Maps.OwnIn
import Derived.Test.YtlpjgaeelnlipaaL12
import Derived.Test.YtlpjgaeelnlipaaScP
import Derived.Test.YtlpjgaeelnlipaaScAt
import Derived.Test.YtlpjgaeelnlipaaL27
set_option linter.unusedVariables false
set_option linter.unusedSimpArgs false
namespace Go.Proofs.Ytlpjgaeelnlipaa
open Go.RowKit
set_option linter.unusedVariables false
set_option linter.unusedSimpArgs false
open BfM

theorem lastV_hit {b : List Wr} {l : Int} {k : Nat} (hk : k < b.length) (h : last (b.take (k + 1)) l = last b l) (hl : b[k].loc = l) : lastV b l = .tuple #[.int .i64 b[k].n, .bool true] := by
  unfold lastV; rw [last_hit hk h hl]
theorem lastV_no {b : List Wr} {l : Int} (h : last (b.take 0) l = last b l) : lastV b l = .tuple #[.int .i64 0, .bool false] := by
  unfold lastV; rw [← h]; rfl
set_option maxHeartbeats 4000000 in
set_option maxRecDepth 100000 in
theorem rlast_any {B : Nat} {v : Value} {b : List Wr} (l : Int) (w : World) (hv : WrR B w v b) (hBB : B ≤ w.heap.size) (hl : b.length ≤ 1000000) :
    Calls Try.prog 80 #[v, .int .i64 l] w fun e w' => e = .returned (lastV b l) ∧ Below w.heap.size w w' := by
  obtain ⟨A1, c1, rfl, g1, g2, -, g3⟩ := hv
  unfold maxLen at g2
  have g3 := wr_at (c := c1) g3
  go_enter Try.func80, Try.ntmps80
  go_wp2
  go_loopw [6] (fun i wr => ∃ k : Nat, k ≤ b.length ∧ i = .int .i64 ((k : Int) - 1) ∧ last (b.take k) l = last b l ∧ Below w.heap.size w wr) (fun i _ => (intOf i + 1).toNat)
  case atStart => exact ⟨b.length, Nat.le_refl _, rfl, by rw [List.take_length], Below.refl _ _⟩
  case round =>
    obtain ⟨k, hk, rfl, hla, hB⟩ := hrel
    have HLA := Lib.hid hla
    clear hla
    rcases Nat.eq_zero_or_pos k with rfl | hpos
    · have HN := Lib.hid (lastV_no HLA.out)
      go_wp2
      go_ret2
      exact ⟨by rw [HN.out]; rfl, hB⟩
    · obtain ⟨k, rfl⟩ : ∃ j, k = j + 1 := ⟨k - 1, by omega⟩
      have hkl : k < b.length := by omega
      obtain ⟨b2, f2, rfl, hb2, hc2⟩ := g3 (by omega)
      obtain ⟨y0, y1⟩ := hc2 k hkl
      have z0 := ((hB.mono hBB).cell (p := ⟨b2, f2 + k * 2, none⟩) hb2).trans y0
      have z1 := ((hB.mono hBB).cell (p := ⟨b2, f2 + k * 2 + 1, none⟩) hb2).trans y1
      have HH := Lib.hid (fun h => lastV_hit hkl HLA.out h)
      have HM := Lib.hid (fun h => last_miss hkl HLA.out h)
      have hkk : ((k + 1 : Nat) : Int) - 1 = (k : Int) := by omega
      rw [hkk]
      generalize b[k] = x at *
      clear y0 y1 hc2 g3 hkk
      by_cases hx : x.loc = l
      · have hh := Lib.hid (HH.out hx)
        go_wp2
        go_ret2
        exact ⟨by rw [hh.out]; rfl, hB⟩
      · have hmm := Lib.hid (HM.out hx)
        go_wp2
        go_roundw
        case rel => exact ⟨k, by omega, by go_num, hmm.out, hB⟩
        case measure => simp [intOf]
set_option maxHeartbeats 4000000 in
set_option maxRecDepth 100000 in
theorem rview_any {B : Nat} {v u : Value} {b : List Wr} {m : List Int} (l : Int) (w : World) (hv : WrR B w v b) (hu : IntR B w u m) (hBB : B ≤ w.heap.size) (hl : b.length ≤ 1000000) (hm : m.length ≤ 1000000) :
    Calls Try.prog 57 #[v, u, .int .i64 l] w fun e w' => e = .returned (viewV b m l) ∧ Below w.heap.size w w' := by
  have HLA := Lib.hid (rlast_any l w hv hBB hl)
  obtain ⟨A1, c1, rfl, -⟩ := hv
  obtain ⟨A2, c2, rfl, g1, g2, -, g3⟩ := hu
  unfold maxLen at g2
  have g3 := nu_at (c := c2) g3
  cases hla : last b l with
  | some n =>
    have hV : viewV b m l = .tuple #[.int .i64 n, .bool true] := by unfold viewV view; rw [hla]
    have hL : lastV b l = .tuple #[.int .i64 n, .bool true] := by unfold lastV; rw [hla]
    rw [hL] at HLA
    rw [hV]
    clear hla hV hL g3
    go_enter Try.func57, Try.ntmps57
    go_wp2_with fail
    refine HLA.out.mono ?_
    rintro e w1 ⟨rfl, hb1⟩
    go_wp2
    go_ret2
    exact ⟨rfl, hb1⟩
  | none =>
    have hL : lastV b l = .tuple #[.int .i64 0, .bool false] := by unfold lastV; rw [hla]
    rw [hL] at HLA
    by_cases hlo : l < 0
    · have hp : ¬ plc m.length l = true := by unfold plc; rw [decide_eq_true_eq]; omega
      have hV : viewV b m l = .tuple #[.int .i64 0, .bool false] := by unfold viewV view; rw [hla]; simp [hp]
      rw [hV]
      clear hla hV hL g3 hp
      go_enter Try.func57, Try.ntmps57
      go_wp2_with fail
      refine HLA.out.mono ?_
      rintro e w1 ⟨rfl, hb1⟩
      go_wp2
      go_ret2
      exact ⟨rfl, hb1⟩
    by_cases hhi : l < m.length
    · have hp : plc m.length l = true := by unfold plc; rw [decide_eq_true_eq]; omega
      obtain ⟨k, rfl⟩ : ∃ k : Nat, l = k := ⟨l.toNat, by omega⟩
      have hk : k < m.length := by omega
      have hV : viewV b m k = .tuple #[.int .i64 m[k], .bool true] := by unfold viewV view; rw [hla]; simp [hp, hk]
      rw [hV]
      obtain ⟨b2, f2, rfl, hb2, hc2⟩ := g3 (by omega)
      have hc := Lib.hid (hc2 k hk)
      generalize m[k] = x at *
      clear hla hV hL g3 hp hc2 hlo hhi
      go_enter Try.func57, Try.ntmps57
      go_wp2_with fail
      refine HLA.out.mono ?_
      rintro e w1 ⟨rfl, hb1⟩
      have hcc := ((hb1.mono hBB).cell (p := ⟨b2, f2 + k, none⟩) hb2).trans hc.out
      clear HLA
      go_wp2
      go_ret2
      exact ⟨rfl, hb1⟩
    · have hp : ¬ plc m.length l = true := by unfold plc; rw [decide_eq_true_eq]; omega
      have hV : viewV b m l = .tuple #[.int .i64 0, .bool false] := by unfold viewV view; rw [hla]; simp [hp]
      rw [hV]
      clear hla hV hL g3 hp
      go_enter Try.func57, Try.ntmps57
      go_wp2_with fail
      refine HLA.out.mono ?_
      rintro e w1 ⟨rfl, hb1⟩
      go_wp2
      go_ret2
      exact ⟨rfl, hb1⟩
end Go.Proofs.Ytlpjgaeelnlipaa
namespace Go.Proofs.Ytlpjgaeelnlipaa
open Go.RowKit
set_option linter.unusedVariables false
set_option linter.unusedSimpArgs false
open BfM

theorem push_own {w : World} {a c : Nat} {v : Value} {b : List Wr} {x : Wr} (h : w.ownsRow c 102 2 v (b.length + 1) (b.flatMap wrC ++ wrC x)) (ha : a ≤ c) : OwnW a w v (b ++ [x]) := by
  have := own_base h ha
  unfold OwnW
  rw [List.length_append, List.flatMap_append]
  simpa using this
set_option maxHeartbeats 4000000 in
set_option maxRecDepth 100000 in
theorem rpush_any {B : Nat} {v : Value} {b : List Wr} (x : Wr) (w : World) (hv : WrR B w v b) (hBB : B ≤ w.heap.size) (hl : b.length ≤ 1000000) :
    Calls Try.prog 58 #[v, .agg #[.int .i64 x.loc, .int .i64 x.n]] w fun e w' => ∃ u, e = .returned u ∧ OwnW w.heap.size w' u (b ++ [x]) ∧ Below w.heap.size w w' := by
  obtain ⟨A, c, rfl, h1, h2, h0, h3⟩ := hv
  obtain ⟨l, n⟩ := x
  unfold maxLen at h2
  obtain ⟨i0, hi0, hz0, hz1, hz2⟩ := info_parts info_wr
  have hB1 := below_al (Below.refl w.heap.size w) (.cells #[.int .i64 l, .int .i64 n] 102)
  have x0 : (w.alloc (.cells #[.int .i64 l, .int .i64 n] 102)).cell? ⟨w.heap.size, 0, none⟩ = some (.int .i64 l) := by rw [World.cell?_alloc_at _ _ _ _ rfl]; rfl
  have x1 : (w.alloc (.cells #[.int .i64 l, .int .i64 n] 102)).cell? ⟨w.heap.size, 1, none⟩ = some (.int .i64 n) := by rw [World.cell?_alloc_at _ _ _ _ rfl]; rfl
  have HSRC := Lib.hid (fun W (hW : Below (w.alloc (.cells #[.int .i64 l, .int .i64 n] 102)).heap.size (w.alloc (.cells #[.int .i64 l, .int .i64 n] 102)) W) => src_rw (W := W) wrC_len h0 h3 ((chain hB1 hW).mono hBB))
  clear h3
  go_enter Try.func58, Try.ntmps58
  go_upto_region 1 with fail
  obtain ⟨W1, hW1⟩ : ∃ W, W = w.alloc (.cells #[.int .i64 l, .int .i64 n] 102) := ⟨_, rfl⟩
  obtain ⟨gx, hgx⟩ : ∃ g, g = w.heap.size := ⟨_, rfl⟩
  rw [← hW1, ← hgx] at x0 x1 ⊢
  rw [← hW1] at hB1 HSRC
  have HGX := Lib.hid hgx
  clear hW1 hgx
  refine wp_region_held_drew (S := (fun w' => (w'.cell? ⟨gx, 0, none⟩ = some (.int .i64 l) ∧ w'.cell? ⟨gx, 1, none⟩ = some (.int .i64 n)) ∧ Below W1.heap.size W1 w')) (by kernel_rfl) ⟨⟨x0, x1⟩, below_drewN (Below.refl _ _) 1⟩ (fun hHeld => ?_)
  obtain ⟨Xa, hXa⟩ : ∃ W, W = W1.drew := ⟨_, rfl⟩
  have HLXa := Lib.hid (show Below W1.heap.size W1 Xa from by rw [hXa]; exact below_drewN (Below.refl _ _) 1)
  rw [← hXa] at hHeld ⊢
  clear hXa
  refine wpAnyH_take (i := 1) (v := ?_) rfl (by kernel_rfl) (by kernel_rfl) (by kernel_rfl) (fun _ _ _ h => h) (Or.inl ⟨by rfl, ?_⟩) (by assumption) ?_
  rotate_left
  · intro w hSw; (try dsimp only at hSw); go_simp; (try with_reducible rfl)
  (try simp only [Act.put, pt8])
  refine wpAnyH_take (i := 3) (v := ?_) rfl (by kernel_rfl) (by kernel_rfl) (by kernel_rfl) (fun _ _ _ h => h) (Or.inl ⟨by rfl, ?_⟩) (by assumption) ?_
  rotate_left
  · intro w hSw; (try dsimp only at hSw); go_simp; (try with_reducible rfl)
  (try simp only [Act.put, pt8])
  refine wpAnyH_ready (rs := [0, 4]) (by kernel_rfl) (by simp) ?_
  refine AllReadyH.cons rfl (fun K hK => ?_) (AllReadyH.cons rfl (fun K hK => ?_) (AllReadyH.nil))
  · -- 0 first
    go_simp
    refine hK.out _ _ ⟨⟨kc (below_al HLXa.out (.cells #[] 102)) x0, kc (below_al HLXa.out (.cells #[] 102)) x1⟩, below_al HLXa.out (.cells #[] 102)⟩ (fun hHeld => ?_)
    clear hK K
    (try simp only [Act.put, pt8])
    obtain ⟨X0, hX0⟩ : ∃ W, W = Xa.alloc (.cells #[] 102) := ⟨_, rfl⟩
    have HLX0 := Lib.hid (show Below W1.heap.size W1 X0 from by rw [hX0]; exact below_al HLXa.out (.cells #[] 102))
    have HO := Lib.hid (show X0.ownsRow W1.heap.size 102 2 (.slice (some ⟨Xa.heap.size, 0, none⟩) 0 0) 0 [] from by rw [hX0]; exact World.ownsRow_lit (base := W1.heap.size) (e := 102) (size := 2) Xa #[] 0 HLXa.out.size (by decide) rfl)
    have HS0 := Lib.hid (show X0.heap.size = Xa.heap.size + 1 from by rw [hX0]; simp)
    rw [← hX0] at hHeld ⊢
    clear hX0
    refine wpAnyH_ready (rs := [2, 4]) (by kernel_rfl) (by simp) ?_
    refine AllReadyH.cons rfl (fun K hK => ?_) (AllReadyH.cons rfl (fun K hK => ?_) (AllReadyH.nil))
    · -- 2 first
      refine step_append_src (by rfl) _ _ _ (by rfl) W1.heap.size 102 i0 (.agg #[.int .i64 0, .int .i64 0]) 2 16 Try.underlying77 hi0 hz0 hz1 hz2 (by rfl) (by decide) _ 0 [] (by rfl) HO.out A b.length c (b.flatMap wrC) (by rfl) (fl_len wrC_len b) h0 (HSRC.out _ HLX0.out) (one_w b) (by unfold maxLen; omega) (by omega) HLX0.out.size (fun v1 w2 hown2 hg2 => ?_)
      simp only [Nat.zero_add, List.nil_append] at hown2
      have HLw2 := Lib.hid (below_append HLX0.out HO.out (Nat.le_refl _) HLX0.out.size hg2)
      replace HO := Lib.hid hown2
      clear hown2 hg2
      refine hK.out _ _ ⟨⟨kc (HLw2.out) x0, kc (HLw2.out) x1⟩, HLw2.out⟩ (fun hHeld => ?_)
      clear hK K
      (try simp only [Act.put, pt8])
      refine wpAnyH_ready (rs := [4]) (by kernel_rfl) (by simp) ?_
      refine AllReadyH.cons rfl (fun K hK => ?_) AllReadyH.nil
      go_simp
      refine hK.out _ _ ⟨⟨kc (below_al HLw2.out (.cells #[.int .i64 l, .int .i64 n] 102)) x0, kc (below_al HLw2.out (.cells #[.int .i64 l, .int .i64 n] 102)) x1⟩, below_al HLw2.out (.cells #[.int .i64 l, .int .i64 n] 102)⟩ (fun hHeld => ?_)
      clear hK K
      (try simp only [Act.put, pt8])
      obtain ⟨X4, hX4⟩ : ∃ W, W = w2.alloc (.cells #[.int .i64 l, .int .i64 n] 102) := ⟨_, rfl⟩
      have HLX4 := Lib.hid (show Below W1.heap.size W1 X4 from by rw [hX4]; exact below_al HLw2.out (.cells #[.int .i64 l, .int .i64 n] 102))
      have HF := Lib.hid (fun (j : Nat) (u : Value) (h : (wrC (⟨l, n⟩ : Wr))[j]? = some u) => (show X4.cell? ⟨w2.heap.size, j, none⟩ = some u from by
        have e := World.news_of_block (heap_alloc_new w2 (.cells #[.int .i64 l, .int .i64 n] 102)) j u h
        rw [Addr.add_lit, Nat.zero_add] at e
        rw [hX4]; exact e))
      have HS4 := Lib.hid (show X4.heap.size = w2.heap.size + 1 from by rw [hX4]; simp)
      replace HO := Lib.hid (own_below HO.out (show Below w2.heap.size w2 X4 from by rw [hX4]; exact below_al (Below.refl _ _) (.cells #[.int .i64 l, .int .i64 n] 102)))
      rw [← hX4] at hHeld ⊢
      clear hX4
      refine wpAnyH_ready (rs := [5]) (by kernel_rfl) (by simp) ?_
      refine AllReadyH.cons rfl (fun K hK => ?_) AllReadyH.nil
      refine step_append_src (by rfl) _ _ _ (by rfl) W1.heap.size 102 i0 (.agg #[.int .i64 0, .int .i64 0]) 2 16 Try.underlying77 hi0 hz0 hz1 hz2 (by rfl) (by decide) _ b.length (b.flatMap wrC) (by rfl) HO.out (some ⟨w2.heap.size, 0, none⟩) 1 1 (wrC (⟨l, n⟩ : Wr)) (by rfl) (by rfl) (fun c => (by cases c)) (fun ad e j u h => by injection e with e; rw [← e, Addr.add_lit, Nat.zero_add]; exact HF.out j u h) (by simp [wrC, Value.oneCell']) (by unfold maxLen; omega) (by omega) HLX4.out.size (fun v2 w5 hown5 hg5 => ?_)
      have HL5 := Lib.hid (below_append HLX4.out HO.out (Nat.le_refl _) HLX4.out.size hg5)
      have HO5 := Lib.hid hown5
      clear hown5 hg5 HF HO
      refine hK.out _ _ ⟨⟨kc (HL5.out) x0, kc (HL5.out) x1⟩, HL5.out⟩ (fun hHeld => ?_)
      clear hK K
      (try simp only [Act.put, pt8])
      refine wpAnyH_take (i := 6) (v := ?_) rfl (by kernel_rfl) (by kernel_rfl) (by kernel_rfl) (fun _ _ _ h => h) (Or.inl ⟨by rfl, ?_⟩) (by assumption) ?_
      rotate_left
      · intro w hSw; (try dsimp only at hSw); go_simp; (try with_reducible rfl)
      (try simp only [Act.put, pt8])
      refine wpAnyH_done (by kernel_rfl) ?_ _
      clear hHeld x0 x1
      obtain ⟨A8, c8, rfl⟩ := own_slice HO5.out
      go_wp2
      go_ret
      exact ⟨_, rfl, push_own HO5.out hB1.size, chain hB1 HL5.out⟩
    · -- 4 first
      go_simp
      refine hK.out _ _ ⟨⟨kc (below_al HLX0.out (.cells #[.int .i64 l, .int .i64 n] 102)) x0, kc (below_al HLX0.out (.cells #[.int .i64 l, .int .i64 n] 102)) x1⟩, below_al HLX0.out (.cells #[.int .i64 l, .int .i64 n] 102)⟩ (fun hHeld => ?_)
      clear hK K
      (try simp only [Act.put, pt8])
      obtain ⟨X4, hX4⟩ : ∃ W, W = X0.alloc (.cells #[.int .i64 l, .int .i64 n] 102) := ⟨_, rfl⟩
      have HLX4 := Lib.hid (show Below W1.heap.size W1 X4 from by rw [hX4]; exact below_al HLX0.out (.cells #[.int .i64 l, .int .i64 n] 102))
      have HF := Lib.hid (fun (j : Nat) (u : Value) (h : (wrC (⟨l, n⟩ : Wr))[j]? = some u) => (show X4.cell? ⟨X0.heap.size, j, none⟩ = some u from by
        have e := World.news_of_block (heap_alloc_new X0 (.cells #[.int .i64 l, .int .i64 n] 102)) j u h
        rw [Addr.add_lit, Nat.zero_add] at e
        rw [hX4]; exact e))
      have HS4 := Lib.hid (show X4.heap.size = X0.heap.size + 1 from by rw [hX4]; simp)
      replace HO := Lib.hid (own_below HO.out (show Below X0.heap.size X0 X4 from by rw [hX4]; exact below_al (Below.refl _ _) (.cells #[.int .i64 l, .int .i64 n] 102)))
      rw [← hX4] at hHeld ⊢
      clear hX4
      refine wpAnyH_ready (rs := [2]) (by kernel_rfl) (by simp) ?_
      refine AllReadyH.cons rfl (fun K hK => ?_) AllReadyH.nil
      refine step_append_src (by rfl) _ _ _ (by rfl) W1.heap.size 102 i0 (.agg #[.int .i64 0, .int .i64 0]) 2 16 Try.underlying77 hi0 hz0 hz1 hz2 (by rfl) (by decide) _ 0 [] (by rfl) HO.out A b.length c (b.flatMap wrC) (by rfl) (fl_len wrC_len b) h0 (HSRC.out _ HLX4.out) (one_w b) (by unfold maxLen; omega) (by omega) HLX4.out.size (fun v1 w2 hown2 hg2 => ?_)
      simp only [Nat.zero_add, List.nil_append] at hown2
      have HLw2 := Lib.hid (below_append HLX4.out HO.out (Nat.le_refl _) HLX4.out.size hg2)
      replace HF := Lib.hid (fun (j : Nat) (u : Value) (h : (wrC (⟨l, n⟩ : Wr))[j]? = some u) => hg2.cell (HF.out j u h) (show some X0.heap.size ≠ some Xa.heap.size from fun e => by injection e with e; have h3 := HS0.out; have h9 := HS4.out; omega))
      replace HO := Lib.hid hown2
      clear hown2 hg2
      refine hK.out _ _ ⟨⟨kc (HLw2.out) x0, kc (HLw2.out) x1⟩, HLw2.out⟩ (fun hHeld => ?_)
      clear hK K
      (try simp only [Act.put, pt8])
      refine wpAnyH_ready (rs := [5]) (by kernel_rfl) (by simp) ?_
      refine AllReadyH.cons rfl (fun K hK => ?_) AllReadyH.nil
      refine step_append_src (by rfl) _ _ _ (by rfl) W1.heap.size 102 i0 (.agg #[.int .i64 0, .int .i64 0]) 2 16 Try.underlying77 hi0 hz0 hz1 hz2 (by rfl) (by decide) _ b.length (b.flatMap wrC) (by rfl) HO.out (some ⟨X0.heap.size, 0, none⟩) 1 1 (wrC (⟨l, n⟩ : Wr)) (by rfl) (by rfl) (fun c => (by cases c)) (fun ad e j u h => by injection e with e; rw [← e, Addr.add_lit, Nat.zero_add]; exact HF.out j u h) (by simp [wrC, Value.oneCell']) (by unfold maxLen; omega) (by omega) HLw2.out.size (fun v2 w5 hown5 hg5 => ?_)
      have HL5 := Lib.hid (below_append HLw2.out HO.out (Nat.le_refl _) HLw2.out.size hg5)
      have HO5 := Lib.hid hown5
      clear hown5 hg5 HF HO
      refine hK.out _ _ ⟨⟨kc (HL5.out) x0, kc (HL5.out) x1⟩, HL5.out⟩ (fun hHeld => ?_)
      clear hK K
      (try simp only [Act.put, pt8])
      refine wpAnyH_take (i := 6) (v := ?_) rfl (by kernel_rfl) (by kernel_rfl) (by kernel_rfl) (fun _ _ _ h => h) (Or.inl ⟨by rfl, ?_⟩) (by assumption) ?_
      rotate_left
      · intro w hSw; (try dsimp only at hSw); go_simp; (try with_reducible rfl)
      (try simp only [Act.put, pt8])
      refine wpAnyH_done (by kernel_rfl) ?_ _
      clear hHeld x0 x1
      obtain ⟨A8, c8, rfl⟩ := own_slice HO5.out
      go_wp2
      go_ret
      exact ⟨_, rfl, push_own HO5.out hB1.size, chain hB1 HL5.out⟩
  · -- 4 first
    go_simp
    refine hK.out _ _ ⟨⟨kc (below_al HLXa.out (.cells #[.int .i64 l, .int .i64 n] 102)) x0, kc (below_al HLXa.out (.cells #[.int .i64 l, .int .i64 n] 102)) x1⟩, below_al HLXa.out (.cells #[.int .i64 l, .int .i64 n] 102)⟩ (fun hHeld => ?_)
    clear hK K
    (try simp only [Act.put, pt8])
    obtain ⟨X4, hX4⟩ : ∃ W, W = Xa.alloc (.cells #[.int .i64 l, .int .i64 n] 102) := ⟨_, rfl⟩
    have HLX4 := Lib.hid (show Below W1.heap.size W1 X4 from by rw [hX4]; exact below_al HLXa.out (.cells #[.int .i64 l, .int .i64 n] 102))
    have HF := Lib.hid (fun (j : Nat) (u : Value) (h : (wrC (⟨l, n⟩ : Wr))[j]? = some u) => (show X4.cell? ⟨Xa.heap.size, j, none⟩ = some u from by
      have e := World.news_of_block (heap_alloc_new Xa (.cells #[.int .i64 l, .int .i64 n] 102)) j u h
      rw [Addr.add_lit, Nat.zero_add] at e
      rw [hX4]; exact e))
    have HS4 := Lib.hid (show X4.heap.size = Xa.heap.size + 1 from by rw [hX4]; simp)
    rw [← hX4] at hHeld ⊢
    clear hX4
    refine wpAnyH_ready (rs := [0]) (by kernel_rfl) (by simp) ?_
    refine AllReadyH.cons rfl (fun K hK => ?_) AllReadyH.nil
    go_simp
    refine hK.out _ _ ⟨⟨kc (below_al HLX4.out (.cells #[] 102)) x0, kc (below_al HLX4.out (.cells #[] 102)) x1⟩, below_al HLX4.out (.cells #[] 102)⟩ (fun hHeld => ?_)
    clear hK K
    (try simp only [Act.put, pt8])
    obtain ⟨X0, hX0⟩ : ∃ W, W = X4.alloc (.cells #[] 102) := ⟨_, rfl⟩
    have HLX0 := Lib.hid (show Below W1.heap.size W1 X0 from by rw [hX0]; exact below_al HLX4.out (.cells #[] 102))
    have HO := Lib.hid (show X0.ownsRow W1.heap.size 102 2 (.slice (some ⟨X4.heap.size, 0, none⟩) 0 0) 0 [] from by rw [hX0]; exact World.ownsRow_lit (base := W1.heap.size) (e := 102) (size := 2) X4 #[] 0 HLX4.out.size (by decide) rfl)
    have HS0 := Lib.hid (show X0.heap.size = X4.heap.size + 1 from by rw [hX0]; simp)
    replace HF := Lib.hid (fun (j : Nat) (u : Value) (h : (wrC (⟨l, n⟩ : Wr))[j]? = some u) => (show X0.cell? ⟨Xa.heap.size, j, none⟩ = some u from by rw [hX0]; exact kc (below_al (Below.refl _ _) (.cells #[] 102)) (HF.out j u h)))
    rw [← hX0] at hHeld ⊢
    clear hX0
    refine wpAnyH_ready (rs := [2]) (by kernel_rfl) (by simp) ?_
    refine AllReadyH.cons rfl (fun K hK => ?_) AllReadyH.nil
    refine step_append_src (by rfl) _ _ _ (by rfl) W1.heap.size 102 i0 (.agg #[.int .i64 0, .int .i64 0]) 2 16 Try.underlying77 hi0 hz0 hz1 hz2 (by rfl) (by decide) _ 0 [] (by rfl) HO.out A b.length c (b.flatMap wrC) (by rfl) (fl_len wrC_len b) h0 (HSRC.out _ HLX0.out) (one_w b) (by unfold maxLen; omega) (by omega) HLX0.out.size (fun v1 w2 hown2 hg2 => ?_)
    simp only [Nat.zero_add, List.nil_append] at hown2
    have HLw2 := Lib.hid (below_append HLX0.out HO.out (Nat.le_refl _) HLX0.out.size hg2)
    replace HF := Lib.hid (fun (j : Nat) (u : Value) (h : (wrC (⟨l, n⟩ : Wr))[j]? = some u) => hg2.cell (HF.out j u h) (show some Xa.heap.size ≠ some X4.heap.size from fun e => by injection e with e; have h3 := HS0.out; have h9 := HS4.out; omega))
    replace HO := Lib.hid hown2
    clear hown2 hg2
    refine hK.out _ _ ⟨⟨kc (HLw2.out) x0, kc (HLw2.out) x1⟩, HLw2.out⟩ (fun hHeld => ?_)
    clear hK K
    (try simp only [Act.put, pt8])
    refine wpAnyH_ready (rs := [5]) (by kernel_rfl) (by simp) ?_
    refine AllReadyH.cons rfl (fun K hK => ?_) AllReadyH.nil
    refine step_append_src (by rfl) _ _ _ (by rfl) W1.heap.size 102 i0 (.agg #[.int .i64 0, .int .i64 0]) 2 16 Try.underlying77 hi0 hz0 hz1 hz2 (by rfl) (by decide) _ b.length (b.flatMap wrC) (by rfl) HO.out (some ⟨Xa.heap.size, 0, none⟩) 1 1 (wrC (⟨l, n⟩ : Wr)) (by rfl) (by rfl) (fun c => (by cases c)) (fun ad e j u h => by injection e with e; rw [← e, Addr.add_lit, Nat.zero_add]; exact HF.out j u h) (by simp [wrC, Value.oneCell']) (by unfold maxLen; omega) (by omega) HLw2.out.size (fun v2 w5 hown5 hg5 => ?_)
    have HL5 := Lib.hid (below_append HLw2.out HO.out (Nat.le_refl _) HLw2.out.size hg5)
    have HO5 := Lib.hid hown5
    clear hown5 hg5 HF HO
    refine hK.out _ _ ⟨⟨kc (HL5.out) x0, kc (HL5.out) x1⟩, HL5.out⟩ (fun hHeld => ?_)
    clear hK K
    (try simp only [Act.put, pt8])
    refine wpAnyH_take (i := 6) (v := ?_) rfl (by kernel_rfl) (by kernel_rfl) (by kernel_rfl) (fun _ _ _ h => h) (Or.inl ⟨by rfl, ?_⟩) (by assumption) ?_
    rotate_left
    · intro w hSw; (try dsimp only at hSw); go_simp; (try with_reducible rfl)
    (try simp only [Act.put, pt8])
    refine wpAnyH_done (by kernel_rfl) ?_ _
    clear hHeld x0 x1
    obtain ⟨A8, c8, rfl⟩ := own_slice HO5.out
    go_wp2
    go_ret
    exact ⟨_, rfl, push_own HO5.out hB1.size, chain hB1 HL5.out⟩
end Go.Proofs.Ytlpjgaeelnlipaa
namespace Go.Proofs.Ytlpjgaeelnlipaa
open Go.RowKit
set_option linter.unusedVariables false
set_option linter.unusedSimpArgs false
open CodM (St Pg rightP)
open BfM (Wr plc)
open ScM

set_option maxHeartbeats 8000000 in
set_option maxRecDepth 100000 in
theorem rtstepN_any {B : Nat} {v u : Value} {P : Pg} {s : Sta} (t : Int) (w : World) (hv : PgV B w v P) (hu : StaV B w u s) (hBB : B ≤ w.heap.size) (hp : rightP P = true) (ho : OkSt P s) (hw : WideS s) :
    Calls Try.prog 38 #[v, u, .agg #[.int .i64 t, .bool false]] w (TpRet P s t false w) := by
  have HOWN := Lib.hid (fun W (hW : Below w.heap.size w W) => rown_any W ((hu.below (hW.mono hBB)).more (Nat.le_trans hBB hW.size)) (Nat.le_refl _) hw)
  have HAT := Lib.hid (fun W (hW : Below w.heap.size w W) => rat_any t W ((hv.below (hW.mono hBB)).more (Nat.le_trans hBB hW.size)) ((hu.below (hW.mono hBB)).more (Nat.le_trans hBB hW.size)) (Nat.le_refl _) ho)
  have HST := Lib.hid (fun W (hW : Below w.heap.size w W) => refstep_any t W ((hv.below (hW.mono hBB)).more (Nat.le_trans hBB hW.size)) ((hu.below (hW.mono hBB)).more (Nat.le_trans hBB hW.size)) (Nat.le_refl _) hp ho hw)
  have HP := Lib.hid hp
  have HO := Lib.hid ho
  obtain ⟨pi, pt, rfl, hpm⟩ := hv
  obtain ⟨um, ut, rfl, hum⟩ := hu
  have hwm := hw.mem
  have HWR := Lib.hid hw.regs
  obtain ⟨⟨P0, d0, rfl, -⟩, ⟨P1, d1, rfl, -⟩⟩ := hpm
  have HUM := Lib.hid hum.1
  obtain ⟨⟨A7, c7, rfl, -⟩, ⟨A1, c1, rfl, m1, m2, -, m3⟩⟩ := hum
  have HM3 := Lib.hid m3
  unfold maxLen at m2
  clear hw m3 hp ho
  have HCO := Lib.hid (show Try.prog.cellsOf 33 = 2 from by kernel_rfl)
  obtain ⟨W3, hW3⟩ : ∃ W, W = (((w.alloc (.cells #[.slice P0 P.init.length d0, .slice P1 P.ths.length d1] 25)).alloc (.cells #[.slice A7 s.mem.length c7, .slice A1 s.ths.length c1] 33)).alloc (.cells #[.int .i64 t, .bool false] 52)).alloc (.cells #[.slice none 0 0, .slice none 0 0] 33) := ⟨_, rfl⟩
  obtain ⟨gp, hgp⟩ : ∃ g, g = w.heap.size := ⟨_, rfl⟩
  obtain ⟨gs, hgs⟩ : ∃ g, g = w.heap.size + 1 := ⟨_, rfl⟩
  obtain ⟨gk, hgk⟩ : ∃ g, g = w.heap.size + 1 + 1 := ⟨_, rfl⟩
  obtain ⟨gr, hgr⟩ : ∃ g, g = w.heap.size + 1 + 1 + 1 := ⟨_, rfl⟩
  have HX := Lib.hid (show BoxC W3 gp 25 #[.slice P0 P.init.length d0, .slice P1 P.ths.length d1] from by rw [hW3, hgp]; exact (((BoxC.new w 25 #[.slice P0 P.init.length d0, .slice P1 P.ths.length d1]).alloc (.cells #[.slice A7 s.mem.length c7, .slice A1 s.ths.length c1] 33)).alloc (.cells #[.int .i64 t, .bool false] 52)).alloc (.cells #[.slice none 0 0, .slice none 0 0] 33))
  have HY := Lib.hid (show BoxC W3 gs 33 #[.slice A7 s.mem.length c7, .slice A1 s.ths.length c1] from by rw [hW3, hgs]; have := ((BoxC.new (w.alloc (.cells #[.slice P0 P.init.length d0, .slice P1 P.ths.length d1] 25)) 33 #[.slice A7 s.mem.length c7, .slice A1 s.ths.length c1]).alloc (.cells #[.int .i64 t, .bool false] 52)).alloc (.cells #[.slice none 0 0, .slice none 0 0] 33); rw [World.size_alloc] at this; exact this)
  have HK := Lib.hid (show BoxC W3 gk 52 #[.int .i64 t, .bool false] from by rw [hW3, hgk]; have := (BoxC.new ((w.alloc (.cells #[.slice P0 P.init.length d0, .slice P1 P.ths.length d1] 25)).alloc (.cells #[.slice A7 s.mem.length c7, .slice A1 s.ths.length c1] 33)) 52 #[.int .i64 t, .bool false]).alloc (.cells #[.slice none 0 0, .slice none 0 0] 33); rw [World.size_alloc, World.size_alloc] at this; exact this)
  have HR := Lib.hid (show BoxC W3 gr 33 #[.slice none 0 0, .slice none 0 0] from by rw [hW3, hgr]; have := BoxC.new (((w.alloc (.cells #[.slice P0 P.init.length d0, .slice P1 P.ths.length d1] 25)).alloc (.cells #[.slice A7 s.mem.length c7, .slice A1 s.ths.length c1] 33)).alloc (.cells #[.int .i64 t, .bool false] 52)) 33 #[.slice none 0 0, .slice none 0 0]; rw [World.size_alloc, World.size_alloc, World.size_alloc] at this; exact this)
  have HB3 := Lib.hid (show Below w.heap.size w W3 from by rw [hW3]; exact below_al (below_al (below_al (below_al (Below.refl _ _) _) _) _) _)
  have HGR := Lib.hid (show w.heap.size ≤ gr from by omega)
  have y0 := HY.out.cell 0 _ rfl
  have y1 := HY.out.cell 1 _ rfl
  go_enter Try.func38, Try.ntmps38
  go_upto_region 1 with fail
  rw [← hW3]
  (try rw [← hgr])
  (try rw [← hgk])
  (try rw [← hgs])
  (try rw [← hgp])
  clear hW3 hgr hgs hgp hgk
  go_wp2_with fail
  refine (HOWN.out _ HB3.out).mono ?_
  rintro e w1 ⟨vm, vt, ps, rfl, hos, hb1⟩
  have HOS := Lib.hid hos
  have HB1 := Lib.hid hb1
  obtain ⟨Am, cm, rfl⟩ := own_slice hos.mem
  obtain ⟨Av, cv, rfl⟩ := own_slice hos.ths
  clear hos hb1 HOWN y0 y1
  go_upto_region 2 with fail
  obtain ⟨X1, hX1⟩ : ∃ W, W = w1.alloc (.cells #[.slice Am s.mem.length cm, .slice Av s.ths.length cv] 33) := ⟨_, rfl⟩
  obtain ⟨go, hgo⟩ : ∃ g, g = w1.heap.size := ⟨_, rfl⟩
  have HQ1 := Lib.hid (show BoxC X1 go 33 #[.slice Am s.mem.length cm, .slice Av s.ths.length cv] from by rw [hX1, hgo]; exact BoxC.new w1 _ _)
  have HL1 := Lib.hid (show Below w1.heap.size w1 X1 from by rw [hX1]; exact below_al (Below.refl _ _) _)
  have HL3 := Lib.hid (chain HB1.out HL1.out)
  have HGO := Lib.hid (show gs < go from by rw [hgo]; exact Nat.lt_of_lt_of_le HY.out.lt HB1.out.size)
  have HGO3 := Lib.hid (show W3.heap.size ≤ go from by rw [hgo]; exact HB1.out.size)
  replace HOS := Lib.hid (HOS.out.below HL1.out)
  rw [← hX1]
  (try rw [← hgo])
  clear hX1 hgo HL1 HB1
  have HRR := Lib.hid (HR.out.below HL3.out HR.out.lt)
  have HBF := Lib.hid (chain HB3.out HL3.out)
  have y1 := (HY.out.below HL3.out HY.out.lt).cell 1 _ rfl
  have k0 := (HK.out.below HL3.out HK.out.lt).cell 0 _ rfl
  have k1 := (HK.out.below HL3.out HK.out.lt).cell 1 _ rfl
  by_cases hr : 0 ≤ t ∧ t < (s.ths.length : Int)
  case neg =>
    have HFE := Lib.hid (show tst P s t false = none from by unfold tst; rw [thO_none hr]; cases atS P s t <;> rfl)
    by_cases h0 : t < 0
    · clear hr
      go_upto_region 4 with fail
      clear y1 k0 k1
      have y0 := HQ1.out.cell 0 _ rfl
      have y1 := HQ1.out.cell 1 _ rfl
      have r0 := HRR.out.cell 0 _ rfl
      have r1 := HRR.out.cell 1 _ rfl
      have f0 := HRR.out.frozen 0
      have f1 := HRR.out.frozen 1
      obtain ⟨W9, hW9⟩ : ∃ W, W = (X1.setCell ⟨gr, 0, none⟩ (.slice Am s.mem.length cm)).setCell ⟨gr, 1, none⟩ (.slice Av s.ths.length cv) := ⟨_, rfl⟩
      have HR9 := Lib.hid (show BoxC W9 gr 33 #[(.slice Am s.mem.length cm), (.slice Av s.ths.length cv)] from by rw [hW9]; exact (HRR.out.set 0 _).set 1 _)
      have HO9 := Lib.hid (show OwnSt W3.heap.size W9 (.slice Am s.mem.length cm) (.slice Av s.ths.length cv) (s) ps from by
        rw [hW9]
        exact (HOS.out.box HRR.out (by decide) (by decide) (by decide) 0 _).box (HRR.out.set 0 _) (by decide) (by decide) (by decide) 1 _)
      have HB9 := Lib.hid (show Below w.heap.size w W9 from by rw [hW9]; exact (HBF.out.setCell (p := ⟨gr, 0, none⟩) HGR.out _).setCell (p := ⟨gr, 1, none⟩) HGR.out _)
      have HW9 := Lib.hid hW9
      clear hW9
      go_wp2_with fail
      rw [← HW9.out]
      clear r0 r1 f0 f1
      have r0 := HR9.out.cell 0 _ rfl
      have r1 := HR9.out.cell 1 _ rfl
      have hz := HCO.out
      refine bodyPost_ret (v := .tuple #[.agg #[(.slice Am s.mem.length cm), (.slice Av s.ths.length cv)], .bool false]) (by simp [results, Try.results38, go_sem, r0, r1, hz]) rfl ⟨_, _, _, by rw [HFE.out]; rfl, (by rw [HFE.out]; exact HO9.out.base HB3.out.size), HB9.out⟩

    · have h1 : (s.ths.length : Int) ≤ t := by omega
      clear hr
      go_upto_region 4 with fail
      clear y1 k0 k1
      have y0 := HQ1.out.cell 0 _ rfl
      have y1 := HQ1.out.cell 1 _ rfl
      have r0 := HRR.out.cell 0 _ rfl
      have r1 := HRR.out.cell 1 _ rfl
      have f0 := HRR.out.frozen 0
      have f1 := HRR.out.frozen 1
      obtain ⟨W9, hW9⟩ : ∃ W, W = (X1.setCell ⟨gr, 0, none⟩ (.slice Am s.mem.length cm)).setCell ⟨gr, 1, none⟩ (.slice Av s.ths.length cv) := ⟨_, rfl⟩
      have HR9 := Lib.hid (show BoxC W9 gr 33 #[(.slice Am s.mem.length cm), (.slice Av s.ths.length cv)] from by rw [hW9]; exact (HRR.out.set 0 _).set 1 _)
      have HO9 := Lib.hid (show OwnSt W3.heap.size W9 (.slice Am s.mem.length cm) (.slice Av s.ths.length cv) (s) ps from by
        rw [hW9]
        exact (HOS.out.box HRR.out (by decide) (by decide) (by decide) 0 _).box (HRR.out.set 0 _) (by decide) (by decide) (by decide) 1 _)
      have HB9 := Lib.hid (show Below w.heap.size w W9 from by rw [hW9]; exact (HBF.out.setCell (p := ⟨gr, 0, none⟩) HGR.out _).setCell (p := ⟨gr, 1, none⟩) HGR.out _)
      have HW9 := Lib.hid hW9
      clear hW9
      go_wp2_with fail
      rw [← HW9.out]
      clear r0 r1 f0 f1
      have r0 := HR9.out.cell 0 _ rfl
      have r1 := HR9.out.cell 1 _ rfl
      have hz := HCO.out
      refine bodyPost_ret (v := .tuple #[.agg #[(.slice Am s.mem.length cm), (.slice Av s.ths.length cv)], .bool false]) (by simp [results, Try.results38, go_sem, r0, r1, hz]) rfl ⟨_, _, _, by rw [HFE.out]; rfl, (by rw [HFE.out]; exact HO9.out.base HB3.out.size), HB9.out⟩

  obtain ⟨hr1, hr2⟩ := hr
  obtain ⟨k, rfl⟩ : ∃ k : Nat, t = k := ⟨t.toNat, by omega⟩
  have hks : k < s.ths.length := by omega
  obtain ⟨b1, f1, rfl, hb1, hc1⟩ := HM3.out (by omega)
  obtain ⟨vr, vb, -, b2, -, b3, hRg, hW⟩ := hc1 k hks
  have HPK := Lib.hid (HOS.out.pk hks)
  have y0 := (HY.out.below HL3.out HY.out.lt).cell 0 _ rfl
  have x0 := (HX.out.below HL3.out HX.out.lt).cell 0 _ rfl
  have x1 := (HX.out.below HL3.out HX.out.lt).cell 1 _ rfl
  go_upto_region 12 with fail
  go_wp2_with fail
  refine (HAT.out _ HBF.out).mono ?_
  rintro e w2 ⟨rfl, hb2⟩
  have HB2 := Lib.hid hb2
  clear hb2 y0 y1 x0 x1 k0 k1 HAT
  cases hat : atS P s (k : Int) with
  | none =>
    have HFE := Lib.hid (show tst P s (k : Int) false = none from by unfold tst; rw [hat]; rfl)
    have HRE := Lib.hid (show atV P s (k : Int) = .tuple #[stV ⟨0, 0, 0, 0, 0⟩, .bool false] from by unfold atV; rw [hat])
    clear hat
    rw [HRE.out]
    unfold stV
    go_upto_region 13 with fail
    obtain ⟨X2, hX2⟩ : ∃ W, W = w2.alloc (.cells #[.int .i64 0, .int .i64 0, .int .i64 0, .int .i64 0, .int .i64 0] 39) := ⟨_, rfl⟩
    have HL2 := Lib.hid (show Below X1.heap.size X1 X2 from by rw [hX2]; exact below_al HB2.out _)
    rw [← hX2]
    clear hX2
    have y1 := ((HY.out.below HL3.out HY.out.lt).below HL2.out (HY.out.below HL3.out HY.out.lt).lt).cell 1 _ rfl
    have HC3 := Lib.hid b3
    replace b3 := ((chain HBF.out HL2.out |>.mono hBB).cell (p := ⟨b1, f1 + k * 4 + 3, none⟩) hb1).trans b3
    obtain ⟨Ab, cb, hW1, -⟩ := hW
    rw [hW1] at b3
    have HRR := Lib.hid (HRR.out.below HL2.out HRR.out.lt)
    have HQ2 := Lib.hid (HQ1.out.below HL2.out HQ1.out.lt)
    have z0 := HQ2.out.cell 0 _ rfl
    have z1 := HQ2.out.cell 1 _ rfl
    by_cases hbl : 0 < s.ths[k].buf.length
    · go_upto_region 15 with fail
      clear y1 b3
      have r0 := HRR.out.cell 0 _ rfl
      have r1 := HRR.out.cell 1 _ rfl
      have f0 := HRR.out.frozen 0
      have f1 := HRR.out.frozen 1
      obtain ⟨W9, hW9⟩ : ∃ W, W = (X2.setCell ⟨gr, 0, none⟩ (.slice Am s.mem.length cm)).setCell ⟨gr, 1, none⟩ (.slice Av s.ths.length cv) := ⟨_, rfl⟩
      have HR9 := Lib.hid (show BoxC W9 gr 33 #[(.slice Am s.mem.length cm), (.slice Av s.ths.length cv)] from by rw [hW9]; exact (HRR.out.set 0 _).set 1 _)
      have HO9 := Lib.hid (show OwnSt W3.heap.size W9 (.slice Am s.mem.length cm) (.slice Av s.ths.length cv) (s) ps from by
        rw [hW9]
        exact ((HOS.out.below HL2.out).box HRR.out (by decide) (by decide) (by decide) 0 _).box (HRR.out.set 0 _) (by decide) (by decide) (by decide) 1 _)
      have HB9 := Lib.hid (show Below w.heap.size w W9 from by rw [hW9]; exact ((chain HBF.out HL2.out).setCell (p := ⟨gr, 0, none⟩) HGR.out _).setCell (p := ⟨gr, 1, none⟩) HGR.out _)
      have HW9 := Lib.hid hW9
      clear hW9
      go_wp2_with fail
      rw [← HW9.out]
      clear r0 r1 f0 f1
      have r0 := HR9.out.cell 0 _ rfl
      have r1 := HR9.out.cell 1 _ rfl
      have hz := HCO.out
      refine bodyPost_ret (v := .tuple #[.agg #[(.slice Am s.mem.length cm), (.slice Av s.ths.length cv)], .bool false]) (by simp [results, Try.results38, go_sem, r0, r1, hz]) rfl ⟨_, _, _, by rw [HFE.out]; rfl, (by rw [HFE.out]; exact HO9.out.base HB3.out.size), HB9.out⟩

    · go_upto_region 15 with fail
      clear y1 b3
      have r0 := HRR.out.cell 0 _ rfl
      have r1 := HRR.out.cell 1 _ rfl
      have f0 := HRR.out.frozen 0
      have f1 := HRR.out.frozen 1
      obtain ⟨W9, hW9⟩ : ∃ W, W = (X2.setCell ⟨gr, 0, none⟩ (.slice Am s.mem.length cm)).setCell ⟨gr, 1, none⟩ (.slice Av s.ths.length cv) := ⟨_, rfl⟩
      have HR9 := Lib.hid (show BoxC W9 gr 33 #[(.slice Am s.mem.length cm), (.slice Av s.ths.length cv)] from by rw [hW9]; exact (HRR.out.set 0 _).set 1 _)
      have HO9 := Lib.hid (show OwnSt W3.heap.size W9 (.slice Am s.mem.length cm) (.slice Av s.ths.length cv) (s) ps from by
        rw [hW9]
        exact ((HOS.out.below HL2.out).box HRR.out (by decide) (by decide) (by decide) 0 _).box (HRR.out.set 0 _) (by decide) (by decide) (by decide) 1 _)
      have HB9 := Lib.hid (show Below w.heap.size w W9 from by rw [hW9]; exact ((chain HBF.out HL2.out).setCell (p := ⟨gr, 0, none⟩) HGR.out _).setCell (p := ⟨gr, 1, none⟩) HGR.out _)
      have HW9 := Lib.hid hW9
      clear hW9
      go_wp2_with fail
      rw [← HW9.out]
      clear r0 r1 f0 f1
      have r0 := HR9.out.cell 0 _ rfl
      have r1 := HR9.out.cell 1 _ rfl
      have hz := HCO.out
      refine bodyPost_ret (v := .tuple #[.agg #[(.slice Am s.mem.length cm), (.slice Av s.ths.length cv)], .bool false]) (by simp [results, Try.results38, go_sem, r0, r1, hz]) rfl ⟨_, _, _, by rw [HFE.out]; rfl, (by rw [HFE.out]; exact HO9.out.base HB3.out.size), HB9.out⟩

  | some x =>
    obtain ⟨k', hkk, h1, h2, h3, hx⟩ := atS_some hat
    have hkk' : k = k' := by omega
    subst hkk'
    have HAE := Lib.hid hat
    have HRE := Lib.hid (show atV P s (k : Int) = .tuple #[stV x, .bool true] from by unfold atV; rw [hat])
    have HSE := Lib.hid (show stp P s (k : Int) = ⟨stM x s.mem s.ths[k].regs, s.ths.set k (stT x s.mem s.ths[k])⟩ from by rw [stp_at h1 h2 h3, ← hx])
    have HFE := Lib.hid (show tst P s (k : Int) false = if stuck x s.ths[k] then none else some (tsS x s k s.ths[k]) from by unfold tst; rw [hat, thO_at hks]; rfl)
    obtain ⟨ln, HPX⟩ : ∃ ln, Hid (StP s.mem.length ln s.ths[k].at'.toNat x) := ⟨_, Lib.hid (by rw [HO.out.mem, hx]; exact stp_of HP.out h2 h3)⟩
    have HXR := Lib.hid (show s.ths[k].regs.length = 4 from (HO.out.th k h1 h2).regs)
    have HVW := Lib.hid (fun W (hW' : Below w.heap.size w W) => rview_any x.loc W ((hW.below (hW'.mono hBB)).more (Nat.le_trans hBB hW'.size)) ((HUM.out.below (hW'.mono hBB)).more (Nat.le_trans hBB hW'.size)) (Nat.le_refl _) (by have := (HWR.out _ (List.getElem_mem hks)).2; omega) (by omega))
    have HPU := Lib.hid (fun W (y : Wr) (hW' : Below w.heap.size w W) => rpush_any y W ((hW.below (hW'.mono hBB)).more (Nat.le_trans hBB hW'.size)) (Nat.le_refl _) (by have := (HWR.out _ (List.getElem_mem hks)).2; omega))
    generalize s.ths[k] = h at *
    clear hat h1 h2 h3 hx hkk hc1
    obtain ⟨xa, xr, xe, xb⟩ := h
    obtain ⟨Ab, cb, rfl, -⟩ := hW
    obtain ⟨op, rg, lc, nn, tn⟩ := x
    dsimp only at *
    rw [HRE.out]
    unfold stV
    dsimp only
    go_upto_region 13 with fail
    obtain ⟨X2, hX2⟩ : ∃ W, W = w2.alloc (.cells #[.int .i64 op, .int .i64 rg, .int .i64 lc, .int .i64 nn, .int .i64 tn] 39) := ⟨_, rfl⟩
    obtain ⟨g9, hg9⟩ : ∃ g, g = w2.heap.size := ⟨_, rfl⟩
    have HQ9 := Lib.hid (show BoxC X2 g9 39 #[.int .i64 op, .int .i64 rg, .int .i64 lc, .int .i64 nn, .int .i64 tn] from by rw [hX2, hg9]; exact BoxC.new w2 _ _)
    have HL2 := Lib.hid (show Below X1.heap.size X1 X2 from by rw [hX2]; exact below_al HB2.out _)
    have HG9 := Lib.hid (show X1.heap.size ≤ g9 from by rw [hg9]; exact HB2.out.size)
    rw [← hX2]
    (try rw [← hg9])
    clear hX2 hg9 HB2
    have y1 := ((HY.out.below HL3.out HY.out.lt).below HL2.out (HY.out.below HL3.out HY.out.lt).lt).cell 1 _ rfl
    have HC3 := Lib.hid b3
    replace b3 := ((chain HBF.out HL2.out |>.mono hBB).cell (p := ⟨b1, f1 + k * 4 + 3, none⟩) hb1).trans b3
    replace HRR := Lib.hid (HRR.out.below HL2.out HRR.out.lt)
    replace HQ1 := Lib.hid (HQ1.out.below HL2.out HQ1.out.lt)
    have z0 := HQ1.out.cell 0 _ rfl
    have z1 := HQ1.out.cell 1 _ rfl
    have p0 := HQ9.out.cell 0 _ rfl
    by_cases hbl : 0 < xb.length
    · have hne : xb.isEmpty = false := by cases xb with
        | nil => exact absurd hbl (by simp)
        | cons _ _ => rfl
      by_cases h6 : op = 6
      · have HF2 := Lib.hid (show tst P s (k : Int) false = none from by rw [HFE.out, if_pos (by simp [stuck, hne, h6])])
        clear HFE hne
        subst h6
        go_upto_region 15 with fail
        clear y1 b3 p0
        have r0 := HRR.out.cell 0 _ rfl
        have r1 := HRR.out.cell 1 _ rfl
        have f0 := HRR.out.frozen 0
        have f1 := HRR.out.frozen 1
        obtain ⟨W9, hW9⟩ : ∃ W, W = (X2.setCell ⟨gr, 0, none⟩ (.slice Am s.mem.length cm)).setCell ⟨gr, 1, none⟩ (.slice Av s.ths.length cv) := ⟨_, rfl⟩
        have HR9 := Lib.hid (show BoxC W9 gr 33 #[(.slice Am s.mem.length cm), (.slice Av s.ths.length cv)] from by rw [hW9]; exact (HRR.out.set 0 _).set 1 _)
        have HO9 := Lib.hid (show OwnSt W3.heap.size W9 (.slice Am s.mem.length cm) (.slice Av s.ths.length cv) (s) ps from by
          rw [hW9]
          exact ((HOS.out.below HL2.out).box HRR.out (by decide) (by decide) (by decide) 0 _).box (HRR.out.set 0 _) (by decide) (by decide) (by decide) 1 _)
        have HB9 := Lib.hid (show Below w.heap.size w W9 from by rw [hW9]; exact ((chain HBF.out HL2.out).setCell (p := ⟨gr, 0, none⟩) HGR.out _).setCell (p := ⟨gr, 1, none⟩) HGR.out _)
        have HW9 := Lib.hid hW9
        clear hW9
        go_wp2_with fail
        rw [← HW9.out]
        clear r0 r1 f0 f1
        have r0 := HR9.out.cell 0 _ rfl
        have r1 := HR9.out.cell 1 _ rfl
        have hz := HCO.out
        refine bodyPost_ret (v := .tuple #[.agg #[(.slice Am s.mem.length cm), (.slice Av s.ths.length cv)], .bool false]) (by simp [results, Try.results38, go_sem, r0, r1, hz]) rfl ⟨_, _, _, by rw [HF2.out]; rfl, (by rw [HF2.out]; exact HO9.out.base HB3.out.size), HB9.out⟩

      by_cases h5 : op = 5
      · have HF2 := Lib.hid (show tst P s (k : Int) false = none from by rw [HFE.out, if_pos (by simp [stuck, hne, h5])])
        clear HFE hne
        subst h5
        go_upto_region 15 with fail
        clear y1 b3 p0
        have r0 := HRR.out.cell 0 _ rfl
        have r1 := HRR.out.cell 1 _ rfl
        have f0 := HRR.out.frozen 0
        have f1 := HRR.out.frozen 1
        obtain ⟨W9, hW9⟩ : ∃ W, W = (X2.setCell ⟨gr, 0, none⟩ (.slice Am s.mem.length cm)).setCell ⟨gr, 1, none⟩ (.slice Av s.ths.length cv) := ⟨_, rfl⟩
        have HR9 := Lib.hid (show BoxC W9 gr 33 #[(.slice Am s.mem.length cm), (.slice Av s.ths.length cv)] from by rw [hW9]; exact (HRR.out.set 0 _).set 1 _)
        have HO9 := Lib.hid (show OwnSt W3.heap.size W9 (.slice Am s.mem.length cm) (.slice Av s.ths.length cv) (s) ps from by
          rw [hW9]
          exact ((HOS.out.below HL2.out).box HRR.out (by decide) (by decide) (by decide) 0 _).box (HRR.out.set 0 _) (by decide) (by decide) (by decide) 1 _)
        have HB9 := Lib.hid (show Below w.heap.size w W9 from by rw [hW9]; exact ((chain HBF.out HL2.out).setCell (p := ⟨gr, 0, none⟩) HGR.out _).setCell (p := ⟨gr, 1, none⟩) HGR.out _)
        have HW9 := Lib.hid hW9
        clear hW9
        go_wp2_with fail
        rw [← HW9.out]
        clear r0 r1 f0 f1
        have r0 := HR9.out.cell 0 _ rfl
        have r1 := HR9.out.cell 1 _ rfl
        have hz := HCO.out
        refine bodyPost_ret (v := .tuple #[.agg #[(.slice Am s.mem.length cm), (.slice Av s.ths.length cv)], .bool false]) (by simp [results, Try.results38, go_sem, r0, r1, hz]) rfl ⟨_, _, _, by rw [HF2.out]; rfl, (by rw [HF2.out]; exact HO9.out.base HB3.out.size), HB9.out⟩

      have HF2 := Lib.hid (show tst P s (k : Int) false = some (tsS ⟨op, rg, lc, nn, tn⟩ s k ⟨xa, xr, xe, xb⟩) from by rw [HFE.out, if_neg (by simp [stuck, h5, h6])])
      have e6 : ¬ ((op == 6) = true) := by simpa using h6
      have e5 : ¬ ((op == 5) = true) := by simpa using h5
      go_upto_region 16 with fail
      clear y1 b3 p0 z0 z1 HFE hne h5 h6 e6 e5 hbl
      have HBX := Lib.hid (chain HBF.out HL2.out)
      have x0 := ((HX.out.below HL3.out HX.out.lt).below HL2.out (HX.out.below HL3.out HX.out.lt).lt).cell 0 _ rfl
      have x1 := ((HX.out.below HL3.out HX.out.lt).below HL2.out (HX.out.below HL3.out HX.out.lt).lt).cell 1 _ rfl
      have y0 := ((HY.out.below HL3.out HY.out.lt).below HL2.out (HY.out.below HL3.out HY.out.lt).lt).cell 0 _ rfl
      have y1 := ((HY.out.below HL3.out HY.out.lt).below HL2.out (HY.out.below HL3.out HY.out.lt).lt).cell 1 _ rfl
      go_wp2_with fail
      refine (HST.out _ HBX.out).mono ?_
      rintro e w3 ⟨vm2, vt2, ps2, rfl, hos2, hb3⟩
      rw [HAE.out]
      rw [HSE.out] at hos2
      obtain ⟨Mn, mn, rfl⟩ := own_slice (n := s.mem.length) (show w3.ownsRow _ _ 1 vm2 s.mem.length _ from by have e := hos2.mem; unfold OwnI at e; rwa [stM_len] at e)
      obtain ⟨Vn, vn, rfl⟩ := own_slice (n := s.ths.length) (by have e := hos2.ths; rwa [List.length_set] at e)
      have HO2 := Lib.hid hos2
      have HB4 := Lib.hid hb3
      clear hos2 hb3 x0 x1 y0 y1 HST
      go_upto_region 17 with fail
      obtain ⟨X4, hX4⟩ : ∃ W, W = w3.alloc (.cells #[.slice Mn s.mem.length mn, .slice Vn s.ths.length vn] 33) := ⟨_, rfl⟩
      obtain ⟨gn, hgn⟩ : ∃ g, g = w3.heap.size := ⟨_, rfl⟩
      have HN := Lib.hid (show BoxC X4 gn 33 #[.slice Mn s.mem.length mn, .slice Vn s.ths.length vn] from by rw [hX4, hgn]; exact BoxC.new w3 _ _)
      have HL4 := Lib.hid (show Below X2.heap.size X2 X4 from by rw [hX4]; exact below_al HB4.out _)
      have HO4 := Lib.hid (show OwnSt X2.heap.size X4 (.slice Mn s.mem.length mn) (.slice Vn s.ths.length vn) ⟨stM ⟨op, rg, lc, nn, tn⟩ s.mem xr, s.ths.set k (stT ⟨op, rg, lc, nn, tn⟩ s.mem ⟨xa, xr, xe, xb⟩)⟩ ps2 from by rw [hX4]; exact HO2.out.below (below_al (Below.refl _ _) _))
      have HGN := Lib.hid (show X2.heap.size ≤ gn from by rw [hgn]; exact HB4.out.size)
      rw [← hX4]
      (try rw [← hgn])
      clear hX4 hgn HO2 HB4
      replace HQ9 := Lib.hid (HQ9.out.below HL4.out HQ9.out.lt)
      replace HRR := Lib.hid (HRR.out.below HL4.out HRR.out.lt)
      replace HQ1 := Lib.hid (HQ1.out.below HL4.out HQ1.out.lt)
      replace HBX := Lib.hid (chain HBX.out HL4.out)
      have p0 := HQ9.out.cell 0 _ rfl
      by_cases h2 : op = 2
      · subst h2
        have HPR := Lib.hid (HPX.out.reg (by rfl))
        have HF3 := Lib.hid (show tsS ⟨2, rg, lc, nn, tn⟩ s k ⟨xa, xr, xe, xb⟩ = ⟨s.mem, s.ths.set k ⟨xa + 1, xr.set rg.toNat ((BfM.view xb s.mem lc).getD 0), xe, xb⟩⟩ from by unfold tsS; rw [if_pos rfl])
        obtain ⟨n9, b9, HVV⟩ : ∃ n b, Hid (viewV xb s.mem lc = .tuple #[.int .i64 n, .bool b] ∧ n = (BfM.view xb s.mem lc).getD 0) := by
          unfold viewV
          cases BfM.view xb s.mem lc with
          | none => exact ⟨0, false, Lib.hid ⟨rfl, rfl⟩⟩
          | some n => exact ⟨n, true, Lib.hid ⟨rfl, rfl⟩⟩
        have y0 := (((HY.out.below HL3.out HY.out.lt).below HL2.out (HY.out.below HL3.out HY.out.lt).lt).below HL4.out ((HY.out.below HL3.out HY.out.lt).below HL2.out (HY.out.below HL3.out HY.out.lt).lt).lt).cell 0 _ rfl
        have y1 := (((HY.out.below HL3.out HY.out.lt).below HL2.out (HY.out.below HL3.out HY.out.lt).lt).below HL4.out ((HY.out.below HL3.out HY.out.lt).below HL2.out (HY.out.below HL3.out HY.out.lt).lt).lt).cell 1 _ rfl
        have b3 := ((HBX.out.mono hBB).cell (p := ⟨b1, f1 + k * 4 + 3, none⟩) hb1).trans HC3.out
        have p2 := HQ9.out.cell 2 _ rfl
        go_upto_region 19 with fail
        refine wp_region_held_drew (S := (fun w' => w'.cell? ⟨gs, 0, none⟩ = some (.slice A7 s.mem.length c7) ∧ w'.cell? ⟨gs, 1, none⟩ = some (.slice (some ⟨b1, f1, none⟩) s.ths.length c1) ∧ w'.cell? ⟨b1, f1 + k * 4 + 3, none⟩ = some (.slice Ab xb.length cb) ∧ w'.cell? ⟨g9, 2, none⟩ = some (.int .i64 lc) ∧ Below X4.heap.size X4 w')) (by kernel_rfl) ⟨y0, y1, b3, p2, below_drewN (Below.refl _ _) 1⟩ (fun hHeld => ?_)
        obtain ⟨Xs, hXs⟩ : ∃ W, W = X4.drew := ⟨_, rfl⟩
        rw [← hXs] at hHeld ⊢
        clear hXs
        refine wpAnyH_take (i := 0) (v := ?_) rfl (by kernel_rfl) (by kernel_rfl) (by kernel_rfl) (fun _ _ _ h => h) (Or.inl ⟨by rfl, ?_⟩) (by assumption) ?_
        rotate_left
        · intro w hSw; (try dsimp only at hSw); go_simp; (try with_reducible rfl)
        (try simp only [Act.put, pt8])
        refine wpAnyH_take (i := 1) (v := ?_) rfl (by kernel_rfl) (by kernel_rfl) (by kernel_rfl) (fun _ _ _ h => h) (Or.inl ⟨by rfl, ?_⟩) (by assumption) ?_
        rotate_left
        · intro w hSw; (try dsimp only at hSw); go_simp; (try with_reducible rfl)
        (try simp only [Act.put, pt8])
        refine wpAnyH_take (i := 2) (v := ?_) rfl (by kernel_rfl) (by kernel_rfl) (by kernel_rfl) (fun _ _ _ h => h) (Or.inl ⟨by rfl, ?_⟩) (by assumption) ?_
        rotate_left
        · intro w hSw; (try dsimp only at hSw); go_simp; (try with_reducible rfl)
        (try simp only [Act.put, pt8])
        refine wpAnyH_take (i := 3) (v := ?_) rfl (by kernel_rfl) (by kernel_rfl) (by kernel_rfl) (fun _ _ _ h => h) (Or.inl ⟨by rfl, ?_⟩) (by assumption) ?_
        rotate_left
        · intro w hSw; (try dsimp only at hSw); go_simp; (try with_reducible rfl)
        (try simp only [Act.put, pt8])
        refine wpAnyH_take (i := 4) (v := ?_) rfl (by kernel_rfl) (by kernel_rfl) (by kernel_rfl) (fun _ _ _ h => h) (Or.inl ⟨by rfl, ?_⟩) (by assumption) ?_
        rotate_left
        · intro w hSw; (try dsimp only at hSw); go_simp; (try with_reducible rfl)
        (try simp only [Act.put, pt8])
        refine wpAnyH_take (i := 5) (v := ?_) rfl (by kernel_rfl) (by kernel_rfl) (by kernel_rfl) (fun _ _ _ h => h) (Or.inl ⟨by rfl, ?_⟩) (by assumption) ?_
        rotate_left
        · intro w hSw; (try dsimp only at hSw); go_simp; (try with_reducible rfl)
        (try simp only [Act.put, pt8])
        refine wpAnyH_take (i := 6) (v := ?_) rfl (by kernel_rfl) (by kernel_rfl) (by kernel_rfl) (fun _ _ _ h => h) (Or.inl ⟨by rfl, ?_⟩) (by assumption) ?_
        rotate_left
        · intro w hSw; (try dsimp only at hSw); go_simp; (try with_reducible rfl)
        (try simp only [Act.put, pt8])
        refine wpAnyH_take (i := 7) (v := ?_) rfl (by kernel_rfl) (by kernel_rfl) (by kernel_rfl) (fun _ _ _ h => h) (Or.inl ⟨by rfl, ?_⟩) (by assumption) ?_
        rotate_left
        · intro w hSw; (try dsimp only at hSw); go_simp; (try with_reducible rfl)
        (try simp only [Act.put, pt8])
        refine wpAnyH_take (i := 8) (v := ?_) rfl (by kernel_rfl) (by kernel_rfl) (by kernel_rfl) (fun _ _ _ h => h) (Or.inl ⟨by rfl, ?_⟩) (by assumption) ?_
        rotate_left
        · intro w hSw; (try dsimp only at hSw); go_simp; (try with_reducible rfl)
        (try simp only [Act.put, pt8])
        refine wpAnyH_take (i := 9) (v := ?_) rfl (by kernel_rfl) (by kernel_rfl) (by kernel_rfl) (fun _ _ _ h => h) (Or.inl ⟨by rfl, ?_⟩) (by assumption) ?_
        rotate_left
        · intro w hSw; (try dsimp only at hSw); go_simp; (try with_reducible rfl)
        (try simp only [Act.put, pt8])
        refine wpAnyH_ready (rs := [10]) (by kernel_rfl) (by simp) ?_
        refine AllReadyH.cons rfl (fun K hK => ?_) AllReadyH.nil
        obtain ⟨q0, q1, q2, q3, q4⟩ := hHeld
        go_simp
        refine (HVW.out _ (chain HBX.out q4)).mono ?_
        rintro e X5 ⟨rfl, hb⟩
        rw [HVV.out.1]
        have HB5 := Lib.hid (show Below X4.heap.size X4 X5 from chain q4 hb)
        refine hK.out _ _ ⟨kc hb q0, kc hb q1, kc hb q2, kc hb q3, chain q4 hb⟩ (fun hHeld => ?_)
        clear q0 q1 q2 q3 q4
        clear hK K
        (try simp only [Act.put, pt8])
        clear hb
        refine wpAnyH_take (i := 11) (v := ?_) rfl (by kernel_rfl) (by kernel_rfl) (by kernel_rfl) (fun _ _ _ h => h) (Or.inl ⟨by rfl, ?_⟩) (by assumption) ?_
        rotate_left
        · intro w hSw; (try dsimp only at hSw); go_simp; (try with_reducible rfl)
        (try simp only [Act.put, pt8])
        refine wpAnyH_take (i := 12) (v := ?_) rfl (by kernel_rfl) (by kernel_rfl) (by kernel_rfl) (fun _ _ _ h => h) (Or.inl ⟨by rfl, ?_⟩) (by assumption) ?_
        rotate_left
        · intro w hSw; (try dsimp only at hSw); go_simp; (try with_reducible rfl)
        (try simp only [Act.put, pt8])
        refine wpAnyH_take (i := 13) (v := ?_) rfl (by kernel_rfl) (by kernel_rfl) (by kernel_rfl) (fun _ _ _ h => h) (Or.inl ⟨by rfl, ?_⟩) (by assumption) ?_
        rotate_left
        · intro w hSw; (try dsimp only at hSw); go_simp; (try with_reducible rfl)
        (try simp only [Act.put, pt8])
        refine wpAnyH_ready (rs := [14]) (by kernel_rfl) (by simp) ?_
        refine AllReadyH.cons rfl (fun K hK => ?_) AllReadyH.nil
        go_simp
        refine hK.out _ _ hHeld (fun hHeld => ?_)
        clear hK K
        (try simp only [Act.put, pt8])
        refine wpAnyH_ready (rs := [15]) (by kernel_rfl) (by simp) ?_
        refine AllReadyH.cons rfl (fun K hK => ?_) AllReadyH.nil
        go_simp
        refine hK.out _ _ hHeld (fun hHeld => ?_)
        clear hK K
        (try simp only [Act.put, pt8])
        refine wpAnyH_done (by kernel_rfl) ?_ _
        clear hHeld y0 y1 b3 p0 p2
        obtain ⟨j, rfl⟩ : ∃ j : Nat, rg = j := ⟨rg.toNat, by have := HPR.out.1; dsimp only at this; omega⟩
        have hj4 : j < xr.length := by have h := HPR.out.2; have h' := HXR.out; dsimp only at h h'; omega
        have HT := Lib.hid (show stT ⟨2, (j : Int), lc, nn, tn⟩ s.mem ⟨xa, xr, xe, xb⟩ = ⟨xa + 1, xr.set j (nth s.mem lc), xe, xb⟩ from by simp [stT, stR, stE, jumps])
        have HM := Lib.hid (show ScM.stM ⟨2, (j : Int), lc, nn, tn⟩ s.mem xr = s.mem from by simp [ScM.stM])
        have HO5 := Lib.hid (HO4.out.below HB5.out)
        have HN5 := Lib.hid (HN.out.below HB5.out HN.out.lt)
        have HQ95 := Lib.hid (HQ9.out.below HB5.out HQ9.out.lt)
        have HRR5 := Lib.hid (HRR.out.below HB5.out HRR.out.lt)
        rw [HM.out] at HO5
        obtain ⟨vr2, vb2, hpk⟩ := HO5.out.pk (k := k) (by simpa using hks)
        simp only [List.getElem_set_self] at hpk
        obtain ⟨hkp, hpe⟩ := List.getElem?_eq_some_iff.1 hpk
        obtain ⟨gt, cv', cur, hev, hgt, hbv, t0, t1, t2, t3⟩ := HO5.out.row hkp
        rw [List.length_set] at hev
        injection hev with hev1 hev3 hev2
        clear hev3
        subst hev1 hev2
        rw [hpe] at t1 t3
        have HPK' := Lib.hid hpk
        have HOE := Lib.hid (HO5.out.each _ (List.getElem_mem hkp))
        rw [hpe] at HOE
        have HBV := Lib.hid hbv
        have HGT := Lib.hid hgt
        clear hpk hbv hgt hpe t0 t2
        dsimp only at HOE
        rw [HT.out] at HOE HPK'
        rw [HT.out] at HO5
        obtain ⟨gv, cr, curr, hvr, hgv, hbr, hcr⟩ := own_nu (l := xr.set j (nth s.mem lc)) HOE.out.1 (j := j) (by simpa using hj4)
        subst hvr
        have HBR := Lib.hid hbr
        have HGV := Lib.hid hgv
        have HCR := Lib.hid hcr
        clear hbr hgv hcr t3
        have HN1 := Lib.hid (HBV.out.unlike HBR.out (by decide))
        have HN2 := Lib.hid (HQ95.out.unlike HBR.out (by decide))
        have HN3 := Lib.hid (HN5.out.unlike HBR.out (by decide))
        have o1 := HN5.out.cell 1 _ rfl
        have p1 := HQ95.out.cell 1 _ rfl
        go_upto_region 20 with fail
        refine wp_region_held_drew (S := (fun w' => w'.cell? ⟨gn, 1, none⟩ = some (.slice (some ⟨gt, 0, none⟩) s.ths.length vn) ∧ w'.cell? ⟨gt, k * 4 + 1, none⟩ = some (.slice (some ⟨gv, 0, none⟩) (xr.set j (nth s.mem lc)).length cr) ∧ w'.cell? ⟨g9, 1, none⟩ = some (.int .i64 (j : Int)) ∧ True)) (by kernel_rfl) ⟨o1, t1, p1, trivial⟩ (fun hHeld => ?_)
        obtain ⟨X6, hX6⟩ : ∃ W, W = X5.drew := ⟨_, rfl⟩
        have HB6 := Lib.hid (show Below X5.heap.size X5 X6 from by rw [hX6]; exact below_drewN (Below.refl _ _) 1)
        rw [← hX6] at hHeld ⊢
        clear hX6
        refine wpAnyH_take (i := 0) (v := ?_) rfl (by kernel_rfl) (by kernel_rfl) (by kernel_rfl) (fun _ _ _ h => h) (Or.inl ⟨by rfl, ?_⟩) (by assumption) ?_
        rotate_left
        · intro w hSw; (try dsimp only at hSw); go_simp; (try with_reducible rfl)
        (try simp only [Act.put, pt8])
        refine wpAnyH_take (i := 1) (v := ?_) rfl (by kernel_rfl) (by kernel_rfl) (by kernel_rfl) (fun _ _ _ h => h) (Or.inl ⟨by rfl, ?_⟩) (by assumption) ?_
        rotate_left
        · intro w hSw; (try dsimp only at hSw); go_simp; (try with_reducible rfl)
        (try simp only [Act.put, pt8])
        refine wpAnyH_take (i := 2) (v := ?_) rfl (by kernel_rfl) (by kernel_rfl) (by kernel_rfl) (fun _ _ _ h => h) (Or.inl ⟨by rfl, ?_⟩) (by assumption) ?_
        rotate_left
        · intro w hSw; (try dsimp only at hSw); go_simp; (try with_reducible rfl)
        (try simp only [Act.put, pt8])
        refine wpAnyH_take (i := 3) (v := ?_) rfl (by kernel_rfl) (by kernel_rfl) (by kernel_rfl) (fun _ _ _ h => h) (Or.inl ⟨by rfl, ?_⟩) (by assumption) ?_
        rotate_left
        · intro w hSw; (try dsimp only at hSw); go_simp; (try with_reducible rfl)
        (try simp only [Act.put, pt8])
        refine wpAnyH_take (i := 4) (v := ?_) rfl (by kernel_rfl) (by kernel_rfl) (by kernel_rfl) (fun _ _ _ h => h) (Or.inl ⟨by rfl, ?_⟩) (by assumption) ?_
        rotate_left
        · intro w hSw; (try dsimp only at hSw); go_simp; (try with_reducible rfl)
        (try simp only [Act.put, pt8])
        refine wpAnyH_take (i := 5) (v := ?_) rfl (by kernel_rfl) (by kernel_rfl) (by kernel_rfl) (fun _ _ _ h => h) (Or.inl ⟨by rfl, ?_⟩) (by assumption) ?_
        rotate_left
        · intro w hSw; (try dsimp only at hSw); go_simp; (try with_reducible rfl)
        (try simp only [Act.put, pt8])
        refine wpAnyH_take (i := 6) (v := ?_) rfl (by kernel_rfl) (by kernel_rfl) (by kernel_rfl) (fun _ _ _ h => h) (Or.inl ⟨by rfl, ?_⟩) (by assumption) ?_
        rotate_left
        · intro w hSw; (try dsimp only at hSw); go_simp; (try with_reducible rfl)
        (try simp only [Act.put, pt8])
        refine wpAnyH_take (i := 7) (v := ?_) rfl (by kernel_rfl) (by kernel_rfl) (by kernel_rfl) (fun _ _ _ h => h) (Or.inl ⟨by rfl, ?_⟩) (by assumption) ?_
        rotate_left
        · intro w hSw; (try dsimp only at hSw); go_simp; (try with_reducible rfl)
        (try simp only [Act.put, pt8])
        refine wpAnyH_take (i := 8) (v := ?_) rfl (by kernel_rfl) (by kernel_rfl) (by kernel_rfl) (fun _ _ _ h => h) (Or.inl ⟨by rfl, ?_⟩) (by assumption) ?_
        rotate_left
        · intro w hSw; (try dsimp only at hSw); go_simp; (try with_reducible rfl)
        (try simp only [Act.put, pt8])
        refine wpAnyH_take (i := 9) (v := ?_) rfl (by kernel_rfl) (by kernel_rfl) (by kernel_rfl) (fun _ _ _ h => h) (Or.inl ⟨by rfl, ?_⟩) (by assumption) ?_
        rotate_left
        · intro w hSw; (try dsimp only at hSw); go_simp; (try with_reducible rfl)
        (try simp only [Act.put, pt8])
        refine wpAnyH_ready (rs := [10]) (by kernel_rfl) (by simp) ?_
        refine AllReadyH.cons rfl (fun K hK => ?_) AllReadyH.nil
        obtain ⟨q0, q1, q2, -⟩ := hHeld
        have v6 := (HBR.out.below HB6.out HBR.out.lt).frozen j
        have e6 := kc HB6.out HCR.out
        go_simp
        refine hK.out _ _ ⟨st_ne HN3.out q0, st_ne HN1.out q1, st_ne HN2.out q2, trivial⟩ (fun hHeld => ?_)
        clear q0 q1 q2 v6 e6
        clear hK K
        (try simp only [Act.put, pt8])
        refine wpAnyH_done (by kernel_rfl) ?_ _
        clear hHeld o1 p1 t1
        obtain ⟨X7, hX7⟩ : ∃ W, W = X6.setCell ⟨gv, j, none⟩ (.int .i64 n9) := ⟨_, rfl⟩
        have HO7 := Lib.hid (show OwnSt X2.heap.size X7 (.slice Mn s.mem.length mn) (.slice (some ⟨gt, 0, none⟩) s.ths.length vn) ⟨s.mem, s.ths.set k ⟨xa + 1, xr.set j n9, xe, xb⟩⟩ (ps2.set k ⟨⟨xa + 1, (xr.set j (nth s.mem lc)).set j n9, xe, xb⟩, .slice (some ⟨gv, 0, none⟩) (xr.set j (nth s.mem lc)).length cr, vb2⟩) from by
          rw [hX7]
          have := own_setR (j := j) (z := n9) (HO5.out.below HB6.out) HPK'.out
          exact this.cast (by rw [List.set_set, List.set_set]))
        have HN7 := Lib.hid (show BoxC X7 gn 33 #[.slice Mn s.mem.length mn, .slice (some ⟨gt, 0, none⟩) s.ths.length vn] from by rw [hX7]; exact (HN5.out.below HB6.out HN5.out.lt).other HN3.out _ _)
        have HRR := Lib.hid (show BoxC X7 gr 33 #[.slice none 0 0, .slice none 0 0] from by rw [hX7]; exact (HRR5.out.below HB6.out HRR5.out.lt).other ((HRR5.out.below HB6.out HRR5.out.lt).unlike (HBR.out.below HB6.out HBR.out.lt) (by decide)) _ _)
        have HB7 := Lib.hid (show Below w.heap.size w X7 from by rw [hX7]; exact (chain HBX.out (chain HB5.out HB6.out)).setCell (p := ⟨gv, j, none⟩) (Nat.le_trans HB3.out.size (Nat.le_trans HL3.out.size (Nat.le_trans HL2.out.size HGV.out))) _)
        have HF4 := Lib.hid (show tsS ⟨2, (j : Int), lc, nn, tn⟩ s k ⟨xa, xr, xe, xb⟩ = ⟨s.mem, s.ths.set k ⟨xa + 1, xr.set j n9, xe, xb⟩⟩ from by rw [HF3.out, HVV.out.2]; simp)
        rw [← hX7]
        clear hX7
        have z0 := HN7.out.cell 0 _ rfl
        have z1 := HN7.out.cell 1 _ rfl
        have r0 := HRR.out.cell 0 _ rfl
        have r1 := HRR.out.cell 1 _ rfl
        have f0 := HRR.out.frozen 0
        have f1 := HRR.out.frozen 1
        obtain ⟨W9, hW9⟩ : ∃ W, W = (X7.setCell ⟨gr, 0, none⟩ (.slice Mn s.mem.length mn)).setCell ⟨gr, 1, none⟩ (.slice (some ⟨gt, 0, none⟩) s.ths.length vn) := ⟨_, rfl⟩
        have HR9 := Lib.hid (show BoxC W9 gr 33 #[(.slice Mn s.mem.length mn), (.slice (some ⟨gt, 0, none⟩) s.ths.length vn)] from by rw [hW9]; exact (HRR.out.set 0 _).set 1 _)
        have HO9 := Lib.hid (show OwnSt W3.heap.size W9 (.slice Mn s.mem.length mn) (.slice (some ⟨gt, 0, none⟩) s.ths.length vn) (tsS ⟨2, (j : Int), lc, nn, tn⟩ s k ⟨xa, xr, xe, xb⟩) (ps2.set k ⟨⟨xa + 1, (xr.set j (nth s.mem lc)).set j n9, xe, xb⟩, .slice (some ⟨gv, 0, none⟩) (xr.set j (nth s.mem lc)).length cr, vb2⟩) from by
          rw [hW9]
          exact (((HO7.out.base (Nat.le_trans HL3.out.size HL2.out.size)).cast HF4.out.symm).box HRR.out (by decide) (by decide) (by decide) 0 _).box (HRR.out.set 0 _) (by decide) (by decide) (by decide) 1 _)
        have HB9 := Lib.hid (show Below w.heap.size w W9 from by rw [hW9]; exact (HB7.out.setCell (p := ⟨gr, 0, none⟩) HGR.out _).setCell (p := ⟨gr, 1, none⟩) HGR.out _)
        have HW9 := Lib.hid hW9
        clear hW9
        go_wp2_with fail
        rw [← HW9.out]
        clear r0 r1 f0 f1
        have r0 := HR9.out.cell 0 _ rfl
        have r1 := HR9.out.cell 1 _ rfl
        have hz := HCO.out
        refine bodyPost_ret (v := .tuple #[.agg #[(.slice Mn s.mem.length mn), (.slice (some ⟨gt, 0, none⟩) s.ths.length vn)], .bool true]) (by simp [results, Try.results38, go_sem, r0, r1, hz]) rfl ⟨_, _, _, by rw [HF2.out]; rfl, (by rw [HF2.out]; exact HO9.out.base HB3.out.size), HB9.out⟩
      have e2 : ¬ ((op == 2) = true) := by simpa using h2
      by_cases h3 : op = 3
      · subst h3
        have HLO := Lib.hid (HPX.out.loc (by rfl))
        obtain ⟨l, rfl⟩ : ∃ l : Nat, lc = l := ⟨lc.toNat, by have h := HLO.out.1; dsimp only at h; omega⟩
        have HT := Lib.hid (show stT ⟨3, rg, (l : Int), nn, tn⟩ s.mem ⟨xa, xr, xe, xb⟩ = ⟨xa + 1, xr, xe, xb⟩ from by simp [stT, stR, stE, jumps])
        have HPR := Lib.hid (HPX.out.reg (by rfl))
        obtain ⟨r, rfl⟩ : ∃ r : Nat, rg = r := ⟨rg.toNat, by have := HPR.out.1; dsimp only at this; omega⟩
        have hr4 : r < xr.length := by have h := HPR.out.2; have h' := HXR.out; dsimp only at h h'; omega
        obtain ⟨z, hz⟩ : ∃ z, z = xr[r] := ⟨_, rfl⟩
        have HZE := Lib.hid (show nth xr (r : Int) = z from by rw [hz]; unfold nth; simp [hr4])
        have HRG0 := Lib.hid (show ∃ br fr c, vr = .slice (some ⟨br, fr, none⟩) xr.length c ∧ br < B ∧ w.cell? ⟨br, fr + r, none⟩ = some (.int .i64 z) from by
          obtain ⟨Ar, car, e, -, -, -, hr3⟩ := hRg
          obtain ⟨br, fr, e2, hbr, hcr⟩ := nu_at (c := car) hr3 (by omega)
          subst e e2
          exact ⟨br, fr, car, rfl, hbr, by rw [hz]; exact hcr r hr4⟩)
        clear hz
        have HF3 := Lib.hid (show tsS ⟨3, (r : Int), (l : Int), nn, tn⟩ s k ⟨xa, xr, xe, xb⟩ = ⟨s.mem, s.ths.set k ⟨xa + 1, xr, xe, xb ++ [⟨(l : Int), z⟩]⟩⟩ from by simp [tsS, HZE.out])
        have HQ1' := HQ1
        have i0 := HQ1.out.cell 0 _ rfl
        have n0 := HN.out.cell 0 _ rfl
        have nf := HN.out.frozen 0
        go_upto_region 23 with fail
        obtain ⟨X5, hX5⟩ : ∃ W, W = X4.setCell ⟨gn, 0, none⟩ (.slice Am s.mem.length cm) := ⟨_, rfl⟩
        have HN5 := Lib.hid (show BoxC X5 gn 33 #[.slice Am s.mem.length cm, .slice Vn s.ths.length vn] from by rw [hX5]; exact HN.out.set 0 _)
        have HMO := Lib.hid (show OwnI W3.heap.size X4 (.slice Am s.mem.length cm) s.mem from own_below HOS.out.mem (chain HL2.out HL4.out))
        have HMX := Lib.hid (show OwnI W3.heap.size X2 (.slice Am s.mem.length cm) s.mem from own_below HOS.out.mem HL2.out)
        have HO5 := Lib.hid (show OwnSt W3.heap.size X5 (.slice Am s.mem.length cm) (.slice Vn s.ths.length vn) ⟨s.mem, s.ths.set k (stT ⟨3, (r : Int), (l : Int), nn, tn⟩ s.mem ⟨xa, xr, xe, xb⟩)⟩ ps2 from by
          rw [hX5]
          exact ((HO4.out.base (Nat.le_trans HL3.out.size HL2.out.size)).memRow HMO.out (fun p hp => ap_new HMX.out (HO4.out.each p hp).1 (Nat.le_refl _))).box HN.out (by decide) (by decide) (by decide) 0 _)
        have HGNE := Lib.hid (show gn ≠ gr from by have h1 := HR.out.lt; have h2 := HGN.out; have h3 := HL3.out.size; have h4 := HL2.out.size; omega)
        have HQ95 := Lib.hid (show BoxC X5 g9 39 _ from by rw [hX5]; exact HQ9.out.other (HQ9.out.unlike HN.out (by decide)) _ _)
        have HRR5 := Lib.hid (show BoxC X5 gr 33 #[.slice none 0 0, .slice none 0 0] from by rw [hX5]; exact HRR.out.other (Ne.symm HGNE.out) _ _)
        have HGW := Lib.hid (show W3.heap.size ≤ gn from Nat.le_trans HL3.out.size (Nat.le_trans HL2.out.size HGN.out))
        have HB35 := Lib.hid (show Below W3.heap.size W3 X5 from by rw [hX5]; exact (chain HL3.out (chain HL2.out HL4.out)).setCell (p := ⟨gn, 0, none⟩) HGW.out _)
        have HB5 := Lib.hid (show Below w.heap.size w X5 from by rw [hX5]; exact HBX.out.setCell (p := ⟨gn, 0, none⟩) (Nat.le_trans HB3.out.size HGW.out) _)
        rw [← hX5]
        clear hX5 i0 n0 nf p0
        obtain ⟨vr2, vb2, hpk⟩ := HO5.out.pk (k := k) (by simpa using hks)
        simp only [List.getElem_set_self] at hpk
        obtain ⟨hkp, hpe⟩ := List.getElem?_eq_some_iff.1 hpk
        obtain ⟨gt, cv', cur, hev, hgt, hbv, t0, t1, t2, t3⟩ := HO5.out.row hkp
        rw [List.length_set] at hev
        injection hev with hev1 hev3 hev2
        clear hev3
        subst hev1 hev2
        rw [hpe] at t1 t3
        have HPK' := Lib.hid hpk
        have HOE := Lib.hid (HO5.out.each _ (List.getElem_mem hkp))
        rw [hpe] at HOE
        have HBV := Lib.hid hbv
        have HGT := Lib.hid hgt
        clear hpk hbv hgt hpe t0 t2
        dsimp only at HOE
        rw [HT.out] at HOE HPK'
        rw [HT.out] at HO5
        have o1 := HN5.out.cell 1 _ rfl
        have y1 := (HY.out.below HB35.out HY.out.lt).cell 1 _ rfl
        have b3 := ((HB5.out.mono hBB).cell (p := ⟨b1, f1 + k * 4 + 3, none⟩) hb1).trans HC3.out
        have p2 := HQ95.out.cell 2 _ rfl
        have p1 := HQ95.out.cell 1 _ rfl
        obtain ⟨br, fr, car, hvr, hbr, hcr⟩ := HRG0.out
        have bb2 := ((HB5.out.mono hBB).cell (p := ⟨b1, f1 + k * 4 + 1, none⟩) hb1).trans b2
        rw [hvr] at bb2
        have rr := ((HB5.out.mono hBB).cell (p := ⟨br, fr + r, none⟩) hbr).trans hcr
        clear t1
        have HT3 := Lib.hid t3
        clear t3
        refine wp_region_held_drew (S := (fun w' => w'.cell? ⟨gn, 1, none⟩ = some (.slice (some ⟨gt, 0, none⟩) s.ths.length vn) ∧ w'.cell? ⟨gs, 1, none⟩ = some (.slice (some ⟨b1, f1, none⟩) s.ths.length c1) ∧ w'.cell? ⟨b1, f1 + k * 4 + 3, none⟩ = some (.slice Ab xb.length cb) ∧ w'.cell? ⟨g9, 2, none⟩ = some (.int .i64 (l : Int)) ∧ w'.cell? ⟨g9, 1, none⟩ = some (.int .i64 (r : Int)) ∧ w'.cell? ⟨b1, f1 + k * 4 + 1, none⟩ = some (.slice (some ⟨br, fr, none⟩) xr.length car) ∧ w'.cell? ⟨br, fr + r, none⟩ = some (.int .i64 z) ∧ True)) (by kernel_rfl) ⟨o1, y1, b3, p2, p1, bb2, rr, trivial⟩ (fun hHeld => ?_)
        obtain ⟨X6, hX6⟩ : ∃ W, W = X5.drew := ⟨_, rfl⟩
        have HB6 := Lib.hid (show Below X5.heap.size X5 X6 from by rw [hX6]; exact below_drewN (Below.refl _ _) 1)
        rw [← hX6] at hHeld ⊢
        clear hX6
        refine wpAnyH_take (i := 0) (v := ?_) rfl (by kernel_rfl) (by kernel_rfl) (by kernel_rfl) (fun _ _ _ h => h) (Or.inl ⟨by rfl, ?_⟩) (by assumption) ?_
        rotate_left
        · intro w hSw; (try dsimp only at hSw); go_simp; (try with_reducible rfl)
        (try simp only [Act.put, pt8])
        refine wpAnyH_take (i := 1) (v := ?_) rfl (by kernel_rfl) (by kernel_rfl) (by kernel_rfl) (fun _ _ _ h => h) (Or.inl ⟨by rfl, ?_⟩) (by assumption) ?_
        rotate_left
        · intro w hSw; (try dsimp only at hSw); go_simp; (try with_reducible rfl)
        (try simp only [Act.put, pt8])
        refine wpAnyH_take (i := 2) (v := ?_) rfl (by kernel_rfl) (by kernel_rfl) (by kernel_rfl) (fun _ _ _ h => h) (Or.inl ⟨by rfl, ?_⟩) (by assumption) ?_
        rotate_left
        · intro w hSw; (try dsimp only at hSw); go_simp; (try with_reducible rfl)
        (try simp only [Act.put, pt8])
        refine wpAnyH_take (i := 3) (v := ?_) rfl (by kernel_rfl) (by kernel_rfl) (by kernel_rfl) (fun _ _ _ h => h) (Or.inl ⟨by rfl, ?_⟩) (by assumption) ?_
        rotate_left
        · intro w hSw; (try dsimp only at hSw); go_simp; (try with_reducible rfl)
        (try simp only [Act.put, pt8])
        refine wpAnyH_take (i := 4) (v := ?_) rfl (by kernel_rfl) (by kernel_rfl) (by kernel_rfl) (fun _ _ _ h => h) (Or.inl ⟨by rfl, ?_⟩) (by assumption) ?_
        rotate_left
        · intro w hSw; (try dsimp only at hSw); go_simp; (try with_reducible rfl)
        (try simp only [Act.put, pt8])
        refine wpAnyH_take (i := 5) (v := ?_) rfl (by kernel_rfl) (by kernel_rfl) (by kernel_rfl) (fun _ _ _ h => h) (Or.inl ⟨by rfl, ?_⟩) (by assumption) ?_
        rotate_left
        · intro w hSw; (try dsimp only at hSw); go_simp; (try with_reducible rfl)
        (try simp only [Act.put, pt8])
        refine wpAnyH_take (i := 6) (v := ?_) rfl (by kernel_rfl) (by kernel_rfl) (by kernel_rfl) (fun _ _ _ h => h) (Or.inl ⟨by rfl, ?_⟩) (by assumption) ?_
        rotate_left
        · intro w hSw; (try dsimp only at hSw); go_simp; (try with_reducible rfl)
        (try simp only [Act.put, pt8])
        refine wpAnyH_take (i := 7) (v := ?_) rfl (by kernel_rfl) (by kernel_rfl) (by kernel_rfl) (fun _ _ _ h => h) (Or.inl ⟨by rfl, ?_⟩) (by assumption) ?_
        rotate_left
        · intro w hSw; (try dsimp only at hSw); go_simp; (try with_reducible rfl)
        (try simp only [Act.put, pt8])
        refine wpAnyH_take (i := 8) (v := ?_) rfl (by kernel_rfl) (by kernel_rfl) (by kernel_rfl) (fun _ _ _ h => h) (Or.inl ⟨by rfl, ?_⟩) (by assumption) ?_
        rotate_left
        · intro w hSw; (try dsimp only at hSw); go_simp; (try with_reducible rfl)
        (try simp only [Act.put, pt8])
        refine wpAnyH_take (i := 9) (v := ?_) rfl (by kernel_rfl) (by kernel_rfl) (by kernel_rfl) (fun _ _ _ h => h) (Or.inl ⟨by rfl, ?_⟩) (by assumption) ?_
        rotate_left
        · intro w hSw; (try dsimp only at hSw); go_simp; (try with_reducible rfl)
        (try simp only [Act.put, pt8])
        refine wpAnyH_take (i := 10) (v := ?_) rfl (by kernel_rfl) (by kernel_rfl) (by kernel_rfl) (fun _ _ _ h => h) (Or.inl ⟨by rfl, ?_⟩) (by assumption) ?_
        rotate_left
        · intro w hSw; (try dsimp only at hSw); go_simp; (try with_reducible rfl)
        (try simp only [Act.put, pt8])
        refine wpAnyH_take (i := 11) (v := ?_) rfl (by kernel_rfl) (by kernel_rfl) (by kernel_rfl) (fun _ _ _ h => h) (Or.inl ⟨by rfl, ?_⟩) (by assumption) ?_
        rotate_left
        · intro w hSw; (try dsimp only at hSw); go_simp; (try with_reducible rfl)
        (try simp only [Act.put, pt8])
        refine wpAnyH_take (i := 12) (v := ?_) rfl (by kernel_rfl) (by kernel_rfl) (by kernel_rfl) (fun _ _ _ h => h) (Or.inl ⟨by rfl, ?_⟩) (by assumption) ?_
        rotate_left
        · intro w hSw; (try dsimp only at hSw); go_simp; (try with_reducible rfl)
        (try simp only [Act.put, pt8])
        refine wpAnyH_take (i := 13) (v := ?_) rfl (by kernel_rfl) (by kernel_rfl) (by kernel_rfl) (fun _ _ _ h => h) (Or.inl ⟨by rfl, ?_⟩) (by assumption) ?_
        rotate_left
        · intro w hSw; (try dsimp only at hSw); go_simp; (try with_reducible rfl)
        (try simp only [Act.put, pt8])
        refine wpAnyH_take (i := 14) (v := ?_) rfl (by kernel_rfl) (by kernel_rfl) (by kernel_rfl) (fun _ _ _ h => h) (Or.inl ⟨by rfl, ?_⟩) (by assumption) ?_
        rotate_left
        · intro w hSw; (try dsimp only at hSw); go_simp; (try with_reducible rfl)
        (try simp only [Act.put, pt8])
        refine wpAnyH_take (i := 15) (v := ?_) rfl (by kernel_rfl) (by kernel_rfl) (by kernel_rfl) (fun _ _ _ h => h) (Or.inl ⟨by rfl, ?_⟩) (by assumption) ?_
        rotate_left
        · intro w hSw; (try dsimp only at hSw); go_simp; (try with_reducible rfl)
        (try simp only [Act.put, pt8])
        refine wpAnyH_take (i := 16) (v := ?_) rfl (by kernel_rfl) (by kernel_rfl) (by kernel_rfl) (fun _ _ _ h => h) (Or.inl ⟨by rfl, ?_⟩) (by assumption) ?_
        rotate_left
        · intro w hSw; (try dsimp only at hSw); go_simp; (try with_reducible rfl)
        (try simp only [Act.put, pt8])
        refine wpAnyH_take (i := 17) (v := ?_) rfl (by kernel_rfl) (by kernel_rfl) (by kernel_rfl) (fun _ _ _ h => h) (Or.inl ⟨by rfl, ?_⟩) (by assumption) ?_
        rotate_left
        · intro w hSw; (try dsimp only at hSw); go_simp; (try with_reducible rfl)
        (try simp only [Act.put, pt8])
        refine wpAnyH_take (i := 18) (v := ?_) rfl (by kernel_rfl) (by kernel_rfl) (by kernel_rfl) (fun _ _ _ h => h) (Or.inl ⟨by rfl, ?_⟩) (by assumption) ?_
        rotate_left
        · intro w hSw; (try dsimp only at hSw); go_simp; (try with_reducible rfl)
        (try simp only [Act.put, pt8])
        refine wpAnyH_take (i := 19) (v := ?_) rfl (by kernel_rfl) (by kernel_rfl) (by kernel_rfl) (fun _ _ _ h => h) (Or.inl ⟨by rfl, ?_⟩) (by assumption) ?_
        rotate_left
        · intro w hSw; (try dsimp only at hSw); go_simp; (try with_reducible rfl)
        (try simp only [Act.put, pt8])
        refine wpAnyH_take (i := 20) (v := ?_) rfl (by kernel_rfl) (by kernel_rfl) (by kernel_rfl) (fun _ _ _ h => h) (Or.inl ⟨by rfl, ?_⟩) (by assumption) ?_
        rotate_left
        · intro w hSw; (try dsimp only at hSw); go_simp; (try with_reducible rfl)
        (try simp only [Act.put, pt8])
        refine wpAnyH_take (i := 21) (v := ?_) rfl (by kernel_rfl) (by kernel_rfl) (by kernel_rfl) (fun _ _ _ h => h) (Or.inl ⟨by rfl, ?_⟩) (by assumption) ?_
        rotate_left
        · intro w hSw; (try dsimp only at hSw); go_simp; (try with_reducible rfl)
        (try simp only [Act.put, pt8])
        refine wpAnyH_ready (rs := [22]) (by kernel_rfl) (by simp) ?_
        refine AllReadyH.cons rfl (fun K hK => ?_) AllReadyH.nil
        obtain ⟨q0, q1, q2, q3, q4, q5, q6, -⟩ := hHeld
        go_simp
        refine (HPU.out X6 ⟨(l : Int), z⟩ (chain HB5.out HB6.out)).mono ?_
        rintro e X7 ⟨vu, rfl, hou, hb⟩
        obtain ⟨Bn, bn, rfl⟩ := own_slice (n := xb.length + 1) (show X7.ownsRow _ _ 2 vu (xb.length + 1) _ from by have e := hou; unfold OwnW at e; rw [List.length_append] at e; exact e)
        have HOU := Lib.hid (show OwnW X5.heap.size X7 _ _ from own_base hou HB6.out.size)
        have HB7 := Lib.hid (show Below X5.heap.size X5 X7 from chain HB6.out hb)
        refine hK.out _ _ ⟨kc hb q0, kc hb q1, kc hb q2, kc hb q3, kc hb q4, kc hb q5, kc hb q6, trivial⟩ (fun hHeld => ?_)
        clear q0 q1 q2 q3 q4 q5 q6
        clear hK K
        (try simp only [Act.put, pt8])
        clear hb hou
        have HBV7 := Lib.hid (HBV.out.below HB7.out HBV.out.lt)
        have v7 := HBV7.out.frozen (k * 4 + 3)
        have e7 := kc HB7.out HT3.out
        have HNa := Lib.hid ((HN5.out.below HB7.out HN5.out.lt).unlike HBV7.out (by decide))
        have HNb := Lib.hid (show gs ≠ gt from by have h1 := HY.out.lt; have h2 := HGT.out; omega)
        have HNc := Lib.hid (show b1 ≠ gt from by have h1 := hb1; have h2 := HGT.out; have h3 := HB3.out.size; omega)
        have HNd := Lib.hid ((HQ95.out.below HB7.out HQ95.out.lt).unlike HBV7.out (by decide))
        have HNe := Lib.hid (show br ≠ gt from by have h2 := HGT.out; have h3 := HB3.out.size; omega)
        refine wpAnyH_take (i := 23) (v := ?_) rfl (by kernel_rfl) (by kernel_rfl) (by kernel_rfl) (fun _ _ _ h => h) (Or.inl ⟨by rfl, ?_⟩) (by assumption) ?_
        rotate_left
        · intro w hSw; (try dsimp only at hSw); go_simp; (try with_reducible rfl)
        (try simp only [Act.put, pt8])
        refine wpAnyH_take (i := 24) (v := ?_) rfl (by kernel_rfl) (by kernel_rfl) (by kernel_rfl) (fun _ _ _ h => h) (Or.inl ⟨by rfl, ?_⟩) (by assumption) ?_
        rotate_left
        · intro w hSw; (try dsimp only at hSw); go_simp; (try with_reducible rfl)
        (try simp only [Act.put, pt8])
        refine wpAnyH_ready (rs := [25]) (by kernel_rfl) (by simp) ?_
        refine AllReadyH.cons rfl (fun K hK => ?_) AllReadyH.nil
        obtain ⟨q0, q1, q2, q3, q4, q5, q6, -⟩ := hHeld
        go_simp
        refine hK.out _ _ ⟨st_ne HNa.out q0, st_ne HNb.out q1, st_ne HNc.out q2, st_ne HNd.out q3, st_ne HNd.out q4, st_ne HNc.out q5, st_ne HNe.out q6, trivial⟩ (fun hHeld => ?_)
        clear q0 q1 q2 q3 q4 q5 q6 v7 e7
        clear hK K
        (try simp only [Act.put, pt8])
        refine wpAnyH_done (by kernel_rfl) ?_ _
        clear hHeld o1 y1 b3 p2 p1 bb2 rr
        obtain ⟨X8, hX8⟩ : ∃ W, W = X7.setCell ⟨gt, k * 4 + 3, none⟩ (.slice Bn (xb.length + 1) bn) := ⟨_, rfl⟩
        have HO8 := Lib.hid (show OwnSt W3.heap.size X8 (.slice Am s.mem.length cm) (.slice (some ⟨gt, 0, none⟩) s.ths.length vn) ⟨s.mem, s.ths.set k ⟨xa + 1, xr, xe, xb ++ [⟨(l : Int), z⟩]⟩⟩ (ps2.set k ⟨⟨xa + 1, xr, xe, xb ++ [⟨(l : Int), z⟩]⟩, vr2, .slice Bn (xb.length + 1) bn⟩) from by
          rw [hX8]
          have := (HO5.out.below HB7.out).setVB' HPK'.out (own_base HOU.out HB35.out.size)
          exact this.cast (by rw [List.set_set]))
        have HN8 := Lib.hid (show BoxC X8 gn 33 #[.slice Am s.mem.length cm, .slice (some ⟨gt, 0, none⟩) s.ths.length vn] from by rw [hX8]; exact (HN5.out.below HB7.out HN5.out.lt).other ((HN5.out.below HB7.out HN5.out.lt).unlike (HBV.out.below HB7.out HBV.out.lt) (by decide)) _ _)
        have HRR := Lib.hid (show BoxC X8 gr 33 #[.slice none 0 0, .slice none 0 0] from by rw [hX8]; exact (HRR5.out.below HB7.out HRR5.out.lt).other ((HRR5.out.below HB7.out HRR5.out.lt).unlike (HBV.out.below HB7.out HBV.out.lt) (by decide)) _ _)
        have HB8 := Lib.hid (show Below w.heap.size w X8 from by rw [hX8]; exact (chain HB5.out HB7.out).setCell (p := ⟨gt, k * 4 + 3, none⟩) (Nat.le_trans HB3.out.size HGT.out) _)
        rw [← hX8]
        clear hX8
        have z0 := HN8.out.cell 0 _ rfl
        have z1 := HN8.out.cell 1 _ rfl
        have r0 := HRR.out.cell 0 _ rfl
        have r1 := HRR.out.cell 1 _ rfl
        have f0 := HRR.out.frozen 0
        have f1 := HRR.out.frozen 1
        obtain ⟨W9, hW9⟩ : ∃ W, W = (X8.setCell ⟨gr, 0, none⟩ (.slice Am s.mem.length cm)).setCell ⟨gr, 1, none⟩ (.slice (some ⟨gt, 0, none⟩) s.ths.length vn) := ⟨_, rfl⟩
        have HR9 := Lib.hid (show BoxC W9 gr 33 #[(.slice Am s.mem.length cm), (.slice (some ⟨gt, 0, none⟩) s.ths.length vn)] from by rw [hW9]; exact (HRR.out.set 0 _).set 1 _)
        have HO9 := Lib.hid (show OwnSt W3.heap.size W9 (.slice Am s.mem.length cm) (.slice (some ⟨gt, 0, none⟩) s.ths.length vn) (tsS ⟨3, (r : Int), (l : Int), nn, tn⟩ s k ⟨xa, xr, xe, xb⟩) (ps2.set k ⟨⟨xa + 1, xr, xe, xb ++ [⟨(l : Int), z⟩]⟩, vr2, .slice Bn (xb.length + 1) bn⟩) from by
          rw [hW9]
          exact ((HO8.out.cast HF3.out.symm).box HRR.out (by decide) (by decide) (by decide) 0 _).box (HRR.out.set 0 _) (by decide) (by decide) (by decide) 1 _)
        have HB9 := Lib.hid (show Below w.heap.size w W9 from by rw [hW9]; exact (HB8.out.setCell (p := ⟨gr, 0, none⟩) HGR.out _).setCell (p := ⟨gr, 1, none⟩) HGR.out _)
        have HW9 := Lib.hid hW9
        clear hW9
        go_wp2_with fail
        rw [← HW9.out]
        clear r0 r1 f0 f1
        have r0 := HR9.out.cell 0 _ rfl
        have r1 := HR9.out.cell 1 _ rfl
        have hz := HCO.out
        refine bodyPost_ret (v := .tuple #[.agg #[(.slice Am s.mem.length cm), (.slice (some ⟨gt, 0, none⟩) s.ths.length vn)], .bool true]) (by simp [results, Try.results38, go_sem, r0, r1, hz]) rfl ⟨_, _, _, by rw [HF2.out]; rfl, (by rw [HF2.out]; exact HO9.out.base HB3.out.size), HB9.out⟩
      have e3 : ¬ ((op == 3) = true) := by simpa using h3
      by_cases h4 : op = 4
      · subst h4
        have HLO := Lib.hid (HPX.out.loc (by rfl))
        obtain ⟨l, rfl⟩ : ∃ l : Nat, lc = l := ⟨lc.toNat, by have h := HLO.out.1; dsimp only at h; omega⟩
        have HT := Lib.hid (show stT ⟨4, rg, (l : Int), nn, tn⟩ s.mem ⟨xa, xr, xe, xb⟩ = ⟨xa + 1, xr, xe, xb⟩ from by simp [stT, stR, stE, jumps])
        obtain ⟨z, hz⟩ : ∃ z, z = nn := ⟨_, rfl⟩
        have HZE := Lib.hid hz.symm
        clear hz
        have HF3 := Lib.hid (show tsS ⟨4, rg, (l : Int), nn, tn⟩ s k ⟨xa, xr, xe, xb⟩ = ⟨s.mem, s.ths.set k ⟨xa + 1, xr, xe, xb ++ [⟨(l : Int), z⟩]⟩⟩ from by simp [tsS, HZE.out])
        have HQ1' := HQ1
        have i0 := HQ1.out.cell 0 _ rfl
        have n0 := HN.out.cell 0 _ rfl
        have nf := HN.out.frozen 0
        go_upto_region 26 with fail
        obtain ⟨X5, hX5⟩ : ∃ W, W = X4.setCell ⟨gn, 0, none⟩ (.slice Am s.mem.length cm) := ⟨_, rfl⟩
        have HN5 := Lib.hid (show BoxC X5 gn 33 #[.slice Am s.mem.length cm, .slice Vn s.ths.length vn] from by rw [hX5]; exact HN.out.set 0 _)
        have HMO := Lib.hid (show OwnI W3.heap.size X4 (.slice Am s.mem.length cm) s.mem from own_below HOS.out.mem (chain HL2.out HL4.out))
        have HMX := Lib.hid (show OwnI W3.heap.size X2 (.slice Am s.mem.length cm) s.mem from own_below HOS.out.mem HL2.out)
        have HO5 := Lib.hid (show OwnSt W3.heap.size X5 (.slice Am s.mem.length cm) (.slice Vn s.ths.length vn) ⟨s.mem, s.ths.set k (stT ⟨4, rg, (l : Int), nn, tn⟩ s.mem ⟨xa, xr, xe, xb⟩)⟩ ps2 from by
          rw [hX5]
          exact ((HO4.out.base (Nat.le_trans HL3.out.size HL2.out.size)).memRow HMO.out (fun p hp => ap_new HMX.out (HO4.out.each p hp).1 (Nat.le_refl _))).box HN.out (by decide) (by decide) (by decide) 0 _)
        have HGNE := Lib.hid (show gn ≠ gr from by have h1 := HR.out.lt; have h2 := HGN.out; have h3 := HL3.out.size; have h4 := HL2.out.size; omega)
        have HQ95 := Lib.hid (show BoxC X5 g9 39 _ from by rw [hX5]; exact HQ9.out.other (HQ9.out.unlike HN.out (by decide)) _ _)
        have HRR5 := Lib.hid (show BoxC X5 gr 33 #[.slice none 0 0, .slice none 0 0] from by rw [hX5]; exact HRR.out.other (Ne.symm HGNE.out) _ _)
        have HGW := Lib.hid (show W3.heap.size ≤ gn from Nat.le_trans HL3.out.size (Nat.le_trans HL2.out.size HGN.out))
        have HB35 := Lib.hid (show Below W3.heap.size W3 X5 from by rw [hX5]; exact (chain HL3.out (chain HL2.out HL4.out)).setCell (p := ⟨gn, 0, none⟩) HGW.out _)
        have HB5 := Lib.hid (show Below w.heap.size w X5 from by rw [hX5]; exact HBX.out.setCell (p := ⟨gn, 0, none⟩) (Nat.le_trans HB3.out.size HGW.out) _)
        rw [← hX5]
        clear hX5 i0 n0 nf p0
        obtain ⟨vr2, vb2, hpk⟩ := HO5.out.pk (k := k) (by simpa using hks)
        simp only [List.getElem_set_self] at hpk
        obtain ⟨hkp, hpe⟩ := List.getElem?_eq_some_iff.1 hpk
        obtain ⟨gt, cv', cur, hev, hgt, hbv, t0, t1, t2, t3⟩ := HO5.out.row hkp
        rw [List.length_set] at hev
        injection hev with hev1 hev3 hev2
        clear hev3
        subst hev1 hev2
        rw [hpe] at t1 t3
        have HPK' := Lib.hid hpk
        have HOE := Lib.hid (HO5.out.each _ (List.getElem_mem hkp))
        rw [hpe] at HOE
        have HBV := Lib.hid hbv
        have HGT := Lib.hid hgt
        clear hpk hbv hgt hpe t0 t2
        dsimp only at HOE
        rw [HT.out] at HOE HPK'
        rw [HT.out] at HO5
        have o1 := HN5.out.cell 1 _ rfl
        have y1 := (HY.out.below HB35.out HY.out.lt).cell 1 _ rfl
        have b3 := ((HB5.out.mono hBB).cell (p := ⟨b1, f1 + k * 4 + 3, none⟩) hb1).trans HC3.out
        have p2 := HQ95.out.cell 2 _ rfl
        have p3 := HQ95.out.cell 3 _ rfl
        skip
        clear t1
        have HT3 := Lib.hid t3
        clear t3
        refine wp_region_held_drew (S := (fun w' => w'.cell? ⟨gn, 1, none⟩ = some (.slice (some ⟨gt, 0, none⟩) s.ths.length vn) ∧ w'.cell? ⟨gs, 1, none⟩ = some (.slice (some ⟨b1, f1, none⟩) s.ths.length c1) ∧ w'.cell? ⟨b1, f1 + k * 4 + 3, none⟩ = some (.slice Ab xb.length cb) ∧ w'.cell? ⟨g9, 2, none⟩ = some (.int .i64 (l : Int)) ∧ w'.cell? ⟨g9, 3, none⟩ = some (.int .i64 nn) ∧ True)) (by kernel_rfl) ⟨o1, y1, b3, p2, p3, trivial⟩ (fun hHeld => ?_)
        obtain ⟨X6, hX6⟩ : ∃ W, W = X5.drew := ⟨_, rfl⟩
        have HB6 := Lib.hid (show Below X5.heap.size X5 X6 from by rw [hX6]; exact below_drewN (Below.refl _ _) 1)
        rw [← hX6] at hHeld ⊢
        clear hX6
        refine wpAnyH_take (i := 0) (v := ?_) rfl (by kernel_rfl) (by kernel_rfl) (by kernel_rfl) (fun _ _ _ h => h) (Or.inl ⟨by rfl, ?_⟩) (by assumption) ?_
        rotate_left
        · intro w hSw; (try dsimp only at hSw); go_simp; (try with_reducible rfl)
        (try simp only [Act.put, pt8])
        refine wpAnyH_take (i := 1) (v := ?_) rfl (by kernel_rfl) (by kernel_rfl) (by kernel_rfl) (fun _ _ _ h => h) (Or.inl ⟨by rfl, ?_⟩) (by assumption) ?_
        rotate_left
        · intro w hSw; (try dsimp only at hSw); go_simp; (try with_reducible rfl)
        (try simp only [Act.put, pt8])
        refine wpAnyH_take (i := 2) (v := ?_) rfl (by kernel_rfl) (by kernel_rfl) (by kernel_rfl) (fun _ _ _ h => h) (Or.inl ⟨by rfl, ?_⟩) (by assumption) ?_
        rotate_left
        · intro w hSw; (try dsimp only at hSw); go_simp; (try with_reducible rfl)
        (try simp only [Act.put, pt8])
        refine wpAnyH_take (i := 3) (v := ?_) rfl (by kernel_rfl) (by kernel_rfl) (by kernel_rfl) (fun _ _ _ h => h) (Or.inl ⟨by rfl, ?_⟩) (by assumption) ?_
        rotate_left
        · intro w hSw; (try dsimp only at hSw); go_simp; (try with_reducible rfl)
        (try simp only [Act.put, pt8])
        refine wpAnyH_take (i := 4) (v := ?_) rfl (by kernel_rfl) (by kernel_rfl) (by kernel_rfl) (fun _ _ _ h => h) (Or.inl ⟨by rfl, ?_⟩) (by assumption) ?_
        rotate_left
        · intro w hSw; (try dsimp only at hSw); go_simp; (try with_reducible rfl)
        (try simp only [Act.put, pt8])
        refine wpAnyH_take (i := 5) (v := ?_) rfl (by kernel_rfl) (by kernel_rfl) (by kernel_rfl) (fun _ _ _ h => h) (Or.inl ⟨by rfl, ?_⟩) (by assumption) ?_
        rotate_left
        · intro w hSw; (try dsimp only at hSw); go_simp; (try with_reducible rfl)
        (try simp only [Act.put, pt8])
        refine wpAnyH_take (i := 6) (v := ?_) rfl (by kernel_rfl) (by kernel_rfl) (by kernel_rfl) (fun _ _ _ h => h) (Or.inl ⟨by rfl, ?_⟩) (by assumption) ?_
        rotate_left
        · intro w hSw; (try dsimp only at hSw); go_simp; (try with_reducible rfl)
        (try simp only [Act.put, pt8])
        refine wpAnyH_take (i := 7) (v := ?_) rfl (by kernel_rfl) (by kernel_rfl) (by kernel_rfl) (fun _ _ _ h => h) (Or.inl ⟨by rfl, ?_⟩) (by assumption) ?_
        rotate_left
        · intro w hSw; (try dsimp only at hSw); go_simp; (try with_reducible rfl)
        (try simp only [Act.put, pt8])
        refine wpAnyH_take (i := 8) (v := ?_) rfl (by kernel_rfl) (by kernel_rfl) (by kernel_rfl) (fun _ _ _ h => h) (Or.inl ⟨by rfl, ?_⟩) (by assumption) ?_
        rotate_left
        · intro w hSw; (try dsimp only at hSw); go_simp; (try with_reducible rfl)
        (try simp only [Act.put, pt8])
        refine wpAnyH_take (i := 9) (v := ?_) rfl (by kernel_rfl) (by kernel_rfl) (by kernel_rfl) (fun _ _ _ h => h) (Or.inl ⟨by rfl, ?_⟩) (by assumption) ?_
        rotate_left
        · intro w hSw; (try dsimp only at hSw); go_simp; (try with_reducible rfl)
        (try simp only [Act.put, pt8])
        refine wpAnyH_take (i := 10) (v := ?_) rfl (by kernel_rfl) (by kernel_rfl) (by kernel_rfl) (fun _ _ _ h => h) (Or.inl ⟨by rfl, ?_⟩) (by assumption) ?_
        rotate_left
        · intro w hSw; (try dsimp only at hSw); go_simp; (try with_reducible rfl)
        (try simp only [Act.put, pt8])
        refine wpAnyH_take (i := 11) (v := ?_) rfl (by kernel_rfl) (by kernel_rfl) (by kernel_rfl) (fun _ _ _ h => h) (Or.inl ⟨by rfl, ?_⟩) (by assumption) ?_
        rotate_left
        · intro w hSw; (try dsimp only at hSw); go_simp; (try with_reducible rfl)
        (try simp only [Act.put, pt8])
        refine wpAnyH_take (i := 12) (v := ?_) rfl (by kernel_rfl) (by kernel_rfl) (by kernel_rfl) (fun _ _ _ h => h) (Or.inl ⟨by rfl, ?_⟩) (by assumption) ?_
        rotate_left
        · intro w hSw; (try dsimp only at hSw); go_simp; (try with_reducible rfl)
        (try simp only [Act.put, pt8])
        refine wpAnyH_take (i := 13) (v := ?_) rfl (by kernel_rfl) (by kernel_rfl) (by kernel_rfl) (fun _ _ _ h => h) (Or.inl ⟨by rfl, ?_⟩) (by assumption) ?_
        rotate_left
        · intro w hSw; (try dsimp only at hSw); go_simp; (try with_reducible rfl)
        (try simp only [Act.put, pt8])
        refine wpAnyH_ready (rs := [14]) (by kernel_rfl) (by simp) ?_
        refine AllReadyH.cons rfl (fun K hK => ?_) AllReadyH.nil
        obtain ⟨q0, q1, q2, q3, q4, -⟩ := hHeld
        go_simp
        rw [HZE.out]
        refine (HPU.out X6 ⟨(l : Int), z⟩ (chain HB5.out HB6.out)).mono ?_
        rintro e X7 ⟨vu, rfl, hou, hb⟩
        obtain ⟨Bn, bn, rfl⟩ := own_slice (n := xb.length + 1) (show X7.ownsRow _ _ 2 vu (xb.length + 1) _ from by have e := hou; unfold OwnW at e; rw [List.length_append] at e; exact e)
        have HOU := Lib.hid (show OwnW X5.heap.size X7 _ _ from own_base hou HB6.out.size)
        have HB7 := Lib.hid (show Below X5.heap.size X5 X7 from chain HB6.out hb)
        refine hK.out _ _ ⟨kc hb q0, kc hb q1, kc hb q2, kc hb q3, kc hb q4, trivial⟩ (fun hHeld => ?_)
        clear q0 q1 q2 q3 q4
        clear hK K
        (try simp only [Act.put, pt8])
        clear hb hou
        have HBV7 := Lib.hid (HBV.out.below HB7.out HBV.out.lt)
        have v7 := HBV7.out.frozen (k * 4 + 3)
        have e7 := kc HB7.out HT3.out
        have HNa := Lib.hid ((HN5.out.below HB7.out HN5.out.lt).unlike HBV7.out (by decide))
        have HNb := Lib.hid (show gs ≠ gt from by have h1 := HY.out.lt; have h2 := HGT.out; omega)
        have HNc := Lib.hid (show b1 ≠ gt from by have h1 := hb1; have h2 := HGT.out; have h3 := HB3.out.size; omega)
        have HNd := Lib.hid ((HQ95.out.below HB7.out HQ95.out.lt).unlike HBV7.out (by decide))
        refine wpAnyH_take (i := 15) (v := ?_) rfl (by kernel_rfl) (by kernel_rfl) (by kernel_rfl) (fun _ _ _ h => h) (Or.inl ⟨by rfl, ?_⟩) (by assumption) ?_
        rotate_left
        · intro w hSw; (try dsimp only at hSw); go_simp; (try with_reducible rfl)
        (try simp only [Act.put, pt8])
        refine wpAnyH_take (i := 16) (v := ?_) rfl (by kernel_rfl) (by kernel_rfl) (by kernel_rfl) (fun _ _ _ h => h) (Or.inl ⟨by rfl, ?_⟩) (by assumption) ?_
        rotate_left
        · intro w hSw; (try dsimp only at hSw); go_simp; (try with_reducible rfl)
        (try simp only [Act.put, pt8])
        refine wpAnyH_ready (rs := [17]) (by kernel_rfl) (by simp) ?_
        refine AllReadyH.cons rfl (fun K hK => ?_) AllReadyH.nil
        obtain ⟨q0, q1, q2, q3, q4, -⟩ := hHeld
        go_simp
        refine hK.out _ _ ⟨st_ne HNa.out q0, st_ne HNb.out q1, st_ne HNc.out q2, st_ne HNd.out q3, st_ne HNd.out q4, trivial⟩ (fun hHeld => ?_)
        clear q0 q1 q2 q3 q4 v7 e7
        clear hK K
        (try simp only [Act.put, pt8])
        refine wpAnyH_done (by kernel_rfl) ?_ _
        clear hHeld o1 y1 b3 p2 p3
        obtain ⟨X8, hX8⟩ : ∃ W, W = X7.setCell ⟨gt, k * 4 + 3, none⟩ (.slice Bn (xb.length + 1) bn) := ⟨_, rfl⟩
        have HO8 := Lib.hid (show OwnSt W3.heap.size X8 (.slice Am s.mem.length cm) (.slice (some ⟨gt, 0, none⟩) s.ths.length vn) ⟨s.mem, s.ths.set k ⟨xa + 1, xr, xe, xb ++ [⟨(l : Int), z⟩]⟩⟩ (ps2.set k ⟨⟨xa + 1, xr, xe, xb ++ [⟨(l : Int), z⟩]⟩, vr2, .slice Bn (xb.length + 1) bn⟩) from by
          rw [hX8]
          have := (HO5.out.below HB7.out).setVB' HPK'.out (own_base HOU.out HB35.out.size)
          exact this.cast (by rw [List.set_set]))
        have HN8 := Lib.hid (show BoxC X8 gn 33 #[.slice Am s.mem.length cm, .slice (some ⟨gt, 0, none⟩) s.ths.length vn] from by rw [hX8]; exact (HN5.out.below HB7.out HN5.out.lt).other ((HN5.out.below HB7.out HN5.out.lt).unlike (HBV.out.below HB7.out HBV.out.lt) (by decide)) _ _)
        have HRR := Lib.hid (show BoxC X8 gr 33 #[.slice none 0 0, .slice none 0 0] from by rw [hX8]; exact (HRR5.out.below HB7.out HRR5.out.lt).other ((HRR5.out.below HB7.out HRR5.out.lt).unlike (HBV.out.below HB7.out HBV.out.lt) (by decide)) _ _)
        have HB8 := Lib.hid (show Below w.heap.size w X8 from by rw [hX8]; exact (chain HB5.out HB7.out).setCell (p := ⟨gt, k * 4 + 3, none⟩) (Nat.le_trans HB3.out.size HGT.out) _)
        rw [← hX8]
        clear hX8
        have z0 := HN8.out.cell 0 _ rfl
        have z1 := HN8.out.cell 1 _ rfl
        have r0 := HRR.out.cell 0 _ rfl
        have r1 := HRR.out.cell 1 _ rfl
        have f0 := HRR.out.frozen 0
        have f1 := HRR.out.frozen 1
        obtain ⟨W9, hW9⟩ : ∃ W, W = (X8.setCell ⟨gr, 0, none⟩ (.slice Am s.mem.length cm)).setCell ⟨gr, 1, none⟩ (.slice (some ⟨gt, 0, none⟩) s.ths.length vn) := ⟨_, rfl⟩
        have HR9 := Lib.hid (show BoxC W9 gr 33 #[(.slice Am s.mem.length cm), (.slice (some ⟨gt, 0, none⟩) s.ths.length vn)] from by rw [hW9]; exact (HRR.out.set 0 _).set 1 _)
        have HO9 := Lib.hid (show OwnSt W3.heap.size W9 (.slice Am s.mem.length cm) (.slice (some ⟨gt, 0, none⟩) s.ths.length vn) (tsS ⟨4, rg, (l : Int), nn, tn⟩ s k ⟨xa, xr, xe, xb⟩) (ps2.set k ⟨⟨xa + 1, xr, xe, xb ++ [⟨(l : Int), z⟩]⟩, vr2, .slice Bn (xb.length + 1) bn⟩) from by
          rw [hW9]
          exact ((HO8.out.cast HF3.out.symm).box HRR.out (by decide) (by decide) (by decide) 0 _).box (HRR.out.set 0 _) (by decide) (by decide) (by decide) 1 _)
        have HB9 := Lib.hid (show Below w.heap.size w W9 from by rw [hW9]; exact (HB8.out.setCell (p := ⟨gr, 0, none⟩) HGR.out _).setCell (p := ⟨gr, 1, none⟩) HGR.out _)
        have HW9 := Lib.hid hW9
        clear hW9
        go_wp2_with fail
        rw [← HW9.out]
        clear r0 r1 f0 f1
        have r0 := HR9.out.cell 0 _ rfl
        have r1 := HR9.out.cell 1 _ rfl
        have hz := HCO.out
        refine bodyPost_ret (v := .tuple #[.agg #[(.slice Am s.mem.length cm), (.slice (some ⟨gt, 0, none⟩) s.ths.length vn)], .bool true]) (by simp [results, Try.results38, go_sem, r0, r1, hz]) rfl ⟨_, _, _, by rw [HF2.out]; rfl, (by rw [HF2.out]; exact HO9.out.base HB3.out.size), HB9.out⟩
      have e4 : ¬ ((op == 4) = true) := by simpa using h4
      have HF3 := Lib.hid (show tsS ⟨op, rg, lc, nn, tn⟩ s k ⟨xa, xr, xe, xb⟩ = ⟨stM ⟨op, rg, lc, nn, tn⟩ s.mem xr, s.ths.set k (stT ⟨op, rg, lc, nn, tn⟩ s.mem ⟨xa, xr, xe, xb⟩)⟩ from by unfold tsS; simp only [h2, h3, h4, if_false])
      clear h2 h3 h4
      go_upto_region 27 with fail
      clear p0 e2 e3 e4
      have z0 := HN.out.cell 0 _ rfl
      have z1 := HN.out.cell 1 _ rfl
      have r0 := HRR.out.cell 0 _ rfl
      have r1 := HRR.out.cell 1 _ rfl
      have f0 := HRR.out.frozen 0
      have f1 := HRR.out.frozen 1
      obtain ⟨W9, hW9⟩ : ∃ W, W = (X4.setCell ⟨gr, 0, none⟩ (.slice Mn s.mem.length mn)).setCell ⟨gr, 1, none⟩ (.slice Vn s.ths.length vn) := ⟨_, rfl⟩
      have HR9 := Lib.hid (show BoxC W9 gr 33 #[(.slice Mn s.mem.length mn), (.slice Vn s.ths.length vn)] from by rw [hW9]; exact (HRR.out.set 0 _).set 1 _)
      have HO9 := Lib.hid (show OwnSt W3.heap.size W9 (.slice Mn s.mem.length mn) (.slice Vn s.ths.length vn) (tsS ⟨op, rg, lc, nn, tn⟩ s k ⟨xa, xr, xe, xb⟩) ps2 from by
        rw [hW9]
        exact (((HO4.out.base (Nat.le_trans HL3.out.size HL2.out.size)).cast HF3.out.symm).box HRR.out (by decide) (by decide) (by decide) 0 _).box (HRR.out.set 0 _) (by decide) (by decide) (by decide) 1 _)
      have HB9 := Lib.hid (show Below w.heap.size w W9 from by rw [hW9]; exact (HBX.out.setCell (p := ⟨gr, 0, none⟩) HGR.out _).setCell (p := ⟨gr, 1, none⟩) HGR.out _)
      have HW9 := Lib.hid hW9
      clear hW9
      go_wp2_with fail
      rw [← HW9.out]
      clear r0 r1 f0 f1
      have r0 := HR9.out.cell 0 _ rfl
      have r1 := HR9.out.cell 1 _ rfl
      have hz := HCO.out
      refine bodyPost_ret (v := .tuple #[.agg #[(.slice Mn s.mem.length mn), (.slice Vn s.ths.length vn)], .bool true]) (by simp [results, Try.results38, go_sem, r0, r1, hz]) rfl ⟨_, _, _, by rw [HF2.out]; rfl, (by rw [HF2.out]; exact HO9.out.base HB3.out.size), HB9.out⟩

    · have HF2 := Lib.hid (show tst P s (k : Int) false = some (tsS ⟨op, rg, lc, nn, tn⟩ s k ⟨xa, xr, xe, xb⟩) from by rw [HFE.out, if_neg (by have : xb = [] := List.eq_nil_of_length_eq_zero (by omega); simp [stuck, this])])
      go_upto_region 16 with fail
      clear y1 b3 p0 z0 z1 HFE hbl
      have HBX := Lib.hid (chain HBF.out HL2.out)
      have x0 := ((HX.out.below HL3.out HX.out.lt).below HL2.out (HX.out.below HL3.out HX.out.lt).lt).cell 0 _ rfl
      have x1 := ((HX.out.below HL3.out HX.out.lt).below HL2.out (HX.out.below HL3.out HX.out.lt).lt).cell 1 _ rfl
      have y0 := ((HY.out.below HL3.out HY.out.lt).below HL2.out (HY.out.below HL3.out HY.out.lt).lt).cell 0 _ rfl
      have y1 := ((HY.out.below HL3.out HY.out.lt).below HL2.out (HY.out.below HL3.out HY.out.lt).lt).cell 1 _ rfl
      go_wp2_with fail
      refine (HST.out _ HBX.out).mono ?_
      rintro e w3 ⟨vm2, vt2, ps2, rfl, hos2, hb3⟩
      rw [HAE.out]
      rw [HSE.out] at hos2
      obtain ⟨Mn, mn, rfl⟩ := own_slice (n := s.mem.length) (show w3.ownsRow _ _ 1 vm2 s.mem.length _ from by have e := hos2.mem; unfold OwnI at e; rwa [stM_len] at e)
      obtain ⟨Vn, vn, rfl⟩ := own_slice (n := s.ths.length) (by have e := hos2.ths; rwa [List.length_set] at e)
      have HO2 := Lib.hid hos2
      have HB4 := Lib.hid hb3
      clear hos2 hb3 x0 x1 y0 y1 HST
      go_upto_region 17 with fail
      obtain ⟨X4, hX4⟩ : ∃ W, W = w3.alloc (.cells #[.slice Mn s.mem.length mn, .slice Vn s.ths.length vn] 33) := ⟨_, rfl⟩
      obtain ⟨gn, hgn⟩ : ∃ g, g = w3.heap.size := ⟨_, rfl⟩
      have HN := Lib.hid (show BoxC X4 gn 33 #[.slice Mn s.mem.length mn, .slice Vn s.ths.length vn] from by rw [hX4, hgn]; exact BoxC.new w3 _ _)
      have HL4 := Lib.hid (show Below X2.heap.size X2 X4 from by rw [hX4]; exact below_al HB4.out _)
      have HO4 := Lib.hid (show OwnSt X2.heap.size X4 (.slice Mn s.mem.length mn) (.slice Vn s.ths.length vn) ⟨stM ⟨op, rg, lc, nn, tn⟩ s.mem xr, s.ths.set k (stT ⟨op, rg, lc, nn, tn⟩ s.mem ⟨xa, xr, xe, xb⟩)⟩ ps2 from by rw [hX4]; exact HO2.out.below (below_al (Below.refl _ _) _))
      have HGN := Lib.hid (show X2.heap.size ≤ gn from by rw [hgn]; exact HB4.out.size)
      rw [← hX4]
      (try rw [← hgn])
      clear hX4 hgn HO2 HB4
      replace HQ9 := Lib.hid (HQ9.out.below HL4.out HQ9.out.lt)
      replace HRR := Lib.hid (HRR.out.below HL4.out HRR.out.lt)
      replace HQ1 := Lib.hid (HQ1.out.below HL4.out HQ1.out.lt)
      replace HBX := Lib.hid (chain HBX.out HL4.out)
      have p0 := HQ9.out.cell 0 _ rfl
      by_cases h2 : op = 2
      · subst h2
        have HPR := Lib.hid (HPX.out.reg (by rfl))
        have HF3 := Lib.hid (show tsS ⟨2, rg, lc, nn, tn⟩ s k ⟨xa, xr, xe, xb⟩ = ⟨s.mem, s.ths.set k ⟨xa + 1, xr.set rg.toNat ((BfM.view xb s.mem lc).getD 0), xe, xb⟩⟩ from by unfold tsS; rw [if_pos rfl])
        obtain ⟨n9, b9, HVV⟩ : ∃ n b, Hid (viewV xb s.mem lc = .tuple #[.int .i64 n, .bool b] ∧ n = (BfM.view xb s.mem lc).getD 0) := by
          unfold viewV
          cases BfM.view xb s.mem lc with
          | none => exact ⟨0, false, Lib.hid ⟨rfl, rfl⟩⟩
          | some n => exact ⟨n, true, Lib.hid ⟨rfl, rfl⟩⟩
        have y0 := (((HY.out.below HL3.out HY.out.lt).below HL2.out (HY.out.below HL3.out HY.out.lt).lt).below HL4.out ((HY.out.below HL3.out HY.out.lt).below HL2.out (HY.out.below HL3.out HY.out.lt).lt).lt).cell 0 _ rfl
        have y1 := (((HY.out.below HL3.out HY.out.lt).below HL2.out (HY.out.below HL3.out HY.out.lt).lt).below HL4.out ((HY.out.below HL3.out HY.out.lt).below HL2.out (HY.out.below HL3.out HY.out.lt).lt).lt).cell 1 _ rfl
        have b3 := ((HBX.out.mono hBB).cell (p := ⟨b1, f1 + k * 4 + 3, none⟩) hb1).trans HC3.out
        have p2 := HQ9.out.cell 2 _ rfl
        go_upto_region 19 with fail
        refine wp_region_held_drew (S := (fun w' => w'.cell? ⟨gs, 0, none⟩ = some (.slice A7 s.mem.length c7) ∧ w'.cell? ⟨gs, 1, none⟩ = some (.slice (some ⟨b1, f1, none⟩) s.ths.length c1) ∧ w'.cell? ⟨b1, f1 + k * 4 + 3, none⟩ = some (.slice Ab xb.length cb) ∧ w'.cell? ⟨g9, 2, none⟩ = some (.int .i64 lc) ∧ Below X4.heap.size X4 w')) (by kernel_rfl) ⟨y0, y1, b3, p2, below_drewN (Below.refl _ _) 1⟩ (fun hHeld => ?_)
        obtain ⟨Xs, hXs⟩ : ∃ W, W = X4.drew := ⟨_, rfl⟩
        rw [← hXs] at hHeld ⊢
        clear hXs
        refine wpAnyH_take (i := 0) (v := ?_) rfl (by kernel_rfl) (by kernel_rfl) (by kernel_rfl) (fun _ _ _ h => h) (Or.inl ⟨by rfl, ?_⟩) (by assumption) ?_
        rotate_left
        · intro w hSw; (try dsimp only at hSw); go_simp; (try with_reducible rfl)
        (try simp only [Act.put, pt8])
        refine wpAnyH_take (i := 1) (v := ?_) rfl (by kernel_rfl) (by kernel_rfl) (by kernel_rfl) (fun _ _ _ h => h) (Or.inl ⟨by rfl, ?_⟩) (by assumption) ?_
        rotate_left
        · intro w hSw; (try dsimp only at hSw); go_simp; (try with_reducible rfl)
        (try simp only [Act.put, pt8])
        refine wpAnyH_take (i := 2) (v := ?_) rfl (by kernel_rfl) (by kernel_rfl) (by kernel_rfl) (fun _ _ _ h => h) (Or.inl ⟨by rfl, ?_⟩) (by assumption) ?_
        rotate_left
        · intro w hSw; (try dsimp only at hSw); go_simp; (try with_reducible rfl)
        (try simp only [Act.put, pt8])
        refine wpAnyH_take (i := 3) (v := ?_) rfl (by kernel_rfl) (by kernel_rfl) (by kernel_rfl) (fun _ _ _ h => h) (Or.inl ⟨by rfl, ?_⟩) (by assumption) ?_
        rotate_left
        · intro w hSw; (try dsimp only at hSw); go_simp; (try with_reducible rfl)
        (try simp only [Act.put, pt8])
        refine wpAnyH_take (i := 4) (v := ?_) rfl (by kernel_rfl) (by kernel_rfl) (by kernel_rfl) (fun _ _ _ h => h) (Or.inl ⟨by rfl, ?_⟩) (by assumption) ?_
        rotate_left
        · intro w hSw; (try dsimp only at hSw); go_simp; (try with_reducible rfl)
        (try simp only [Act.put, pt8])
        refine wpAnyH_take (i := 5) (v := ?_) rfl (by kernel_rfl) (by kernel_rfl) (by kernel_rfl) (fun _ _ _ h => h) (Or.inl ⟨by rfl, ?_⟩) (by assumption) ?_
        rotate_left
        · intro w hSw; (try dsimp only at hSw); go_simp; (try with_reducible rfl)
        (try simp only [Act.put, pt8])
        refine wpAnyH_take (i := 6) (v := ?_) rfl (by kernel_rfl) (by kernel_rfl) (by kernel_rfl) (fun _ _ _ h => h) (Or.inl ⟨by rfl, ?_⟩) (by assumption) ?_
        rotate_left
        · intro w hSw; (try dsimp only at hSw); go_simp; (try with_reducible rfl)
        (try simp only [Act.put, pt8])
        refine wpAnyH_take (i := 7) (v := ?_) rfl (by kernel_rfl) (by kernel_rfl) (by kernel_rfl) (fun _ _ _ h => h) (Or.inl ⟨by rfl, ?_⟩) (by assumption) ?_
        rotate_left
        · intro w hSw; (try dsimp only at hSw); go_simp; (try with_reducible rfl)
        (try simp only [Act.put, pt8])
        refine wpAnyH_take (i := 8) (v := ?_) rfl (by kernel_rfl) (by kernel_rfl) (by kernel_rfl) (fun _ _ _ h => h) (Or.inl ⟨by rfl, ?_⟩) (by assumption) ?_
        rotate_left
        · intro w hSw; (try dsimp only at hSw); go_simp; (try with_reducible rfl)
        (try simp only [Act.put, pt8])
        refine wpAnyH_take (i := 9) (v := ?_) rfl (by kernel_rfl) (by kernel_rfl) (by kernel_rfl) (fun _ _ _ h => h) (Or.inl ⟨by rfl, ?_⟩) (by assumption) ?_
        rotate_left
        · intro w hSw; (try dsimp only at hSw); go_simp; (try with_reducible rfl)
        (try simp only [Act.put, pt8])
        refine wpAnyH_ready (rs := [10]) (by kernel_rfl) (by simp) ?_
        refine AllReadyH.cons rfl (fun K hK => ?_) AllReadyH.nil
        obtain ⟨q0, q1, q2, q3, q4⟩ := hHeld
        go_simp
        refine (HVW.out _ (chain HBX.out q4)).mono ?_
        rintro e X5 ⟨rfl, hb⟩
        rw [HVV.out.1]
        have HB5 := Lib.hid (show Below X4.heap.size X4 X5 from chain q4 hb)
        refine hK.out _ _ ⟨kc hb q0, kc hb q1, kc hb q2, kc hb q3, chain q4 hb⟩ (fun hHeld => ?_)
        clear q0 q1 q2 q3 q4
        clear hK K
        (try simp only [Act.put, pt8])
        clear hb
        refine wpAnyH_take (i := 11) (v := ?_) rfl (by kernel_rfl) (by kernel_rfl) (by kernel_rfl) (fun _ _ _ h => h) (Or.inl ⟨by rfl, ?_⟩) (by assumption) ?_
        rotate_left
        · intro w hSw; (try dsimp only at hSw); go_simp; (try with_reducible rfl)
        (try simp only [Act.put, pt8])
        refine wpAnyH_take (i := 12) (v := ?_) rfl (by kernel_rfl) (by kernel_rfl) (by kernel_rfl) (fun _ _ _ h => h) (Or.inl ⟨by rfl, ?_⟩) (by assumption) ?_
        rotate_left
        · intro w hSw; (try dsimp only at hSw); go_simp; (try with_reducible rfl)
        (try simp only [Act.put, pt8])
        refine wpAnyH_take (i := 13) (v := ?_) rfl (by kernel_rfl) (by kernel_rfl) (by kernel_rfl) (fun _ _ _ h => h) (Or.inl ⟨by rfl, ?_⟩) (by assumption) ?_
        rotate_left
        · intro w hSw; (try dsimp only at hSw); go_simp; (try with_reducible rfl)
        (try simp only [Act.put, pt8])
        refine wpAnyH_ready (rs := [14]) (by kernel_rfl) (by simp) ?_
        refine AllReadyH.cons rfl (fun K hK => ?_) AllReadyH.nil
        go_simp
        refine hK.out _ _ hHeld (fun hHeld => ?_)
        clear hK K
        (try simp only [Act.put, pt8])
        refine wpAnyH_ready (rs := [15]) (by kernel_rfl) (by simp) ?_
        refine AllReadyH.cons rfl (fun K hK => ?_) AllReadyH.nil
        go_simp
        refine hK.out _ _ hHeld (fun hHeld => ?_)
        clear hK K
        (try simp only [Act.put, pt8])
        refine wpAnyH_done (by kernel_rfl) ?_ _
        clear hHeld y0 y1 b3 p0 p2
        obtain ⟨j, rfl⟩ : ∃ j : Nat, rg = j := ⟨rg.toNat, by have := HPR.out.1; dsimp only at this; omega⟩
        have hj4 : j < xr.length := by have h := HPR.out.2; have h' := HXR.out; dsimp only at h h'; omega
        have HT := Lib.hid (show stT ⟨2, (j : Int), lc, nn, tn⟩ s.mem ⟨xa, xr, xe, xb⟩ = ⟨xa + 1, xr.set j (nth s.mem lc), xe, xb⟩ from by simp [stT, stR, stE, jumps])
        have HM := Lib.hid (show ScM.stM ⟨2, (j : Int), lc, nn, tn⟩ s.mem xr = s.mem from by simp [ScM.stM])
        have HO5 := Lib.hid (HO4.out.below HB5.out)
        have HN5 := Lib.hid (HN.out.below HB5.out HN.out.lt)
        have HQ95 := Lib.hid (HQ9.out.below HB5.out HQ9.out.lt)
        have HRR5 := Lib.hid (HRR.out.below HB5.out HRR.out.lt)
        rw [HM.out] at HO5
        obtain ⟨vr2, vb2, hpk⟩ := HO5.out.pk (k := k) (by simpa using hks)
        simp only [List.getElem_set_self] at hpk
        obtain ⟨hkp, hpe⟩ := List.getElem?_eq_some_iff.1 hpk
        obtain ⟨gt, cv', cur, hev, hgt, hbv, t0, t1, t2, t3⟩ := HO5.out.row hkp
        rw [List.length_set] at hev
        injection hev with hev1 hev3 hev2
        clear hev3
        subst hev1 hev2
        rw [hpe] at t1 t3
        have HPK' := Lib.hid hpk
        have HOE := Lib.hid (HO5.out.each _ (List.getElem_mem hkp))
        rw [hpe] at HOE
        have HBV := Lib.hid hbv
        have HGT := Lib.hid hgt
        clear hpk hbv hgt hpe t0 t2
        dsimp only at HOE
        rw [HT.out] at HOE HPK'
        rw [HT.out] at HO5
        obtain ⟨gv, cr, curr, hvr, hgv, hbr, hcr⟩ := own_nu (l := xr.set j (nth s.mem lc)) HOE.out.1 (j := j) (by simpa using hj4)
        subst hvr
        have HBR := Lib.hid hbr
        have HGV := Lib.hid hgv
        have HCR := Lib.hid hcr
        clear hbr hgv hcr t3
        have HN1 := Lib.hid (HBV.out.unlike HBR.out (by decide))
        have HN2 := Lib.hid (HQ95.out.unlike HBR.out (by decide))
        have HN3 := Lib.hid (HN5.out.unlike HBR.out (by decide))
        have o1 := HN5.out.cell 1 _ rfl
        have p1 := HQ95.out.cell 1 _ rfl
        go_upto_region 20 with fail
        refine wp_region_held_drew (S := (fun w' => w'.cell? ⟨gn, 1, none⟩ = some (.slice (some ⟨gt, 0, none⟩) s.ths.length vn) ∧ w'.cell? ⟨gt, k * 4 + 1, none⟩ = some (.slice (some ⟨gv, 0, none⟩) (xr.set j (nth s.mem lc)).length cr) ∧ w'.cell? ⟨g9, 1, none⟩ = some (.int .i64 (j : Int)) ∧ True)) (by kernel_rfl) ⟨o1, t1, p1, trivial⟩ (fun hHeld => ?_)
        obtain ⟨X6, hX6⟩ : ∃ W, W = X5.drew := ⟨_, rfl⟩
        have HB6 := Lib.hid (show Below X5.heap.size X5 X6 from by rw [hX6]; exact below_drewN (Below.refl _ _) 1)
        rw [← hX6] at hHeld ⊢
        clear hX6
        refine wpAnyH_take (i := 0) (v := ?_) rfl (by kernel_rfl) (by kernel_rfl) (by kernel_rfl) (fun _ _ _ h => h) (Or.inl ⟨by rfl, ?_⟩) (by assumption) ?_
        rotate_left
        · intro w hSw; (try dsimp only at hSw); go_simp; (try with_reducible rfl)
        (try simp only [Act.put, pt8])
        refine wpAnyH_take (i := 1) (v := ?_) rfl (by kernel_rfl) (by kernel_rfl) (by kernel_rfl) (fun _ _ _ h => h) (Or.inl ⟨by rfl, ?_⟩) (by assumption) ?_
        rotate_left
        · intro w hSw; (try dsimp only at hSw); go_simp; (try with_reducible rfl)
        (try simp only [Act.put, pt8])
        refine wpAnyH_take (i := 2) (v := ?_) rfl (by kernel_rfl) (by kernel_rfl) (by kernel_rfl) (fun _ _ _ h => h) (Or.inl ⟨by rfl, ?_⟩) (by assumption) ?_
        rotate_left
        · intro w hSw; (try dsimp only at hSw); go_simp; (try with_reducible rfl)
        (try simp only [Act.put, pt8])
        refine wpAnyH_take (i := 3) (v := ?_) rfl (by kernel_rfl) (by kernel_rfl) (by kernel_rfl) (fun _ _ _ h => h) (Or.inl ⟨by rfl, ?_⟩) (by assumption) ?_
        rotate_left
        · intro w hSw; (try dsimp only at hSw); go_simp; (try with_reducible rfl)
        (try simp only [Act.put, pt8])
        refine wpAnyH_take (i := 4) (v := ?_) rfl (by kernel_rfl) (by kernel_rfl) (by kernel_rfl) (fun _ _ _ h => h) (Or.inl ⟨by rfl, ?_⟩) (by assumption) ?_
        rotate_left
        · intro w hSw; (try dsimp only at hSw); go_simp; (try with_reducible rfl)
        (try simp only [Act.put, pt8])
        refine wpAnyH_take (i := 5) (v := ?_) rfl (by kernel_rfl) (by kernel_rfl) (by kernel_rfl) (fun _ _ _ h => h) (Or.inl ⟨by rfl, ?_⟩) (by assumption) ?_
        rotate_left
        · intro w hSw; (try dsimp only at hSw); go_simp; (try with_reducible rfl)
        (try simp only [Act.put, pt8])
        refine wpAnyH_take (i := 6) (v := ?_) rfl (by kernel_rfl) (by kernel_rfl) (by kernel_rfl) (fun _ _ _ h => h) (Or.inl ⟨by rfl, ?_⟩) (by assumption) ?_
        rotate_left
        · intro w hSw; (try dsimp only at hSw); go_simp; (try with_reducible rfl)
        (try simp only [Act.put, pt8])
        refine wpAnyH_take (i := 7) (v := ?_) rfl (by kernel_rfl) (by kernel_rfl) (by kernel_rfl) (fun _ _ _ h => h) (Or.inl ⟨by rfl, ?_⟩) (by assumption) ?_
        rotate_left
        · intro w hSw; (try dsimp only at hSw); go_simp; (try with_reducible rfl)
        (try simp only [Act.put, pt8])
        refine wpAnyH_take (i := 8) (v := ?_) rfl (by kernel_rfl) (by kernel_rfl) (by kernel_rfl) (fun _ _ _ h => h) (Or.inl ⟨by rfl, ?_⟩) (by assumption) ?_
        rotate_left
        · intro w hSw; (try dsimp only at hSw); go_simp; (try with_reducible rfl)
        (try simp only [Act.put, pt8])
        refine wpAnyH_take (i := 9) (v := ?_) rfl (by kernel_rfl) (by kernel_rfl) (by kernel_rfl) (fun _ _ _ h => h) (Or.inl ⟨by rfl, ?_⟩) (by assumption) ?_
        rotate_left
        · intro w hSw; (try dsimp only at hSw); go_simp; (try with_reducible rfl)
        (try simp only [Act.put, pt8])
        refine wpAnyH_ready (rs := [10]) (by kernel_rfl) (by simp) ?_
        refine AllReadyH.cons rfl (fun K hK => ?_) AllReadyH.nil
        obtain ⟨q0, q1, q2, -⟩ := hHeld
        have v6 := (HBR.out.below HB6.out HBR.out.lt).frozen j
        have e6 := kc HB6.out HCR.out
        go_simp
        refine hK.out _ _ ⟨st_ne HN3.out q0, st_ne HN1.out q1, st_ne HN2.out q2, trivial⟩ (fun hHeld => ?_)
        clear q0 q1 q2 v6 e6
        clear hK K
        (try simp only [Act.put, pt8])
        refine wpAnyH_done (by kernel_rfl) ?_ _
        clear hHeld o1 p1 t1
        obtain ⟨X7, hX7⟩ : ∃ W, W = X6.setCell ⟨gv, j, none⟩ (.int .i64 n9) := ⟨_, rfl⟩
        have HO7 := Lib.hid (show OwnSt X2.heap.size X7 (.slice Mn s.mem.length mn) (.slice (some ⟨gt, 0, none⟩) s.ths.length vn) ⟨s.mem, s.ths.set k ⟨xa + 1, xr.set j n9, xe, xb⟩⟩ (ps2.set k ⟨⟨xa + 1, (xr.set j (nth s.mem lc)).set j n9, xe, xb⟩, .slice (some ⟨gv, 0, none⟩) (xr.set j (nth s.mem lc)).length cr, vb2⟩) from by
          rw [hX7]
          have := own_setR (j := j) (z := n9) (HO5.out.below HB6.out) HPK'.out
          exact this.cast (by rw [List.set_set, List.set_set]))
        have HN7 := Lib.hid (show BoxC X7 gn 33 #[.slice Mn s.mem.length mn, .slice (some ⟨gt, 0, none⟩) s.ths.length vn] from by rw [hX7]; exact (HN5.out.below HB6.out HN5.out.lt).other HN3.out _ _)
        have HRR := Lib.hid (show BoxC X7 gr 33 #[.slice none 0 0, .slice none 0 0] from by rw [hX7]; exact (HRR5.out.below HB6.out HRR5.out.lt).other ((HRR5.out.below HB6.out HRR5.out.lt).unlike (HBR.out.below HB6.out HBR.out.lt) (by decide)) _ _)
        have HB7 := Lib.hid (show Below w.heap.size w X7 from by rw [hX7]; exact (chain HBX.out (chain HB5.out HB6.out)).setCell (p := ⟨gv, j, none⟩) (Nat.le_trans HB3.out.size (Nat.le_trans HL3.out.size (Nat.le_trans HL2.out.size HGV.out))) _)
        have HF4 := Lib.hid (show tsS ⟨2, (j : Int), lc, nn, tn⟩ s k ⟨xa, xr, xe, xb⟩ = ⟨s.mem, s.ths.set k ⟨xa + 1, xr.set j n9, xe, xb⟩⟩ from by rw [HF3.out, HVV.out.2]; simp)
        rw [← hX7]
        clear hX7
        have z0 := HN7.out.cell 0 _ rfl
        have z1 := HN7.out.cell 1 _ rfl
        have r0 := HRR.out.cell 0 _ rfl
        have r1 := HRR.out.cell 1 _ rfl
        have f0 := HRR.out.frozen 0
        have f1 := HRR.out.frozen 1
        obtain ⟨W9, hW9⟩ : ∃ W, W = (X7.setCell ⟨gr, 0, none⟩ (.slice Mn s.mem.length mn)).setCell ⟨gr, 1, none⟩ (.slice (some ⟨gt, 0, none⟩) s.ths.length vn) := ⟨_, rfl⟩
        have HR9 := Lib.hid (show BoxC W9 gr 33 #[(.slice Mn s.mem.length mn), (.slice (some ⟨gt, 0, none⟩) s.ths.length vn)] from by rw [hW9]; exact (HRR.out.set 0 _).set 1 _)
        have HO9 := Lib.hid (show OwnSt W3.heap.size W9 (.slice Mn s.mem.length mn) (.slice (some ⟨gt, 0, none⟩) s.ths.length vn) (tsS ⟨2, (j : Int), lc, nn, tn⟩ s k ⟨xa, xr, xe, xb⟩) (ps2.set k ⟨⟨xa + 1, (xr.set j (nth s.mem lc)).set j n9, xe, xb⟩, .slice (some ⟨gv, 0, none⟩) (xr.set j (nth s.mem lc)).length cr, vb2⟩) from by
          rw [hW9]
          exact (((HO7.out.base (Nat.le_trans HL3.out.size HL2.out.size)).cast HF4.out.symm).box HRR.out (by decide) (by decide) (by decide) 0 _).box (HRR.out.set 0 _) (by decide) (by decide) (by decide) 1 _)
        have HB9 := Lib.hid (show Below w.heap.size w W9 from by rw [hW9]; exact (HB7.out.setCell (p := ⟨gr, 0, none⟩) HGR.out _).setCell (p := ⟨gr, 1, none⟩) HGR.out _)
        have HW9 := Lib.hid hW9
        clear hW9
        go_wp2_with fail
        rw [← HW9.out]
        clear r0 r1 f0 f1
        have r0 := HR9.out.cell 0 _ rfl
        have r1 := HR9.out.cell 1 _ rfl
        have hz := HCO.out
        refine bodyPost_ret (v := .tuple #[.agg #[(.slice Mn s.mem.length mn), (.slice (some ⟨gt, 0, none⟩) s.ths.length vn)], .bool true]) (by simp [results, Try.results38, go_sem, r0, r1, hz]) rfl ⟨_, _, _, by rw [HF2.out]; rfl, (by rw [HF2.out]; exact HO9.out.base HB3.out.size), HB9.out⟩
      have e2 : ¬ ((op == 2) = true) := by simpa using h2
      by_cases h3 : op = 3
      · subst h3
        have HLO := Lib.hid (HPX.out.loc (by rfl))
        obtain ⟨l, rfl⟩ : ∃ l : Nat, lc = l := ⟨lc.toNat, by have h := HLO.out.1; dsimp only at h; omega⟩
        have HT := Lib.hid (show stT ⟨3, rg, (l : Int), nn, tn⟩ s.mem ⟨xa, xr, xe, xb⟩ = ⟨xa + 1, xr, xe, xb⟩ from by simp [stT, stR, stE, jumps])
        have HPR := Lib.hid (HPX.out.reg (by rfl))
        obtain ⟨r, rfl⟩ : ∃ r : Nat, rg = r := ⟨rg.toNat, by have := HPR.out.1; dsimp only at this; omega⟩
        have hr4 : r < xr.length := by have h := HPR.out.2; have h' := HXR.out; dsimp only at h h'; omega
        obtain ⟨z, hz⟩ : ∃ z, z = xr[r] := ⟨_, rfl⟩
        have HZE := Lib.hid (show nth xr (r : Int) = z from by rw [hz]; unfold nth; simp [hr4])
        have HRG0 := Lib.hid (show ∃ br fr c, vr = .slice (some ⟨br, fr, none⟩) xr.length c ∧ br < B ∧ w.cell? ⟨br, fr + r, none⟩ = some (.int .i64 z) from by
          obtain ⟨Ar, car, e, -, -, -, hr3⟩ := hRg
          obtain ⟨br, fr, e2, hbr, hcr⟩ := nu_at (c := car) hr3 (by omega)
          subst e e2
          exact ⟨br, fr, car, rfl, hbr, by rw [hz]; exact hcr r hr4⟩)
        clear hz
        have HF3 := Lib.hid (show tsS ⟨3, (r : Int), (l : Int), nn, tn⟩ s k ⟨xa, xr, xe, xb⟩ = ⟨s.mem, s.ths.set k ⟨xa + 1, xr, xe, xb ++ [⟨(l : Int), z⟩]⟩⟩ from by simp [tsS, HZE.out])
        have HQ1' := HQ1
        have i0 := HQ1.out.cell 0 _ rfl
        have n0 := HN.out.cell 0 _ rfl
        have nf := HN.out.frozen 0
        go_upto_region 23 with fail
        obtain ⟨X5, hX5⟩ : ∃ W, W = X4.setCell ⟨gn, 0, none⟩ (.slice Am s.mem.length cm) := ⟨_, rfl⟩
        have HN5 := Lib.hid (show BoxC X5 gn 33 #[.slice Am s.mem.length cm, .slice Vn s.ths.length vn] from by rw [hX5]; exact HN.out.set 0 _)
        have HMO := Lib.hid (show OwnI W3.heap.size X4 (.slice Am s.mem.length cm) s.mem from own_below HOS.out.mem (chain HL2.out HL4.out))
        have HMX := Lib.hid (show OwnI W3.heap.size X2 (.slice Am s.mem.length cm) s.mem from own_below HOS.out.mem HL2.out)
        have HO5 := Lib.hid (show OwnSt W3.heap.size X5 (.slice Am s.mem.length cm) (.slice Vn s.ths.length vn) ⟨s.mem, s.ths.set k (stT ⟨3, (r : Int), (l : Int), nn, tn⟩ s.mem ⟨xa, xr, xe, xb⟩)⟩ ps2 from by
          rw [hX5]
          exact ((HO4.out.base (Nat.le_trans HL3.out.size HL2.out.size)).memRow HMO.out (fun p hp => ap_new HMX.out (HO4.out.each p hp).1 (Nat.le_refl _))).box HN.out (by decide) (by decide) (by decide) 0 _)
        have HGNE := Lib.hid (show gn ≠ gr from by have h1 := HR.out.lt; have h2 := HGN.out; have h3 := HL3.out.size; have h4 := HL2.out.size; omega)
        have HQ95 := Lib.hid (show BoxC X5 g9 39 _ from by rw [hX5]; exact HQ9.out.other (HQ9.out.unlike HN.out (by decide)) _ _)
        have HRR5 := Lib.hid (show BoxC X5 gr 33 #[.slice none 0 0, .slice none 0 0] from by rw [hX5]; exact HRR.out.other (Ne.symm HGNE.out) _ _)
        have HGW := Lib.hid (show W3.heap.size ≤ gn from Nat.le_trans HL3.out.size (Nat.le_trans HL2.out.size HGN.out))
        have HB35 := Lib.hid (show Below W3.heap.size W3 X5 from by rw [hX5]; exact (chain HL3.out (chain HL2.out HL4.out)).setCell (p := ⟨gn, 0, none⟩) HGW.out _)
        have HB5 := Lib.hid (show Below w.heap.size w X5 from by rw [hX5]; exact HBX.out.setCell (p := ⟨gn, 0, none⟩) (Nat.le_trans HB3.out.size HGW.out) _)
        rw [← hX5]
        clear hX5 i0 n0 nf p0
        obtain ⟨vr2, vb2, hpk⟩ := HO5.out.pk (k := k) (by simpa using hks)
        simp only [List.getElem_set_self] at hpk
        obtain ⟨hkp, hpe⟩ := List.getElem?_eq_some_iff.1 hpk
        obtain ⟨gt, cv', cur, hev, hgt, hbv, t0, t1, t2, t3⟩ := HO5.out.row hkp
        rw [List.length_set] at hev
        injection hev with hev1 hev3 hev2
        clear hev3
        subst hev1 hev2
        rw [hpe] at t1 t3
        have HPK' := Lib.hid hpk
        have HOE := Lib.hid (HO5.out.each _ (List.getElem_mem hkp))
        rw [hpe] at HOE
        have HBV := Lib.hid hbv
        have HGT := Lib.hid hgt
        clear hpk hbv hgt hpe t0 t2
        dsimp only at HOE
        rw [HT.out] at HOE HPK'
        rw [HT.out] at HO5
        have o1 := HN5.out.cell 1 _ rfl
        have y1 := (HY.out.below HB35.out HY.out.lt).cell 1 _ rfl
        have b3 := ((HB5.out.mono hBB).cell (p := ⟨b1, f1 + k * 4 + 3, none⟩) hb1).trans HC3.out
        have p2 := HQ95.out.cell 2 _ rfl
        have p1 := HQ95.out.cell 1 _ rfl
        obtain ⟨br, fr, car, hvr, hbr, hcr⟩ := HRG0.out
        have bb2 := ((HB5.out.mono hBB).cell (p := ⟨b1, f1 + k * 4 + 1, none⟩) hb1).trans b2
        rw [hvr] at bb2
        have rr := ((HB5.out.mono hBB).cell (p := ⟨br, fr + r, none⟩) hbr).trans hcr
        clear t1
        have HT3 := Lib.hid t3
        clear t3
        refine wp_region_held_drew (S := (fun w' => w'.cell? ⟨gn, 1, none⟩ = some (.slice (some ⟨gt, 0, none⟩) s.ths.length vn) ∧ w'.cell? ⟨gs, 1, none⟩ = some (.slice (some ⟨b1, f1, none⟩) s.ths.length c1) ∧ w'.cell? ⟨b1, f1 + k * 4 + 3, none⟩ = some (.slice Ab xb.length cb) ∧ w'.cell? ⟨g9, 2, none⟩ = some (.int .i64 (l : Int)) ∧ w'.cell? ⟨g9, 1, none⟩ = some (.int .i64 (r : Int)) ∧ w'.cell? ⟨b1, f1 + k * 4 + 1, none⟩ = some (.slice (some ⟨br, fr, none⟩) xr.length car) ∧ w'.cell? ⟨br, fr + r, none⟩ = some (.int .i64 z) ∧ True)) (by kernel_rfl) ⟨o1, y1, b3, p2, p1, bb2, rr, trivial⟩ (fun hHeld => ?_)
        obtain ⟨X6, hX6⟩ : ∃ W, W = X5.drew := ⟨_, rfl⟩
        have HB6 := Lib.hid (show Below X5.heap.size X5 X6 from by rw [hX6]; exact below_drewN (Below.refl _ _) 1)
        rw [← hX6] at hHeld ⊢
        clear hX6
        refine wpAnyH_take (i := 0) (v := ?_) rfl (by kernel_rfl) (by kernel_rfl) (by kernel_rfl) (fun _ _ _ h => h) (Or.inl ⟨by rfl, ?_⟩) (by assumption) ?_
        rotate_left
        · intro w hSw; (try dsimp only at hSw); go_simp; (try with_reducible rfl)
        (try simp only [Act.put, pt8])
        refine wpAnyH_take (i := 1) (v := ?_) rfl (by kernel_rfl) (by kernel_rfl) (by kernel_rfl) (fun _ _ _ h => h) (Or.inl ⟨by rfl, ?_⟩) (by assumption) ?_
        rotate_left
        · intro w hSw; (try dsimp only at hSw); go_simp; (try with_reducible rfl)
        (try simp only [Act.put, pt8])
        refine wpAnyH_take (i := 2) (v := ?_) rfl (by kernel_rfl) (by kernel_rfl) (by kernel_rfl) (fun _ _ _ h => h) (Or.inl ⟨by rfl, ?_⟩) (by assumption) ?_
        rotate_left
        · intro w hSw; (try dsimp only at hSw); go_simp; (try with_reducible rfl)
        (try simp only [Act.put, pt8])
        refine wpAnyH_take (i := 3) (v := ?_) rfl (by kernel_rfl) (by kernel_rfl) (by kernel_rfl) (fun _ _ _ h => h) (Or.inl ⟨by rfl, ?_⟩) (by assumption) ?_
        rotate_left
        · intro w hSw; (try dsimp only at hSw); go_simp; (try with_reducible rfl)
        (try simp only [Act.put, pt8])
        refine wpAnyH_take (i := 4) (v := ?_) rfl (by kernel_rfl) (by kernel_rfl) (by kernel_rfl) (fun _ _ _ h => h) (Or.inl ⟨by rfl, ?_⟩) (by assumption) ?_
        rotate_left
        · intro w hSw; (try dsimp only at hSw); go_simp; (try with_reducible rfl)
        (try simp only [Act.put, pt8])
        refine wpAnyH_take (i := 5) (v := ?_) rfl (by kernel_rfl) (by kernel_rfl) (by kernel_rfl) (fun _ _ _ h => h) (Or.inl ⟨by rfl, ?_⟩) (by assumption) ?_
        rotate_left
        · intro w hSw; (try dsimp only at hSw); go_simp; (try with_reducible rfl)
        (try simp only [Act.put, pt8])
        refine wpAnyH_take (i := 6) (v := ?_) rfl (by kernel_rfl) (by kernel_rfl) (by kernel_rfl) (fun _ _ _ h => h) (Or.inl ⟨by rfl, ?_⟩) (by assumption) ?_
        rotate_left
        · intro w hSw; (try dsimp only at hSw); go_simp; (try with_reducible rfl)
        (try simp only [Act.put, pt8])
        refine wpAnyH_take (i := 7) (v := ?_) rfl (by kernel_rfl) (by kernel_rfl) (by kernel_rfl) (fun _ _ _ h => h) (Or.inl ⟨by rfl, ?_⟩) (by assumption) ?_
        rotate_left
        · intro w hSw; (try dsimp only at hSw); go_simp; (try with_reducible rfl)
        (try simp only [Act.put, pt8])
        refine wpAnyH_take (i := 8) (v := ?_) rfl (by kernel_rfl) (by kernel_rfl) (by kernel_rfl) (fun _ _ _ h => h) (Or.inl ⟨by rfl, ?_⟩) (by assumption) ?_
        rotate_left
        · intro w hSw; (try dsimp only at hSw); go_simp; (try with_reducible rfl)
        (try simp only [Act.put, pt8])
        refine wpAnyH_take (i := 9) (v := ?_) rfl (by kernel_rfl) (by kernel_rfl) (by kernel_rfl) (fun _ _ _ h => h) (Or.inl ⟨by rfl, ?_⟩) (by assumption) ?_
        rotate_left
        · intro w hSw; (try dsimp only at hSw); go_simp; (try with_reducible rfl)
        (try simp only [Act.put, pt8])
        refine wpAnyH_take (i := 10) (v := ?_) rfl (by kernel_rfl) (by kernel_rfl) (by kernel_rfl) (fun _ _ _ h => h) (Or.inl ⟨by rfl, ?_⟩) (by assumption) ?_
        rotate_left
        · intro w hSw; (try dsimp only at hSw); go_simp; (try with_reducible rfl)
        (try simp only [Act.put, pt8])
        refine wpAnyH_take (i := 11) (v := ?_) rfl (by kernel_rfl) (by kernel_rfl) (by kernel_rfl) (fun _ _ _ h => h) (Or.inl ⟨by rfl, ?_⟩) (by assumption) ?_
        rotate_left
        · intro w hSw; (try dsimp only at hSw); go_simp; (try with_reducible rfl)
        (try simp only [Act.put, pt8])
        refine wpAnyH_take (i := 12) (v := ?_) rfl (by kernel_rfl) (by kernel_rfl) (by kernel_rfl) (fun _ _ _ h => h) (Or.inl ⟨by rfl, ?_⟩) (by assumption) ?_
        rotate_left
        · intro w hSw; (try dsimp only at hSw); go_simp; (try with_reducible rfl)
        (try simp only [Act.put, pt8])
        refine wpAnyH_take (i := 13) (v := ?_) rfl (by kernel_rfl) (by kernel_rfl) (by kernel_rfl) (fun _ _ _ h => h) (Or.inl ⟨by rfl, ?_⟩) (by assumption) ?_
        rotate_left
        · intro w hSw; (try dsimp only at hSw); go_simp; (try with_reducible rfl)
        (try simp only [Act.put, pt8])
        refine wpAnyH_take (i := 14) (v := ?_) rfl (by kernel_rfl) (by kernel_rfl) (by kernel_rfl) (fun _ _ _ h => h) (Or.inl ⟨by rfl, ?_⟩) (by assumption) ?_
        rotate_left
        · intro w hSw; (try dsimp only at hSw); go_simp; (try with_reducible rfl)
        (try simp only [Act.put, pt8])
        refine wpAnyH_take (i := 15) (v := ?_) rfl (by kernel_rfl) (by kernel_rfl) (by kernel_rfl) (fun _ _ _ h => h) (Or.inl ⟨by rfl, ?_⟩) (by assumption) ?_
        rotate_left
        · intro w hSw; (try dsimp only at hSw); go_simp; (try with_reducible rfl)
        (try simp only [Act.put, pt8])
        refine wpAnyH_take (i := 16) (v := ?_) rfl (by kernel_rfl) (by kernel_rfl) (by kernel_rfl) (fun _ _ _ h => h) (Or.inl ⟨by rfl, ?_⟩) (by assumption) ?_
        rotate_left
        · intro w hSw; (try dsimp only at hSw); go_simp; (try with_reducible rfl)
        (try simp only [Act.put, pt8])
        refine wpAnyH_take (i := 17) (v := ?_) rfl (by kernel_rfl) (by kernel_rfl) (by kernel_rfl) (fun _ _ _ h => h) (Or.inl ⟨by rfl, ?_⟩) (by assumption) ?_
        rotate_left
        · intro w hSw; (try dsimp only at hSw); go_simp; (try with_reducible rfl)
        (try simp only [Act.put, pt8])
        refine wpAnyH_take (i := 18) (v := ?_) rfl (by kernel_rfl) (by kernel_rfl) (by kernel_rfl) (fun _ _ _ h => h) (Or.inl ⟨by rfl, ?_⟩) (by assumption) ?_
        rotate_left
        · intro w hSw; (try dsimp only at hSw); go_simp; (try with_reducible rfl)
        (try simp only [Act.put, pt8])
        refine wpAnyH_take (i := 19) (v := ?_) rfl (by kernel_rfl) (by kernel_rfl) (by kernel_rfl) (fun _ _ _ h => h) (Or.inl ⟨by rfl, ?_⟩) (by assumption) ?_
        rotate_left
        · intro w hSw; (try dsimp only at hSw); go_simp; (try with_reducible rfl)
        (try simp only [Act.put, pt8])
        refine wpAnyH_take (i := 20) (v := ?_) rfl (by kernel_rfl) (by kernel_rfl) (by kernel_rfl) (fun _ _ _ h => h) (Or.inl ⟨by rfl, ?_⟩) (by assumption) ?_
        rotate_left
        · intro w hSw; (try dsimp only at hSw); go_simp; (try with_reducible rfl)
        (try simp only [Act.put, pt8])
        refine wpAnyH_take (i := 21) (v := ?_) rfl (by kernel_rfl) (by kernel_rfl) (by kernel_rfl) (fun _ _ _ h => h) (Or.inl ⟨by rfl, ?_⟩) (by assumption) ?_
        rotate_left
        · intro w hSw; (try dsimp only at hSw); go_simp; (try with_reducible rfl)
        (try simp only [Act.put, pt8])
        refine wpAnyH_ready (rs := [22]) (by kernel_rfl) (by simp) ?_
        refine AllReadyH.cons rfl (fun K hK => ?_) AllReadyH.nil
        obtain ⟨q0, q1, q2, q3, q4, q5, q6, -⟩ := hHeld
        go_simp
        refine (HPU.out X6 ⟨(l : Int), z⟩ (chain HB5.out HB6.out)).mono ?_
        rintro e X7 ⟨vu, rfl, hou, hb⟩
        obtain ⟨Bn, bn, rfl⟩ := own_slice (n := xb.length + 1) (show X7.ownsRow _ _ 2 vu (xb.length + 1) _ from by have e := hou; unfold OwnW at e; rw [List.length_append] at e; exact e)
        have HOU := Lib.hid (show OwnW X5.heap.size X7 _ _ from own_base hou HB6.out.size)
        have HB7 := Lib.hid (show Below X5.heap.size X5 X7 from chain HB6.out hb)
        refine hK.out _ _ ⟨kc hb q0, kc hb q1, kc hb q2, kc hb q3, kc hb q4, kc hb q5, kc hb q6, trivial⟩ (fun hHeld => ?_)
        clear q0 q1 q2 q3 q4 q5 q6
        clear hK K
        (try simp only [Act.put, pt8])
        clear hb hou
        have HBV7 := Lib.hid (HBV.out.below HB7.out HBV.out.lt)
        have v7 := HBV7.out.frozen (k * 4 + 3)
        have e7 := kc HB7.out HT3.out
        have HNa := Lib.hid ((HN5.out.below HB7.out HN5.out.lt).unlike HBV7.out (by decide))
        have HNb := Lib.hid (show gs ≠ gt from by have h1 := HY.out.lt; have h2 := HGT.out; omega)
        have HNc := Lib.hid (show b1 ≠ gt from by have h1 := hb1; have h2 := HGT.out; have h3 := HB3.out.size; omega)
        have HNd := Lib.hid ((HQ95.out.below HB7.out HQ95.out.lt).unlike HBV7.out (by decide))
        have HNe := Lib.hid (show br ≠ gt from by have h2 := HGT.out; have h3 := HB3.out.size; omega)
        refine wpAnyH_take (i := 23) (v := ?_) rfl (by kernel_rfl) (by kernel_rfl) (by kernel_rfl) (fun _ _ _ h => h) (Or.inl ⟨by rfl, ?_⟩) (by assumption) ?_
        rotate_left
        · intro w hSw; (try dsimp only at hSw); go_simp; (try with_reducible rfl)
        (try simp only [Act.put, pt8])
        refine wpAnyH_take (i := 24) (v := ?_) rfl (by kernel_rfl) (by kernel_rfl) (by kernel_rfl) (fun _ _ _ h => h) (Or.inl ⟨by rfl, ?_⟩) (by assumption) ?_
        rotate_left
        · intro w hSw; (try dsimp only at hSw); go_simp; (try with_reducible rfl)
        (try simp only [Act.put, pt8])
        refine wpAnyH_ready (rs := [25]) (by kernel_rfl) (by simp) ?_
        refine AllReadyH.cons rfl (fun K hK => ?_) AllReadyH.nil
        obtain ⟨q0, q1, q2, q3, q4, q5, q6, -⟩ := hHeld
        go_simp
        refine hK.out _ _ ⟨st_ne HNa.out q0, st_ne HNb.out q1, st_ne HNc.out q2, st_ne HNd.out q3, st_ne HNd.out q4, st_ne HNc.out q5, st_ne HNe.out q6, trivial⟩ (fun hHeld => ?_)
        clear q0 q1 q2 q3 q4 q5 q6 v7 e7
        clear hK K
        (try simp only [Act.put, pt8])
        refine wpAnyH_done (by kernel_rfl) ?_ _
        clear hHeld o1 y1 b3 p2 p1 bb2 rr
        obtain ⟨X8, hX8⟩ : ∃ W, W = X7.setCell ⟨gt, k * 4 + 3, none⟩ (.slice Bn (xb.length + 1) bn) := ⟨_, rfl⟩
        have HO8 := Lib.hid (show OwnSt W3.heap.size X8 (.slice Am s.mem.length cm) (.slice (some ⟨gt, 0, none⟩) s.ths.length vn) ⟨s.mem, s.ths.set k ⟨xa + 1, xr, xe, xb ++ [⟨(l : Int), z⟩]⟩⟩ (ps2.set k ⟨⟨xa + 1, xr, xe, xb ++ [⟨(l : Int), z⟩]⟩, vr2, .slice Bn (xb.length + 1) bn⟩) from by
          rw [hX8]
          have := (HO5.out.below HB7.out).setVB' HPK'.out (own_base HOU.out HB35.out.size)
          exact this.cast (by rw [List.set_set]))
        have HN8 := Lib.hid (show BoxC X8 gn 33 #[.slice Am s.mem.length cm, .slice (some ⟨gt, 0, none⟩) s.ths.length vn] from by rw [hX8]; exact (HN5.out.below HB7.out HN5.out.lt).other ((HN5.out.below HB7.out HN5.out.lt).unlike (HBV.out.below HB7.out HBV.out.lt) (by decide)) _ _)
        have HRR := Lib.hid (show BoxC X8 gr 33 #[.slice none 0 0, .slice none 0 0] from by rw [hX8]; exact (HRR5.out.below HB7.out HRR5.out.lt).other ((HRR5.out.below HB7.out HRR5.out.lt).unlike (HBV.out.below HB7.out HBV.out.lt) (by decide)) _ _)
        have HB8 := Lib.hid (show Below w.heap.size w X8 from by rw [hX8]; exact (chain HB5.out HB7.out).setCell (p := ⟨gt, k * 4 + 3, none⟩) (Nat.le_trans HB3.out.size HGT.out) _)
        rw [← hX8]
        clear hX8
        have z0 := HN8.out.cell 0 _ rfl
        have z1 := HN8.out.cell 1 _ rfl
        have r0 := HRR.out.cell 0 _ rfl
        have r1 := HRR.out.cell 1 _ rfl
        have f0 := HRR.out.frozen 0
        have f1 := HRR.out.frozen 1
        obtain ⟨W9, hW9⟩ : ∃ W, W = (X8.setCell ⟨gr, 0, none⟩ (.slice Am s.mem.length cm)).setCell ⟨gr, 1, none⟩ (.slice (some ⟨gt, 0, none⟩) s.ths.length vn) := ⟨_, rfl⟩
        have HR9 := Lib.hid (show BoxC W9 gr 33 #[(.slice Am s.mem.length cm), (.slice (some ⟨gt, 0, none⟩) s.ths.length vn)] from by rw [hW9]; exact (HRR.out.set 0 _).set 1 _)
        have HO9 := Lib.hid (show OwnSt W3.heap.size W9 (.slice Am s.mem.length cm) (.slice (some ⟨gt, 0, none⟩) s.ths.length vn) (tsS ⟨3, (r : Int), (l : Int), nn, tn⟩ s k ⟨xa, xr, xe, xb⟩) (ps2.set k ⟨⟨xa + 1, xr, xe, xb ++ [⟨(l : Int), z⟩]⟩, vr2, .slice Bn (xb.length + 1) bn⟩) from by
          rw [hW9]
          exact ((HO8.out.cast HF3.out.symm).box HRR.out (by decide) (by decide) (by decide) 0 _).box (HRR.out.set 0 _) (by decide) (by decide) (by decide) 1 _)
        have HB9 := Lib.hid (show Below w.heap.size w W9 from by rw [hW9]; exact (HB8.out.setCell (p := ⟨gr, 0, none⟩) HGR.out _).setCell (p := ⟨gr, 1, none⟩) HGR.out _)
        have HW9 := Lib.hid hW9
        clear hW9
        go_wp2_with fail
        rw [← HW9.out]
        clear r0 r1 f0 f1
        have r0 := HR9.out.cell 0 _ rfl
        have r1 := HR9.out.cell 1 _ rfl
        have hz := HCO.out
        refine bodyPost_ret (v := .tuple #[.agg #[(.slice Am s.mem.length cm), (.slice (some ⟨gt, 0, none⟩) s.ths.length vn)], .bool true]) (by simp [results, Try.results38, go_sem, r0, r1, hz]) rfl ⟨_, _, _, by rw [HF2.out]; rfl, (by rw [HF2.out]; exact HO9.out.base HB3.out.size), HB9.out⟩
      have e3 : ¬ ((op == 3) = true) := by simpa using h3
      by_cases h4 : op = 4
      · subst h4
        have HLO := Lib.hid (HPX.out.loc (by rfl))
        obtain ⟨l, rfl⟩ : ∃ l : Nat, lc = l := ⟨lc.toNat, by have h := HLO.out.1; dsimp only at h; omega⟩
        have HT := Lib.hid (show stT ⟨4, rg, (l : Int), nn, tn⟩ s.mem ⟨xa, xr, xe, xb⟩ = ⟨xa + 1, xr, xe, xb⟩ from by simp [stT, stR, stE, jumps])
        obtain ⟨z, hz⟩ : ∃ z, z = nn := ⟨_, rfl⟩
        have HZE := Lib.hid hz.symm
        clear hz
        have HF3 := Lib.hid (show tsS ⟨4, rg, (l : Int), nn, tn⟩ s k ⟨xa, xr, xe, xb⟩ = ⟨s.mem, s.ths.set k ⟨xa + 1, xr, xe, xb ++ [⟨(l : Int), z⟩]⟩⟩ from by simp [tsS, HZE.out])
        have HQ1' := HQ1
        have i0 := HQ1.out.cell 0 _ rfl
        have n0 := HN.out.cell 0 _ rfl
        have nf := HN.out.frozen 0
        go_upto_region 26 with fail
        obtain ⟨X5, hX5⟩ : ∃ W, W = X4.setCell ⟨gn, 0, none⟩ (.slice Am s.mem.length cm) := ⟨_, rfl⟩
        have HN5 := Lib.hid (show BoxC X5 gn 33 #[.slice Am s.mem.length cm, .slice Vn s.ths.length vn] from by rw [hX5]; exact HN.out.set 0 _)
        have HMO := Lib.hid (show OwnI W3.heap.size X4 (.slice Am s.mem.length cm) s.mem from own_below HOS.out.mem (chain HL2.out HL4.out))
        have HMX := Lib.hid (show OwnI W3.heap.size X2 (.slice Am s.mem.length cm) s.mem from own_below HOS.out.mem HL2.out)
        have HO5 := Lib.hid (show OwnSt W3.heap.size X5 (.slice Am s.mem.length cm) (.slice Vn s.ths.length vn) ⟨s.mem, s.ths.set k (stT ⟨4, rg, (l : Int), nn, tn⟩ s.mem ⟨xa, xr, xe, xb⟩)⟩ ps2 from by
          rw [hX5]
          exact ((HO4.out.base (Nat.le_trans HL3.out.size HL2.out.size)).memRow HMO.out (fun p hp => ap_new HMX.out (HO4.out.each p hp).1 (Nat.le_refl _))).box HN.out (by decide) (by decide) (by decide) 0 _)
        have HGNE := Lib.hid (show gn ≠ gr from by have h1 := HR.out.lt; have h2 := HGN.out; have h3 := HL3.out.size; have h4 := HL2.out.size; omega)
        have HQ95 := Lib.hid (show BoxC X5 g9 39 _ from by rw [hX5]; exact HQ9.out.other (HQ9.out.unlike HN.out (by decide)) _ _)
        have HRR5 := Lib.hid (show BoxC X5 gr 33 #[.slice none 0 0, .slice none 0 0] from by rw [hX5]; exact HRR.out.other (Ne.symm HGNE.out) _ _)
        have HGW := Lib.hid (show W3.heap.size ≤ gn from Nat.le_trans HL3.out.size (Nat.le_trans HL2.out.size HGN.out))
        have HB35 := Lib.hid (show Below W3.heap.size W3 X5 from by rw [hX5]; exact (chain HL3.out (chain HL2.out HL4.out)).setCell (p := ⟨gn, 0, none⟩) HGW.out _)
        have HB5 := Lib.hid (show Below w.heap.size w X5 from by rw [hX5]; exact HBX.out.setCell (p := ⟨gn, 0, none⟩) (Nat.le_trans HB3.out.size HGW.out) _)
        rw [← hX5]
        clear hX5 i0 n0 nf p0
        obtain ⟨vr2, vb2, hpk⟩ := HO5.out.pk (k := k) (by simpa using hks)
        simp only [List.getElem_set_self] at hpk
        obtain ⟨hkp, hpe⟩ := List.getElem?_eq_some_iff.1 hpk
        obtain ⟨gt, cv', cur, hev, hgt, hbv, t0, t1, t2, t3⟩ := HO5.out.row hkp
        rw [List.length_set] at hev
        injection hev with hev1 hev3 hev2
        clear hev3
        subst hev1 hev2
        rw [hpe] at t1 t3
        have HPK' := Lib.hid hpk
        have HOE := Lib.hid (HO5.out.each _ (List.getElem_mem hkp))
        rw [hpe] at HOE
        have HBV := Lib.hid hbv
        have HGT := Lib.hid hgt
        clear hpk hbv hgt hpe t0 t2
        dsimp only at HOE
        rw [HT.out] at HOE HPK'
        rw [HT.out] at HO5
        have o1 := HN5.out.cell 1 _ rfl
        have y1 := (HY.out.below HB35.out HY.out.lt).cell 1 _ rfl
        have b3 := ((HB5.out.mono hBB).cell (p := ⟨b1, f1 + k * 4 + 3, none⟩) hb1).trans HC3.out
        have p2 := HQ95.out.cell 2 _ rfl
        have p3 := HQ95.out.cell 3 _ rfl
        skip
        clear t1
        have HT3 := Lib.hid t3
        clear t3
        refine wp_region_held_drew (S := (fun w' => w'.cell? ⟨gn, 1, none⟩ = some (.slice (some ⟨gt, 0, none⟩) s.ths.length vn) ∧ w'.cell? ⟨gs, 1, none⟩ = some (.slice (some ⟨b1, f1, none⟩) s.ths.length c1) ∧ w'.cell? ⟨b1, f1 + k * 4 + 3, none⟩ = some (.slice Ab xb.length cb) ∧ w'.cell? ⟨g9, 2, none⟩ = some (.int .i64 (l : Int)) ∧ w'.cell? ⟨g9, 3, none⟩ = some (.int .i64 nn) ∧ True)) (by kernel_rfl) ⟨o1, y1, b3, p2, p3, trivial⟩ (fun hHeld => ?_)
        obtain ⟨X6, hX6⟩ : ∃ W, W = X5.drew := ⟨_, rfl⟩
        have HB6 := Lib.hid (show Below X5.heap.size X5 X6 from by rw [hX6]; exact below_drewN (Below.refl _ _) 1)
        rw [← hX6] at hHeld ⊢
        clear hX6
        refine wpAnyH_take (i := 0) (v := ?_) rfl (by kernel_rfl) (by kernel_rfl) (by kernel_rfl) (fun _ _ _ h => h) (Or.inl ⟨by rfl, ?_⟩) (by assumption) ?_
        rotate_left
        · intro w hSw; (try dsimp only at hSw); go_simp; (try with_reducible rfl)
        (try simp only [Act.put, pt8])
        refine wpAnyH_take (i := 1) (v := ?_) rfl (by kernel_rfl) (by kernel_rfl) (by kernel_rfl) (fun _ _ _ h => h) (Or.inl ⟨by rfl, ?_⟩) (by assumption) ?_
        rotate_left
        · intro w hSw; (try dsimp only at hSw); go_simp; (try with_reducible rfl)
        (try simp only [Act.put, pt8])
        refine wpAnyH_take (i := 2) (v := ?_) rfl (by kernel_rfl) (by kernel_rfl) (by kernel_rfl) (fun _ _ _ h => h) (Or.inl ⟨by rfl, ?_⟩) (by assumption) ?_
        rotate_left
        · intro w hSw; (try dsimp only at hSw); go_simp; (try with_reducible rfl)
        (try simp only [Act.put, pt8])
        refine wpAnyH_take (i := 3) (v := ?_) rfl (by kernel_rfl) (by kernel_rfl) (by kernel_rfl) (fun _ _ _ h => h) (Or.inl ⟨by rfl, ?_⟩) (by assumption) ?_
        rotate_left
        · intro w hSw; (try dsimp only at hSw); go_simp; (try with_reducible rfl)
        (try simp only [Act.put, pt8])
        refine wpAnyH_take (i := 4) (v := ?_) rfl (by kernel_rfl) (by kernel_rfl) (by kernel_rfl) (fun _ _ _ h => h) (Or.inl ⟨by rfl, ?_⟩) (by assumption) ?_
        rotate_left
        · intro w hSw; (try dsimp only at hSw); go_simp; (try with_reducible rfl)
        (try simp only [Act.put, pt8])
        refine wpAnyH_take (i := 5) (v := ?_) rfl (by kernel_rfl) (by kernel_rfl) (by kernel_rfl) (fun _ _ _ h => h) (Or.inl ⟨by rfl, ?_⟩) (by assumption) ?_
        rotate_left
        · intro w hSw; (try dsimp only at hSw); go_simp; (try with_reducible rfl)
        (try simp only [Act.put, pt8])
        refine wpAnyH_take (i := 6) (v := ?_) rfl (by kernel_rfl) (by kernel_rfl) (by kernel_rfl) (fun _ _ _ h => h) (Or.inl ⟨by rfl, ?_⟩) (by assumption) ?_
        rotate_left
        · intro w hSw; (try dsimp only at hSw); go_simp; (try with_reducible rfl)
        (try simp only [Act.put, pt8])
        refine wpAnyH_take (i := 7) (v := ?_) rfl (by kernel_rfl) (by kernel_rfl) (by kernel_rfl) (fun _ _ _ h => h) (Or.inl ⟨by rfl, ?_⟩) (by assumption) ?_
        rotate_left
        · intro w hSw; (try dsimp only at hSw); go_simp; (try with_reducible rfl)
        (try simp only [Act.put, pt8])
        refine wpAnyH_take (i := 8) (v := ?_) rfl (by kernel_rfl) (by kernel_rfl) (by kernel_rfl) (fun _ _ _ h => h) (Or.inl ⟨by rfl, ?_⟩) (by assumption) ?_
        rotate_left
        · intro w hSw; (try dsimp only at hSw); go_simp; (try with_reducible rfl)
        (try simp only [Act.put, pt8])
        refine wpAnyH_take (i := 9) (v := ?_) rfl (by kernel_rfl) (by kernel_rfl) (by kernel_rfl) (fun _ _ _ h => h) (Or.inl ⟨by rfl, ?_⟩) (by assumption) ?_
        rotate_left
        · intro w hSw; (try dsimp only at hSw); go_simp; (try with_reducible rfl)
        (try simp only [Act.put, pt8])
        refine wpAnyH_take (i := 10) (v := ?_) rfl (by kernel_rfl) (by kernel_rfl) (by kernel_rfl) (fun _ _ _ h => h) (Or.inl ⟨by rfl, ?_⟩) (by assumption) ?_
        rotate_left
        · intro w hSw; (try dsimp only at hSw); go_simp; (try with_reducible rfl)
        (try simp only [Act.put, pt8])
        refine wpAnyH_take (i := 11) (v := ?_) rfl (by kernel_rfl) (by kernel_rfl) (by kernel_rfl) (fun _ _ _ h => h) (Or.inl ⟨by rfl, ?_⟩) (by assumption) ?_
        rotate_left
        · intro w hSw; (try dsimp only at hSw); go_simp; (try with_reducible rfl)
        (try simp only [Act.put, pt8])
        refine wpAnyH_take (i := 12) (v := ?_) rfl (by kernel_rfl) (by kernel_rfl) (by kernel_rfl) (fun _ _ _ h => h) (Or.inl ⟨by rfl, ?_⟩) (by assumption) ?_
        rotate_left
        · intro w hSw; (try dsimp only at hSw); go_simp; (try with_reducible rfl)
        (try simp only [Act.put, pt8])
        refine wpAnyH_take (i := 13) (v := ?_) rfl (by kernel_rfl) (by kernel_rfl) (by kernel_rfl) (fun _ _ _ h => h) (Or.inl ⟨by rfl, ?_⟩) (by assumption) ?_
        rotate_left
        · intro w hSw; (try dsimp only at hSw); go_simp; (try with_reducible rfl)
        (try simp only [Act.put, pt8])
        refine wpAnyH_ready (rs := [14]) (by kernel_rfl) (by simp) ?_
        refine AllReadyH.cons rfl (fun K hK => ?_) AllReadyH.nil
        obtain ⟨q0, q1, q2, q3, q4, -⟩ := hHeld
        go_simp
        rw [HZE.out]
        refine (HPU.out X6 ⟨(l : Int), z⟩ (chain HB5.out HB6.out)).mono ?_
        rintro e X7 ⟨vu, rfl, hou, hb⟩
        obtain ⟨Bn, bn, rfl⟩ := own_slice (n := xb.length + 1) (show X7.ownsRow _ _ 2 vu (xb.length + 1) _ from by have e := hou; unfold OwnW at e; rw [List.length_append] at e; exact e)
        have HOU := Lib.hid (show OwnW X5.heap.size X7 _ _ from own_base hou HB6.out.size)
        have HB7 := Lib.hid (show Below X5.heap.size X5 X7 from chain HB6.out hb)
        refine hK.out _ _ ⟨kc hb q0, kc hb q1, kc hb q2, kc hb q3, kc hb q4, trivial⟩ (fun hHeld => ?_)
        clear q0 q1 q2 q3 q4
        clear hK K
        (try simp only [Act.put, pt8])
        clear hb hou
        have HBV7 := Lib.hid (HBV.out.below HB7.out HBV.out.lt)
        have v7 := HBV7.out.frozen (k * 4 + 3)
        have e7 := kc HB7.out HT3.out
        have HNa := Lib.hid ((HN5.out.below HB7.out HN5.out.lt).unlike HBV7.out (by decide))
        have HNb := Lib.hid (show gs ≠ gt from by have h1 := HY.out.lt; have h2 := HGT.out; omega)
        have HNc := Lib.hid (show b1 ≠ gt from by have h1 := hb1; have h2 := HGT.out; have h3 := HB3.out.size; omega)
        have HNd := Lib.hid ((HQ95.out.below HB7.out HQ95.out.lt).unlike HBV7.out (by decide))
        refine wpAnyH_take (i := 15) (v := ?_) rfl (by kernel_rfl) (by kernel_rfl) (by kernel_rfl) (fun _ _ _ h => h) (Or.inl ⟨by rfl, ?_⟩) (by assumption) ?_
        rotate_left
        · intro w hSw; (try dsimp only at hSw); go_simp; (try with_reducible rfl)
        (try simp only [Act.put, pt8])
        refine wpAnyH_take (i := 16) (v := ?_) rfl (by kernel_rfl) (by kernel_rfl) (by kernel_rfl) (fun _ _ _ h => h) (Or.inl ⟨by rfl, ?_⟩) (by assumption) ?_
        rotate_left
        · intro w hSw; (try dsimp only at hSw); go_simp; (try with_reducible rfl)
        (try simp only [Act.put, pt8])
        refine wpAnyH_ready (rs := [17]) (by kernel_rfl) (by simp) ?_
        refine AllReadyH.cons rfl (fun K hK => ?_) AllReadyH.nil
        obtain ⟨q0, q1, q2, q3, q4, -⟩ := hHeld
        go_simp
        refine hK.out _ _ ⟨st_ne HNa.out q0, st_ne HNb.out q1, st_ne HNc.out q2, st_ne HNd.out q3, st_ne HNd.out q4, trivial⟩ (fun hHeld => ?_)
        clear q0 q1 q2 q3 q4 v7 e7
        clear hK K
        (try simp only [Act.put, pt8])
        refine wpAnyH_done (by kernel_rfl) ?_ _
        clear hHeld o1 y1 b3 p2 p3
        obtain ⟨X8, hX8⟩ : ∃ W, W = X7.setCell ⟨gt, k * 4 + 3, none⟩ (.slice Bn (xb.length + 1) bn) := ⟨_, rfl⟩
        have HO8 := Lib.hid (show OwnSt W3.heap.size X8 (.slice Am s.mem.length cm) (.slice (some ⟨gt, 0, none⟩) s.ths.length vn) ⟨s.mem, s.ths.set k ⟨xa + 1, xr, xe, xb ++ [⟨(l : Int), z⟩]⟩⟩ (ps2.set k ⟨⟨xa + 1, xr, xe, xb ++ [⟨(l : Int), z⟩]⟩, vr2, .slice Bn (xb.length + 1) bn⟩) from by
          rw [hX8]
          have := (HO5.out.below HB7.out).setVB' HPK'.out (own_base HOU.out HB35.out.size)
          exact this.cast (by rw [List.set_set]))
        have HN8 := Lib.hid (show BoxC X8 gn 33 #[.slice Am s.mem.length cm, .slice (some ⟨gt, 0, none⟩) s.ths.length vn] from by rw [hX8]; exact (HN5.out.below HB7.out HN5.out.lt).other ((HN5.out.below HB7.out HN5.out.lt).unlike (HBV.out.below HB7.out HBV.out.lt) (by decide)) _ _)
        have HRR := Lib.hid (show BoxC X8 gr 33 #[.slice none 0 0, .slice none 0 0] from by rw [hX8]; exact (HRR5.out.below HB7.out HRR5.out.lt).other ((HRR5.out.below HB7.out HRR5.out.lt).unlike (HBV.out.below HB7.out HBV.out.lt) (by decide)) _ _)
        have HB8 := Lib.hid (show Below w.heap.size w X8 from by rw [hX8]; exact (chain HB5.out HB7.out).setCell (p := ⟨gt, k * 4 + 3, none⟩) (Nat.le_trans HB3.out.size HGT.out) _)
        rw [← hX8]
        clear hX8
        have z0 := HN8.out.cell 0 _ rfl
        have z1 := HN8.out.cell 1 _ rfl
        have r0 := HRR.out.cell 0 _ rfl
        have r1 := HRR.out.cell 1 _ rfl
        have f0 := HRR.out.frozen 0
        have f1 := HRR.out.frozen 1
        obtain ⟨W9, hW9⟩ : ∃ W, W = (X8.setCell ⟨gr, 0, none⟩ (.slice Am s.mem.length cm)).setCell ⟨gr, 1, none⟩ (.slice (some ⟨gt, 0, none⟩) s.ths.length vn) := ⟨_, rfl⟩
        have HR9 := Lib.hid (show BoxC W9 gr 33 #[(.slice Am s.mem.length cm), (.slice (some ⟨gt, 0, none⟩) s.ths.length vn)] from by rw [hW9]; exact (HRR.out.set 0 _).set 1 _)
        have HO9 := Lib.hid (show OwnSt W3.heap.size W9 (.slice Am s.mem.length cm) (.slice (some ⟨gt, 0, none⟩) s.ths.length vn) (tsS ⟨4, rg, (l : Int), nn, tn⟩ s k ⟨xa, xr, xe, xb⟩) (ps2.set k ⟨⟨xa + 1, xr, xe, xb ++ [⟨(l : Int), z⟩]⟩, vr2, .slice Bn (xb.length + 1) bn⟩) from by
          rw [hW9]
          exact ((HO8.out.cast HF3.out.symm).box HRR.out (by decide) (by decide) (by decide) 0 _).box (HRR.out.set 0 _) (by decide) (by decide) (by decide) 1 _)
        have HB9 := Lib.hid (show Below w.heap.size w W9 from by rw [hW9]; exact (HB8.out.setCell (p := ⟨gr, 0, none⟩) HGR.out _).setCell (p := ⟨gr, 1, none⟩) HGR.out _)
        have HW9 := Lib.hid hW9
        clear hW9
        go_wp2_with fail
        rw [← HW9.out]
        clear r0 r1 f0 f1
        have r0 := HR9.out.cell 0 _ rfl
        have r1 := HR9.out.cell 1 _ rfl
        have hz := HCO.out
        refine bodyPost_ret (v := .tuple #[.agg #[(.slice Am s.mem.length cm), (.slice (some ⟨gt, 0, none⟩) s.ths.length vn)], .bool true]) (by simp [results, Try.results38, go_sem, r0, r1, hz]) rfl ⟨_, _, _, by rw [HF2.out]; rfl, (by rw [HF2.out]; exact HO9.out.base HB3.out.size), HB9.out⟩
      have e4 : ¬ ((op == 4) = true) := by simpa using h4
      have HF3 := Lib.hid (show tsS ⟨op, rg, lc, nn, tn⟩ s k ⟨xa, xr, xe, xb⟩ = ⟨stM ⟨op, rg, lc, nn, tn⟩ s.mem xr, s.ths.set k (stT ⟨op, rg, lc, nn, tn⟩ s.mem ⟨xa, xr, xe, xb⟩)⟩ from by unfold tsS; simp only [h2, h3, h4, if_false])
      clear h2 h3 h4
      go_upto_region 27 with fail
      clear p0 e2 e3 e4
      have z0 := HN.out.cell 0 _ rfl
      have z1 := HN.out.cell 1 _ rfl
      have r0 := HRR.out.cell 0 _ rfl
      have r1 := HRR.out.cell 1 _ rfl
      have f0 := HRR.out.frozen 0
      have f1 := HRR.out.frozen 1
      obtain ⟨W9, hW9⟩ : ∃ W, W = (X4.setCell ⟨gr, 0, none⟩ (.slice Mn s.mem.length mn)).setCell ⟨gr, 1, none⟩ (.slice Vn s.ths.length vn) := ⟨_, rfl⟩
      have HR9 := Lib.hid (show BoxC W9 gr 33 #[(.slice Mn s.mem.length mn), (.slice Vn s.ths.length vn)] from by rw [hW9]; exact (HRR.out.set 0 _).set 1 _)
      have HO9 := Lib.hid (show OwnSt W3.heap.size W9 (.slice Mn s.mem.length mn) (.slice Vn s.ths.length vn) (tsS ⟨op, rg, lc, nn, tn⟩ s k ⟨xa, xr, xe, xb⟩) ps2 from by
        rw [hW9]
        exact (((HO4.out.base (Nat.le_trans HL3.out.size HL2.out.size)).cast HF3.out.symm).box HRR.out (by decide) (by decide) (by decide) 0 _).box (HRR.out.set 0 _) (by decide) (by decide) (by decide) 1 _)
      have HB9 := Lib.hid (show Below w.heap.size w W9 from by rw [hW9]; exact (HBX.out.setCell (p := ⟨gr, 0, none⟩) HGR.out _).setCell (p := ⟨gr, 1, none⟩) HGR.out _)
      have HW9 := Lib.hid hW9
      clear hW9
      go_wp2_with fail
      rw [← HW9.out]
      clear r0 r1 f0 f1
      have r0 := HR9.out.cell 0 _ rfl
      have r1 := HR9.out.cell 1 _ rfl
      have hz := HCO.out
      refine bodyPost_ret (v := .tuple #[.agg #[(.slice Mn s.mem.length mn), (.slice Vn s.ths.length vn)], .bool true]) (by simp [results, Try.results38, go_sem, r0, r1, hz]) rfl ⟨_, _, _, by rw [HF2.out]; rfl, (by rw [HF2.out]; exact HO9.out.base HB3.out.size), HB9.out⟩

end Go.Proofs.Ytlpjgaeelnlipaa
namespace Go.Proofs.Ytlpjgaeelnlipaa
open Go.RowKit Go.Shelf
set_option linter.unusedVariables false
set_option linter.unusedSimpArgs false
attribute [local go_sem] Oper.semAt_some
open CodM (St Pg rightP)
open ScM

/-- What a round keeps: whatever lay below n₀, and the two blocks, where they hold cells. -/
def KpD (n₀ g1 g2 : Nat) (W W' : World) : Prop := KpS n₀ g1 W W' ∧ KpS n₀ g2 W W'
theorem KpD.t {n₀ g1 g2 : Nat} {A B C : World} (h : KpD n₀ g1 g2 A B) (k : KpD n₀ g1 g2 B C) : KpD n₀ g1 g2 A C := ⟨h.1.t k.1, h.2.t k.2⟩
theorem KpD.b {n₀ g1 g2 : Nat} {w : World} (hn : n₀ ≤ w.heap.size) (W : World) (l : Nat) (o o' : Obj) (hl : w.heap.size ≤ l) (h : W.heap[l]? = some o) (hc : o.isCells = false) (hw : o.isWalk = false) : KpD n₀ g1 g2 W (W.putObj l o') :=
  ⟨KpS.b hn W l o o' hl h hc hw, KpS.b hn W l o o' hl h hc hw⟩
theorem KpD.grown {n₀ g1 g2 : Nat} {W W' : World} {row : Option Nat} (hn : n₀ ≤ W.heap.size) (hg : W.grownBy W' row) (hr : ∀ r, row = some r → n₀ ≤ r ∧ r ≠ g1 ∧ r ≠ g2) : KpD n₀ g1 g2 W W' :=
  ⟨KpS.grown hn hg (fun r e => ⟨(hr r e).1, (hr r e).2.1⟩), KpS.grown hn hg (fun r e => ⟨(hr r e).1, (hr r e).2.2⟩)⟩
theorem KpD.refl {n₀ g1 g2 : Nat} (W : World) : KpD n₀ g1 g2 W W := ⟨⟨Below.refl _ _, fun _ h _ => h⟩, ⟨Below.refl _ _, fun _ h _ => h⟩⟩
theorem KpS.box {n₀ g : Nat} {W W' : World} {T : TypeId} {cs : Array Value} (h : KpS n₀ g W W') (hb : BoxC W g T cs) : BoxC W' g T cs := h.2 _ hb rfl
end Go.Proofs.Ytlpjgaeelnlipaa
namespace Go.Proofs.Ytlpjgaeelnlipaa
open Go.RowKit Go.Shelf
set_option linter.unusedVariables false
set_option linter.unusedSimpArgs false
open CodM (St Pg rightP)
open BfM (Wr plc)
open ScM

theorem rtstep_any {B : Nat} {v u : Value} {P : Pg} {s : Sta} (t : Int) (d : Bool) (w : World) (hv : PgV B w v P) (hu : StaV B w u s) (hBB : B ≤ w.heap.size) (hp : rightP P = true) (ho : OkSt P s) (hw : WideS s) :
    Calls Try.prog 38 #[v, u, .agg #[.int .i64 t, .bool d]] w (TpRet P s t d w) := by
  cases d
  · exact rtstepN_any t w hv hu hBB hp ho hw
  · exact rtstepD_any t w hv hu hBB hw
end Go.Proofs.Ytlpjgaeelnlipaa
namespace Go.Proofs.Ytlpjgaeelnlipaa
open Go.RowKit
set_option linter.unusedVariables false
set_option linter.unusedSimpArgs false
open CodM (St Pg rightP)
open BfM (Wr plc)
open ScM

set_option maxHeartbeats 8000000 in
set_option maxRecDepth 100000 in
theorem rbegin_any {B : Nat} {v : Value} {P : Pg} (w : World) (hv : PgZ B w v P) (hBB : B ≤ w.heap.size) (hp : rightP P = true) :
    Calls Try.prog 24 #[v] w (StRet (beg P) w) := by
  obtain ⟨pi, pt, rfl, hpm, hpi⟩ := hv
  obtain ⟨hi4, ht1, ht3, -⟩ := right_ths hp
  obtain ⟨-, P1, d1, rfl, l1, l2, -⟩ := hpm
  obtain ⟨A0, c0, rfl, a1, a2, a0, a3⟩ := hpi
  unfold maxLen at l2 a2
  obtain ⟨i0, hi0, hz0, hz1, hz2⟩ := info_parts info_nu
  obtain ⟨i1', hi1', hy1, hy2, hy3⟩ := info_parts info_th
  have HCO := Lib.hid (show Try.prog.cellsOf 33 = 2 from by kernel_rfl)
  obtain ⟨W2, hW2⟩ : ∃ W, W = (w.alloc (.cells #[.slice A0 P.init.length c0, .slice P1 P.ths.length d1] 25)).alloc (.cells #[.slice none 0 0, .slice none 0 0] 33) := ⟨_, rfl⟩
  obtain ⟨gp, hgp⟩ : ∃ g, g = w.heap.size := ⟨_, rfl⟩
  obtain ⟨gr, hgr⟩ : ∃ g, g = w.heap.size + 1 := ⟨_, rfl⟩
  have HX := Lib.hid (show BoxC W2 gp 25 #[.slice A0 P.init.length c0, .slice P1 P.ths.length d1] from by rw [hW2, hgp]; exact (BoxC.new w _ _).alloc _)
  have HR := Lib.hid (show BoxC W2 gr 33 #[.slice none 0 0, .slice none 0 0] from by rw [hW2, hgr]; have := BoxC.new (w.alloc (.cells #[.slice A0 P.init.length c0, .slice P1 P.ths.length d1] 25)) 33 #[.slice none 0 0, .slice none 0 0]; rw [World.size_alloc] at this; exact this)
  have HB2 := Lib.hid (show Below w.heap.size w W2 from by rw [hW2]; exact below_al (below_al (Below.refl _ _) _) _)
  have HGR := Lib.hid (show w.heap.size ≤ gr from by omega)
  have HSRC := Lib.hid (fun W (hW : Below W2.heap.size W2 W) => src_rw (W := W) nuC_len a0 a3 ((chain HB2.out hW).mono hBB))
  have HTH := Lib.hid (show (beg P).ths = List.replicate P.ths.length begTh from by unfold beg; simp [List.map_const'])
  have x0 := HX.out.cell 0 _ rfl
  clear a3
  go_enter Try.func24, Try.ntmps24
  go_upto_region 1 with fail
  rw [← hW2]
  (try rw [← hgr])
  (try rw [← hgp])
  clear hW2 hgr hgp
  go_cut [3] (fun s3 wx => ∃ (gs : Nat) (vm : Value), s3 = .pointer (some ⟨gs, 0, none⟩) ∧ BoxC wx gs 33 #[vm, .slice none 0 0] ∧ OwnI W2.heap.size wx vm P.init ∧ Below W2.heap.size W2 wx ∧ W2.heap.size ≤ gs)
  case first =>
    have HE := Lib.hid (below_al (Below.refl W2.heap.size W2) (.cells #[] 3))
    have HO := Lib.hid (show (W2.alloc (.cells #[] 3)).ownsRow W2.heap.size 3 1 (.slice (some ⟨W2.heap.size, 0, none⟩) 0 0) 0 [] from World.ownsRow_lit (base := W2.heap.size) (e := 3) (size := 1) W2 #[] 0 (Nat.le_refl _) (by decide) rfl)
    have l0 := lt_of_cell x0
    have x0 := kc HE.out x0
    go_wp2_with (at_builtin; refine wpList_append_rw _ rfl _ _ 22 rfl W2.heap.size 3 i0 (.int .i64 0) 1 8 Try.underlying22 hi0 hz0 hz1 hz2 rfl (by decide) _ 0 [] rfl HO.out A0 P.init.length c0 (P.init.flatMap nuC) rfl (fl_len nuC_len P.init) a0 (HSRC.out _ HE.out) (one_nu P.init) (by unfold maxLen; omega) (by omega) (by simp) ?_; intro v1 wz hown1 hg1; rw [Nat.zero_add, List.nil_append] at hown1; obtain ⟨A8, c8, rfl⟩ := own_slice hown1)
    go_meet
    have hb1 := below_append HE.out HO.out (Nat.le_refl _) HE.out.size hg1
    have hb2 := below_al (Below.refl wz.heap.size wz) (.cells #[.slice A8 P.init.length c8, .slice none 0 0] 33)
    exact ⟨wz.heap.size, _, rfl, BoxC.new wz _ _, own_below hown1 hb2, chain hb1 hb2, hb1.size⟩
  case rest =>
    obtain ⟨gs, vm, rfl, hbs, hom, hBc, hgs⟩ := hcut
    have HBS := Lib.hid hbs
    have HOM := Lib.hid hom
    have HBC := Lib.hid hBc
    obtain ⟨Am, cm, rfl⟩ := own_slice hom
    clear hbs hom hBc x0
    have hmk := mk4
    go_wp2
    go_loopw [4] (fun i wr => ∃ (k : Nat) (vt : Value) (ps : List TV), k ≤ P.ths.length ∧ i = .int .i64 k ∧ BoxC wr gs 33 #[.slice Am P.init.length cm, vt] ∧ OwnSt W2.heap.size wr (.slice Am P.init.length cm) vt ⟨P.init, List.replicate k begTh⟩ ps ∧ Below W2.heap.size W2 wr) (fun i _ => P.ths.length - (intOf i).toNat)
    case atStart => exact ⟨0, _, [], Nat.zero_le _, rfl, HBS.out, OwnSt.nothing _ HOM.out, HBC.out⟩
    case round =>
      obtain ⟨k, vt, ps, hk, rfl, hbx, hos, hB⟩ := hrel
      have HBX := Lib.hid hbx
      have HOS := Lib.hid hos
      have HB := Lib.hid hB
      have HOT := Lib.hid (show wr.ownsRow W2.heap.size 79 4 vt k (ps.flatMap thC) from by have := hos.ths; rwa [show (⟨P.init, List.replicate k begTh⟩ : Sta).ths.length = k from List.length_replicate] at this)
      obtain ⟨Av, cv, rfl⟩ := own_slice HOT.out
      have HSZ := Lib.hid (show W2.heap.size ≤ wr.heap.size from hB.size)
      have x1 := (HX.out.below hB HX.out.lt).cell 1 _ rfl
      clear hbx hos hB
      by_cases hlt : k < P.ths.length
      · go_wp2
        have y1 := HBX.out.cell 1 _ rfl
        refine wp_region_held_drew (S := (fun w' => True)) (by kernel_rfl) trivial (fun hHeld => ?_)
        obtain ⟨Xa, hXa⟩ : ∃ W, W = wr.drew := ⟨_, rfl⟩
        have HLXa := Lib.hid (show Below wr.heap.size wr Xa from by rw [hXa]; exact below_drewN (Below.refl _ _) 1)
        rw [← hXa]
        clear hXa
        refine wpAnyH_take (i := 0) (v := ?_) rfl (by kernel_rfl) (by kernel_rfl) (by kernel_rfl) (fun _ _ _ h => h) (Or.inl ⟨by rfl, ?_⟩) (by assumption) ?_
        rotate_left
        · intro w hSw; (try dsimp only at hSw); go_simp; (try with_reducible rfl)
        (try simp only [Act.put, pt8])
        refine wpAnyH_ready (rs := [1, 2]) (by kernel_rfl) (by simp) ?_
        refine AllReadyH.cons rfl (fun K hK => ?_) (AllReadyH.cons rfl (fun K hK => ?_) (AllReadyH.nil))
        · -- 1 first
          have y2 := kc HLXa.out y1
          go_simp
          refine hK.out _ _ trivial (fun hHeld => ?_)
          clear hK K
          (try simp only [Act.put, pt8])
          clear y2
          refine wpAnyH_ready (rs := [2]) (by kernel_rfl) (by simp) ?_
          refine AllReadyH.cons rfl (fun K hK => ?_) AllReadyH.nil
          go_simp
          refine hK.out _ _ trivial (fun hHeld => ?_)
          clear hK K
          (try simp only [Act.put, pt8])
          obtain ⟨gn, hgn⟩ : ∃ g, g = Xa.heap.size := ⟨_, rfl⟩
          obtain ⟨X0, hX0⟩ : ∃ W, W = Xa.alloc (.cells #[.int .i64 0, .int .i64 0, .int .i64 0, .int .i64 0] 3) := ⟨_, rfl⟩
          have HLX0 := Lib.hid (show Below wr.heap.size wr X0 from by rw [hX0]; exact below_al HLXa.out _)
          have HON := Lib.hid (show OwnI wr.heap.size X0 (.slice (some ⟨gn, 0, none⟩) 4 4) [0, 0, 0, 0] from by rw [hX0, hgn]; exact World.ownsRow_lit (base := wr.heap.size) (e := 3) (size := 1) Xa #[.int .i64 0, .int .i64 0, .int .i64 0, .int .i64 0] 4 HLXa.out.size (by decide) rfl)
          rw [← hX0]
          rw [← hgn]
          clear hX0 hgn
          refine wpAnyH_take (i := 3) (v := ?_) rfl (by kernel_rfl) (by kernel_rfl) (by kernel_rfl) (fun _ _ _ h => h) (Or.inl ⟨by rfl, ?_⟩) (by assumption) ?_
          rotate_left
          · intro w hSw; (try dsimp only at hSw); go_simp; (try with_reducible rfl)
          (try simp only [Act.put, pt8])
          refine wpAnyH_ready (rs := [4]) (by kernel_rfl) (by simp) ?_
          refine AllReadyH.cons rfl (fun K hK => ?_) AllReadyH.nil
          go_simp
          refine hK.out _ _ trivial (fun hHeld => ?_)
          clear hK K
          (try simp only [Act.put, pt8])
          obtain ⟨gb, hgb⟩ : ∃ g, g = X0.heap.size := ⟨_, rfl⟩
          obtain ⟨X1, hX1⟩ : ∃ W, W = X0.alloc (.cells #[.int .i64 0, .slice (some ⟨gn, 0, none⟩) 4 4, .bool false, .slice none 0 0] 79) := ⟨_, rfl⟩
          have HLX1 := Lib.hid (show Below wr.heap.size wr X1 from by rw [hX1]; exact below_al HLX0.out _)
          have HF := Lib.hid (fun (j : Nat) (u : Value) (h : (thC ⟨begTh, .slice (some ⟨gn, 0, none⟩) 4 4, .slice none 0 0⟩)[j]? = some u) => (show X1.cell? ⟨gb, j, none⟩ = some u from by
            have e := World.news_of_block (heap_alloc_new X0 (.cells #[.int .i64 0, .slice (some ⟨gn, 0, none⟩) 4 4, .bool false, .slice none 0 0] 79)) j u h
            rw [Addr.add_lit, Nat.zero_add] at e
            rw [hX1, hgb]; exact e))
          replace HON := Lib.hid (own_below HON.out (show Below X0.heap.size X0 X1 from by rw [hX1]; exact below_al (Below.refl _ _) _))
          rw [← hX1]
          rw [← hgb]
          clear hX1 hgb
          refine wpAnyH_ready (rs := [5]) (by kernel_rfl) (by simp) ?_
          refine AllReadyH.cons rfl (fun K hK => ?_) AllReadyH.nil
          refine step_append_src (by rfl) _ _ _ (by rfl) W2.heap.size 79 i1' (.agg #[.int .i64 0, .slice none 0 0, .bool false, .slice none 0 0]) 4 64 Try.underlying31 hi1' hy1 hy2 hy3 (by rfl) (by decide) _ k (ps.flatMap thC) (by rfl) (own_below HOT.out HLX1.out) (some ⟨gb, 0, none⟩) 1 1 (thC ⟨begTh, .slice (some ⟨gn, 0, none⟩) 4 4, .slice none 0 0⟩) (by rfl) (by rfl) (fun c => (by cases c)) (fun ad e j u h => by injection e with e; rw [← e, Addr.add_lit, Nat.zero_add]; exact HF.out j u h) (one_th _ rfl rfl) (by unfold maxLen; omega) (by omega) (Nat.le_trans HSZ.out HLX1.out.size) (fun v2 w5 hown5 hg5 => ?_)
          have HO5 := Lib.hid ((HOS.out.below HLX1.out).snoc ⟨begTh, .slice (some ⟨gn, 0, none⟩) 4 4, .slice none 0 0⟩ (own_base HON.out HSZ.out) (World.ownsRow_nil _ _ _ _) (HOS.out.new_r HON.out (Nat.le_refl _)).1 (HOS.out.new_r HON.out (Nat.le_refl _)).2 (by simpa using hown5) hg5)
          have HB5 := Lib.hid (below_append (HB.out.trans (HLX1.out.mono HB.out.size)) (own_below HOT.out HLX1.out) (Nat.le_refl _) (Nat.le_trans HB.out.size HLX1.out.size) hg5)
          have HBX5 := Lib.hid ((HBX.out.below HLX1.out HBX.out.lt).grown (by decide) (own_below HOT.out HLX1.out) hg5)
          have HBR5 := Lib.hid (HR.out.below HB5.out HR.out.lt)
          obtain ⟨A5, c5, rfl⟩ := own_slice hown5
          have y5 := HBX5.out.cell 1 _ rfl
          have f5 := HBX5.out.frozen 1
          clear hown5 hg5 HF HON
          refine hK.out _ _ trivial (fun hHeld => ?_)
          clear hK K
          (try simp only [Act.put, pt8])
          refine wpAnyH_take (i := 6) (v := ?_) rfl (by kernel_rfl) (by kernel_rfl) (by kernel_rfl) (fun _ _ _ h => h) (Or.inl ⟨by rfl, ?_⟩) (by assumption) ?_
          rotate_left
          · intro w hSw; (try dsimp only at hSw); go_simp; (try with_reducible rfl)
          (try simp only [Act.put, pt8])
          refine wpAnyH_ready (rs := [7]) (by kernel_rfl) (by simp) ?_
          refine AllReadyH.cons rfl (fun K hK => ?_) AllReadyH.nil
          go_simp
          refine hK.out _ _ trivial (fun hHeld => ?_)
          clear hK K
          (try simp only [Act.put, pt8])
          refine wpAnyH_done (by kernel_rfl) ?_ _
          clear hHeld
          go_wp2_with fail
          clear y5 f5
          go_roundw
          case rel => exact ⟨k + 1, _, _, by omega, by go_num, HBX5.out.set 1 _, by rw [List.replicate_succ']; exact HO5.out.box HBX5.out (by decide) (by decide) (by decide) 1 _, HB5.out.setCell (p := ⟨gs, 1, none⟩) hgs _⟩
          case measure => simp [intOf]; omega
        · -- 2 first
          go_simp
          refine hK.out _ _ trivial (fun hHeld => ?_)
          clear hK K
          (try simp only [Act.put, pt8])
          obtain ⟨gn, hgn⟩ : ∃ g, g = Xa.heap.size := ⟨_, rfl⟩
          obtain ⟨X0, hX0⟩ : ∃ W, W = Xa.alloc (.cells #[.int .i64 0, .int .i64 0, .int .i64 0, .int .i64 0] 3) := ⟨_, rfl⟩
          have HLX0 := Lib.hid (show Below wr.heap.size wr X0 from by rw [hX0]; exact below_al HLXa.out _)
          have HON := Lib.hid (show OwnI wr.heap.size X0 (.slice (some ⟨gn, 0, none⟩) 4 4) [0, 0, 0, 0] from by rw [hX0, hgn]; exact World.ownsRow_lit (base := wr.heap.size) (e := 3) (size := 1) Xa #[.int .i64 0, .int .i64 0, .int .i64 0, .int .i64 0] 4 HLXa.out.size (by decide) rfl)
          rw [← hX0]
          rw [← hgn]
          clear hX0 hgn
          refine wpAnyH_take (i := 3) (v := ?_) rfl (by kernel_rfl) (by kernel_rfl) (by kernel_rfl) (fun _ _ _ h => h) (Or.inl ⟨by rfl, ?_⟩) (by assumption) ?_
          rotate_left
          · intro w hSw; (try dsimp only at hSw); go_simp; (try with_reducible rfl)
          (try simp only [Act.put, pt8])
          refine wpAnyH_ready (rs := [1, 4]) (by kernel_rfl) (by simp) ?_
          refine AllReadyH.cons rfl (fun K hK => ?_) (AllReadyH.cons rfl (fun K hK => ?_) (AllReadyH.nil))
          · -- 1 first
            have y2 := kc HLX0.out y1
            go_simp
            refine hK.out _ _ trivial (fun hHeld => ?_)
            clear hK K
            (try simp only [Act.put, pt8])
            clear y2
            refine wpAnyH_ready (rs := [4]) (by kernel_rfl) (by simp) ?_
            refine AllReadyH.cons rfl (fun K hK => ?_) AllReadyH.nil
            go_simp
            refine hK.out _ _ trivial (fun hHeld => ?_)
            clear hK K
            (try simp only [Act.put, pt8])
            obtain ⟨gb, hgb⟩ : ∃ g, g = X0.heap.size := ⟨_, rfl⟩
            obtain ⟨X1, hX1⟩ : ∃ W, W = X0.alloc (.cells #[.int .i64 0, .slice (some ⟨gn, 0, none⟩) 4 4, .bool false, .slice none 0 0] 79) := ⟨_, rfl⟩
            have HLX1 := Lib.hid (show Below wr.heap.size wr X1 from by rw [hX1]; exact below_al HLX0.out _)
            have HF := Lib.hid (fun (j : Nat) (u : Value) (h : (thC ⟨begTh, .slice (some ⟨gn, 0, none⟩) 4 4, .slice none 0 0⟩)[j]? = some u) => (show X1.cell? ⟨gb, j, none⟩ = some u from by
              have e := World.news_of_block (heap_alloc_new X0 (.cells #[.int .i64 0, .slice (some ⟨gn, 0, none⟩) 4 4, .bool false, .slice none 0 0] 79)) j u h
              rw [Addr.add_lit, Nat.zero_add] at e
              rw [hX1, hgb]; exact e))
            replace HON := Lib.hid (own_below HON.out (show Below X0.heap.size X0 X1 from by rw [hX1]; exact below_al (Below.refl _ _) _))
            rw [← hX1]
            rw [← hgb]
            clear hX1 hgb
            refine wpAnyH_ready (rs := [5]) (by kernel_rfl) (by simp) ?_
            refine AllReadyH.cons rfl (fun K hK => ?_) AllReadyH.nil
            refine step_append_src (by rfl) _ _ _ (by rfl) W2.heap.size 79 i1' (.agg #[.int .i64 0, .slice none 0 0, .bool false, .slice none 0 0]) 4 64 Try.underlying31 hi1' hy1 hy2 hy3 (by rfl) (by decide) _ k (ps.flatMap thC) (by rfl) (own_below HOT.out HLX1.out) (some ⟨gb, 0, none⟩) 1 1 (thC ⟨begTh, .slice (some ⟨gn, 0, none⟩) 4 4, .slice none 0 0⟩) (by rfl) (by rfl) (fun c => (by cases c)) (fun ad e j u h => by injection e with e; rw [← e, Addr.add_lit, Nat.zero_add]; exact HF.out j u h) (one_th _ rfl rfl) (by unfold maxLen; omega) (by omega) (Nat.le_trans HSZ.out HLX1.out.size) (fun v2 w5 hown5 hg5 => ?_)
            have HO5 := Lib.hid ((HOS.out.below HLX1.out).snoc ⟨begTh, .slice (some ⟨gn, 0, none⟩) 4 4, .slice none 0 0⟩ (own_base HON.out HSZ.out) (World.ownsRow_nil _ _ _ _) (HOS.out.new_r HON.out (Nat.le_refl _)).1 (HOS.out.new_r HON.out (Nat.le_refl _)).2 (by simpa using hown5) hg5)
            have HB5 := Lib.hid (below_append (HB.out.trans (HLX1.out.mono HB.out.size)) (own_below HOT.out HLX1.out) (Nat.le_refl _) (Nat.le_trans HB.out.size HLX1.out.size) hg5)
            have HBX5 := Lib.hid ((HBX.out.below HLX1.out HBX.out.lt).grown (by decide) (own_below HOT.out HLX1.out) hg5)
            have HBR5 := Lib.hid (HR.out.below HB5.out HR.out.lt)
            obtain ⟨A5, c5, rfl⟩ := own_slice hown5
            have y5 := HBX5.out.cell 1 _ rfl
            have f5 := HBX5.out.frozen 1
            clear hown5 hg5 HF HON
            refine hK.out _ _ trivial (fun hHeld => ?_)
            clear hK K
            (try simp only [Act.put, pt8])
            refine wpAnyH_take (i := 6) (v := ?_) rfl (by kernel_rfl) (by kernel_rfl) (by kernel_rfl) (fun _ _ _ h => h) (Or.inl ⟨by rfl, ?_⟩) (by assumption) ?_
            rotate_left
            · intro w hSw; (try dsimp only at hSw); go_simp; (try with_reducible rfl)
            (try simp only [Act.put, pt8])
            refine wpAnyH_ready (rs := [7]) (by kernel_rfl) (by simp) ?_
            refine AllReadyH.cons rfl (fun K hK => ?_) AllReadyH.nil
            go_simp
            refine hK.out _ _ trivial (fun hHeld => ?_)
            clear hK K
            (try simp only [Act.put, pt8])
            refine wpAnyH_done (by kernel_rfl) ?_ _
            clear hHeld
            go_wp2_with fail
            clear y5 f5
            go_roundw
            case rel => exact ⟨k + 1, _, _, by omega, by go_num, HBX5.out.set 1 _, by rw [List.replicate_succ']; exact HO5.out.box HBX5.out (by decide) (by decide) (by decide) 1 _, HB5.out.setCell (p := ⟨gs, 1, none⟩) hgs _⟩
            case measure => simp [intOf]; omega
          · -- 4 first
            go_simp
            refine hK.out _ _ trivial (fun hHeld => ?_)
            clear hK K
            (try simp only [Act.put, pt8])
            obtain ⟨gb, hgb⟩ : ∃ g, g = X0.heap.size := ⟨_, rfl⟩
            obtain ⟨X1, hX1⟩ : ∃ W, W = X0.alloc (.cells #[.int .i64 0, .slice (some ⟨gn, 0, none⟩) 4 4, .bool false, .slice none 0 0] 79) := ⟨_, rfl⟩
            have HLX1 := Lib.hid (show Below wr.heap.size wr X1 from by rw [hX1]; exact below_al HLX0.out _)
            have HF := Lib.hid (fun (j : Nat) (u : Value) (h : (thC ⟨begTh, .slice (some ⟨gn, 0, none⟩) 4 4, .slice none 0 0⟩)[j]? = some u) => (show X1.cell? ⟨gb, j, none⟩ = some u from by
              have e := World.news_of_block (heap_alloc_new X0 (.cells #[.int .i64 0, .slice (some ⟨gn, 0, none⟩) 4 4, .bool false, .slice none 0 0] 79)) j u h
              rw [Addr.add_lit, Nat.zero_add] at e
              rw [hX1, hgb]; exact e))
            replace HON := Lib.hid (own_below HON.out (show Below X0.heap.size X0 X1 from by rw [hX1]; exact below_al (Below.refl _ _) _))
            rw [← hX1]
            rw [← hgb]
            clear hX1 hgb
            refine wpAnyH_ready (rs := [1]) (by kernel_rfl) (by simp) ?_
            refine AllReadyH.cons rfl (fun K hK => ?_) AllReadyH.nil
            have y2 := kc HLX1.out y1
            go_simp
            refine hK.out _ _ trivial (fun hHeld => ?_)
            clear hK K
            (try simp only [Act.put, pt8])
            clear y2
            refine wpAnyH_ready (rs := [5]) (by kernel_rfl) (by simp) ?_
            refine AllReadyH.cons rfl (fun K hK => ?_) AllReadyH.nil
            refine step_append_src (by rfl) _ _ _ (by rfl) W2.heap.size 79 i1' (.agg #[.int .i64 0, .slice none 0 0, .bool false, .slice none 0 0]) 4 64 Try.underlying31 hi1' hy1 hy2 hy3 (by rfl) (by decide) _ k (ps.flatMap thC) (by rfl) (own_below HOT.out HLX1.out) (some ⟨gb, 0, none⟩) 1 1 (thC ⟨begTh, .slice (some ⟨gn, 0, none⟩) 4 4, .slice none 0 0⟩) (by rfl) (by rfl) (fun c => (by cases c)) (fun ad e j u h => by injection e with e; rw [← e, Addr.add_lit, Nat.zero_add]; exact HF.out j u h) (one_th _ rfl rfl) (by unfold maxLen; omega) (by omega) (Nat.le_trans HSZ.out HLX1.out.size) (fun v2 w5 hown5 hg5 => ?_)
            have HO5 := Lib.hid ((HOS.out.below HLX1.out).snoc ⟨begTh, .slice (some ⟨gn, 0, none⟩) 4 4, .slice none 0 0⟩ (own_base HON.out HSZ.out) (World.ownsRow_nil _ _ _ _) (HOS.out.new_r HON.out (Nat.le_refl _)).1 (HOS.out.new_r HON.out (Nat.le_refl _)).2 (by simpa using hown5) hg5)
            have HB5 := Lib.hid (below_append (HB.out.trans (HLX1.out.mono HB.out.size)) (own_below HOT.out HLX1.out) (Nat.le_refl _) (Nat.le_trans HB.out.size HLX1.out.size) hg5)
            have HBX5 := Lib.hid ((HBX.out.below HLX1.out HBX.out.lt).grown (by decide) (own_below HOT.out HLX1.out) hg5)
            have HBR5 := Lib.hid (HR.out.below HB5.out HR.out.lt)
            obtain ⟨A5, c5, rfl⟩ := own_slice hown5
            have y5 := HBX5.out.cell 1 _ rfl
            have f5 := HBX5.out.frozen 1
            clear hown5 hg5 HF HON
            refine hK.out _ _ trivial (fun hHeld => ?_)
            clear hK K
            (try simp only [Act.put, pt8])
            refine wpAnyH_take (i := 6) (v := ?_) rfl (by kernel_rfl) (by kernel_rfl) (by kernel_rfl) (fun _ _ _ h => h) (Or.inl ⟨by rfl, ?_⟩) (by assumption) ?_
            rotate_left
            · intro w hSw; (try dsimp only at hSw); go_simp; (try with_reducible rfl)
            (try simp only [Act.put, pt8])
            refine wpAnyH_ready (rs := [7]) (by kernel_rfl) (by simp) ?_
            refine AllReadyH.cons rfl (fun K hK => ?_) AllReadyH.nil
            go_simp
            refine hK.out _ _ trivial (fun hHeld => ?_)
            clear hK K
            (try simp only [Act.put, pt8])
            refine wpAnyH_done (by kernel_rfl) ?_ _
            clear hHeld
            go_wp2_with fail
            clear y5 f5
            go_roundw
            case rel => exact ⟨k + 1, _, _, by omega, by go_num, HBX5.out.set 1 _, by rw [List.replicate_succ']; exact HO5.out.box HBX5.out (by decide) (by decide) (by decide) 1 _, HB5.out.setCell (p := ⟨gs, 1, none⟩) hgs _⟩
            case measure => simp [intOf]; omega
      · obtain rfl : P.ths.length = k := by omega
        have y0 := HBX.out.cell 0 _ rfl
        have y1 := HBX.out.cell 1 _ rfl
        have HRR := Lib.hid (HR.out.below HB.out HR.out.lt)
        have r0 := HRR.out.cell 0 _ rfl
        have r1 := HRR.out.cell 1 _ rfl
        have f0 := HRR.out.frozen 0
        have f1 := HRR.out.frozen 1
        obtain ⟨W9, hW9⟩ : ∃ W, W = (wr.setCell ⟨gr, 0, none⟩ (.slice Am P.init.length cm)).setCell ⟨gr, 1, none⟩ (.slice Av P.ths.length cv) := ⟨_, rfl⟩
        have HR9 := Lib.hid (show BoxC W9 gr 33 #[.slice Am P.init.length cm, .slice Av P.ths.length cv] from by rw [hW9]; exact (HRR.out.set 0 _).set 1 _)
        have HO9 := Lib.hid (show OwnSt W2.heap.size W9 (.slice Am P.init.length cm) (.slice Av P.ths.length cv) (beg P) ps from by
          rw [hW9, show beg P = ⟨P.init, List.replicate P.ths.length begTh⟩ from by rw [← HTH.out]; rfl]
          exact (HOS.out.box HRR.out (by decide) (by decide) (by decide) 0 _).box (HRR.out.set 0 _) (by decide) (by decide) (by decide) 1 _)
        have HB9 := Lib.hid (show Below w.heap.size w W9 from by rw [hW9]; exact ((chain HB2.out HB.out).setCell (p := ⟨gr, 0, none⟩) HGR.out _).setCell (p := ⟨gr, 1, none⟩) HGR.out _)
        have HW9 := Lib.hid hW9
        clear hW9
        go_wp2_with fail
        rw [← HW9.out]
        clear y0 y1 r0 r1 f0 f1
        have r0 := HR9.out.cell 0 _ rfl
        have r1 := HR9.out.cell 1 _ rfl
        have hz := HCO.out
        refine bodyPost_ret (v := .agg #[.slice Am P.init.length cm, .slice Av P.ths.length cv]) (by simp [results, Try.results24, go_sem, r0, r1, hz]) rfl ⟨_, _, _, rfl, HO9.out.base HB2.out.size, HB9.out⟩
end Go.Proofs.Ytlpjgaeelnlipaa
namespace Go.Proofs.Ytlpjgaeelnlipaa
open Go.RowKit
set_option linter.unusedVariables false
set_option linter.unusedSimpArgs false
open CodM (St Pg rightP)
open BfM (Wr plc)
open ScM

set_option maxHeartbeats 8000000 in
set_option maxRecDepth 100000 in
theorem rstep13_any {B : Nat} {v u : Value} {P : Pg} {s : Sta} (t : Int) (d wk : Bool) (w : World) (hv : PgV B w v P) (hu : StaV B w u s) (hBB : B ≤ w.heap.size) (hp : rightP P = true) (ho : OkSt P s) (hw : WideS s) :
    Calls Try.prog 25 #[v, u, .agg #[.int .i64 t, .bool d], .bool wk] w (RsRet P s t d wk w) := by
  have HS := Lib.hid (fun W (hW : Below w.heap.size w W) => refstep_any t W ((hv.below (hW.mono hBB)).more (Nat.le_trans hBB hW.size)) ((hu.below (hW.mono hBB)).more (Nat.le_trans hBB hW.size)) (Nat.le_refl _) hp ho hw)
  have HT := Lib.hid (fun W (hW : Below w.heap.size w W) => rtstep_any t d W ((hv.below (hW.mono hBB)).more (Nat.le_trans hBB hW.size)) ((hu.below (hW.mono hBB)).more (Nat.le_trans hBB hW.size)) (Nat.le_refl _) hp ho hw)
  clear hp ho hw
  obtain ⟨pi, pt, rfl, hpm⟩ := hv
  obtain ⟨um, ut, rfl, hum⟩ := hu
  obtain ⟨⟨P0, d0, rfl, -⟩, ⟨P1, d1, rfl, -⟩⟩ := hpm
  obtain ⟨⟨A7, c7, rfl, -⟩, ⟨A1, c1, rfl, -⟩⟩ := hum
  obtain ⟨W2, hW2⟩ : ∃ W, W = ((((w.alloc (.cells #[.slice P0 P.init.length d0, .slice P1 P.ths.length d1] 25)).alloc (.cells #[.slice A7 s.mem.length c7, .slice A1 s.ths.length c1] 33)).alloc (.cells #[.int .i64 t, .bool d] 52)).alloc (.cells #[.slice none 0 0, .slice none 0 0] 33)) := ⟨_, rfl⟩
  obtain ⟨gp, hgp⟩ : ∃ g, g = w.heap.size := ⟨_, rfl⟩
  obtain ⟨gs, hgs⟩ : ∃ g, g = w.heap.size + 1 := ⟨_, rfl⟩
  obtain ⟨gk, hgk⟩ : ∃ g, g = w.heap.size + 1 + 1 := ⟨_, rfl⟩
  obtain ⟨gr, hgr⟩ : ∃ g, g = w.heap.size + 1 + 1 + 1 := ⟨_, rfl⟩
  have HX := Lib.hid (show BoxC W2 gp 25 #[.slice P0 P.init.length d0, .slice P1 P.ths.length d1] from by rw [hW2, hgp]; have := (BoxC.new w 25 #[.slice P0 P.init.length d0, .slice P1 P.ths.length d1]) |>.alloc (.cells #[.slice A7 s.mem.length c7, .slice A1 s.ths.length c1] 33) |>.alloc (.cells #[.int .i64 t, .bool d] 52) |>.alloc (.cells #[.slice none 0 0, .slice none 0 0] 33); (try rw [World.size_alloc] at this); (try rw [World.size_alloc] at this); (try rw [World.size_alloc] at this); exact this)
  have HY := Lib.hid (show BoxC W2 gs 33 #[.slice A7 s.mem.length c7, .slice A1 s.ths.length c1] from by rw [hW2, hgs]; have := (BoxC.new (w.alloc (.cells #[.slice P0 P.init.length d0, .slice P1 P.ths.length d1] 25)) 33 #[.slice A7 s.mem.length c7, .slice A1 s.ths.length c1]) |>.alloc (.cells #[.int .i64 t, .bool d] 52) |>.alloc (.cells #[.slice none 0 0, .slice none 0 0] 33); (try rw [World.size_alloc] at this); (try rw [World.size_alloc] at this); (try rw [World.size_alloc] at this); exact this)
  have HK := Lib.hid (show BoxC W2 gk 52 #[.int .i64 t, .bool d] from by rw [hW2, hgk]; have := (BoxC.new ((w.alloc (.cells #[.slice P0 P.init.length d0, .slice P1 P.ths.length d1] 25)).alloc (.cells #[.slice A7 s.mem.length c7, .slice A1 s.ths.length c1] 33)) 52 #[.int .i64 t, .bool d]) |>.alloc (.cells #[.slice none 0 0, .slice none 0 0] 33); (try rw [World.size_alloc] at this); (try rw [World.size_alloc] at this); (try rw [World.size_alloc] at this); exact this)
  have HR := Lib.hid (show BoxC W2 gr 33 #[.slice none 0 0, .slice none 0 0] from by rw [hW2, hgr]; have := (BoxC.new (((w.alloc (.cells #[.slice P0 P.init.length d0, .slice P1 P.ths.length d1] 25)).alloc (.cells #[.slice A7 s.mem.length c7, .slice A1 s.ths.length c1] 33)).alloc (.cells #[.int .i64 t, .bool d] 52)) 33 #[.slice none 0 0, .slice none 0 0]); (try rw [World.size_alloc] at this); (try rw [World.size_alloc] at this); (try rw [World.size_alloc] at this); exact this)
  have HG := Lib.hid (show w.heap.size ≤ gr from by omega)
  have HB2 := Lib.hid (show Below w.heap.size w W2 from by rw [hW2]; exact below_al (below_al (below_al (below_al (Below.refl _ _) _) _) _) _)
  go_enter Try.func25, Try.ntmps25
  go_upto_region 1 with fail
  rw [← hW2]
  (try rw [← hgr])
  (try rw [← hgk])
  (try rw [← hgs])
  (try rw [← hgp])
  clear hW2 hgr hgk hgs hgp
  have x0 := HX.out.cell 0 _ rfl
  have x1 := HX.out.cell 1 _ rfl
  have y0 := HY.out.cell 0 _ rfl
  have y1 := HY.out.cell 1 _ rfl
  have k0 := HK.out.cell 0 _ rfl
  have k1 := HK.out.cell 1 _ rfl
  cases wk
  · cases d
    · go_wp2_with fail
      refine (Calls.mono (HS.out _ HB2.out) (fun e w' h => rs_strict h)).mono ?_
      rintro e V1 ⟨A, n, c, Bq, m, k, rfl, hos, hb⟩
      obtain ⟨q, hq⟩ : ∃ q, q = (rst P s t false false).isSome := ⟨_, rfl⟩
      rw [← hq]
      have HQ := Lib.hid hq
      have HO := Lib.hid hos
      have HR1 := Lib.hid (HR.out.below hb HR.out.lt)
      have HB3 := Lib.hid (chain HB2.out hb)
      have HZ2 := Lib.hid HB2.out.size
      clear hq hos hb x0 x1 y0 y1 k0 k1
      go_upto_region 7 with fail
      obtain ⟨X1, hX1⟩ : ∃ W, W = V1.alloc (.cells #[.slice A n c, .slice Bq m k] 33) := ⟨_, rfl⟩
      obtain ⟨g7, hg7⟩ : ∃ g, g = V1.heap.size := ⟨_, rfl⟩
      have H7 := Lib.hid (show BoxC X1 g7 33 #[.slice A n c, .slice Bq m k] from by rw [hX1, hg7]; exact BoxC.new V1 _ _)
      have HX1 := Lib.hid (show Below V1.heap.size V1 X1 from by rw [hX1]; exact below_al (Below.refl _ _) _)
      have HN7 := Lib.hid (show gr ≠ g7 from by have := HR1.out.lt; omega)
      rw [← hX1]
      (try rw [← hg7])
      clear hX1 hg7
      replace HR1 := Lib.hid (HR1.out.below HX1.out HR1.out.lt)
      replace HB3 := Lib.hid (chain HB3.out HX1.out)
      have e0 := H7.out.cell 0 _ rfl
      have e1 := H7.out.cell 1 _ rfl
      have r0 := HR1.out.cell 0 _ rfl
      have r1 := HR1.out.cell 1 _ rfl
      have f0 := HR1.out.frozen 0
      have f1 := HR1.out.frozen 1
      obtain ⟨W9, hW9⟩ : ∃ W, W = (X1.setCell ⟨gr, 0, none⟩ (.slice A n c)).setCell ⟨gr, 1, none⟩ (.slice Bq m k) := ⟨_, rfl⟩
      have HR9 := Lib.hid (show BoxC W9 gr 33 #[(.slice A n c), (.slice Bq m k)] from by rw [hW9]; exact (HR1.out.set 0 _).set 1 _)
      have HO9 := Lib.hid (fun s' (h : rst P s t false false = some s') => show ∃ ps, OwnSt w.heap.size W9 (.slice A n c) (.slice Bq m k) s' ps from by
        obtain ⟨ps, ho⟩ := HO.out s' h
        rw [hW9]
        exact ⟨ps, (((ho.below HX1.out).base HZ2.out).box HR1.out (by decide) (by decide) (by decide) 0 _).box (HR1.out.set 0 _) (by decide) (by decide) (by decide) 1 _⟩)
      have HB9 := Lib.hid (show Below w.heap.size w W9 from by rw [hW9]; exact (HB3.out.setCell (p := ⟨gr, 0, none⟩) HG.out _).setCell (p := ⟨gr, 1, none⟩) HG.out _)
      have HW9 := Lib.hid hW9
      clear hW9
      go_wp2_with fail
      rw [← HW9.out]
      clear r0 r1 f0 f1
      have r0 := HR9.out.cell 0 _ rfl
      have r1 := HR9.out.cell 1 _ rfl
      have hz : Try.prog.cellsOf 33 = 2 := by kernel_rfl
      refine bodyPost_ret (v := .tuple #[.agg #[(.slice A n c), (.slice Bq m k)], .bool q]) (by simp [results, Try.results25, go_sem, r0, r1, hz]) rfl ?_
      exact ⟨_, _, _, _, _, _, by rw [← HQ.out], HO9.out, HB9.out⟩
    · have HN := Lib.hid (rst_drain P s t)
      have r0 := HR.out.cell 0 _ rfl
      have r1 := HR.out.cell 1 _ rfl
      have f0 := HR.out.frozen 0
      have f1 := HR.out.frozen 1
      obtain ⟨W9, hW9⟩ : ∃ W, W = (W2.setCell ⟨gr, 0, none⟩ (.slice A7 s.mem.length c7)).setCell ⟨gr, 1, none⟩ (.slice A1 s.ths.length c1) := ⟨_, rfl⟩
      have HR9 := Lib.hid (show BoxC W9 gr 33 #[(.slice A7 s.mem.length c7), (.slice A1 s.ths.length c1)] from by rw [hW9]; exact (HR.out.set 0 _).set 1 _)
      clear x0 x1 k0
      have HB9 := Lib.hid (show Below w.heap.size w W9 from by rw [hW9]; exact (HB2.out.setCell (p := ⟨gr, 0, none⟩) HG.out _).setCell (p := ⟨gr, 1, none⟩) HG.out _)
      have HW9 := Lib.hid hW9
      clear hW9
      go_wp2_with fail
      rw [← HW9.out]
      clear r0 r1 f0 f1
      have r0 := HR9.out.cell 0 _ rfl
      have r1 := HR9.out.cell 1 _ rfl
      have hz : Try.prog.cellsOf 33 = 2 := by kernel_rfl
      refine bodyPost_ret (v := .tuple #[.agg #[(.slice A7 s.mem.length c7), (.slice A1 s.ths.length c1)], .bool false]) (by simp [results, Try.results25, go_sem, r0, r1, hz]) rfl ?_
      exact ⟨_, _, _, _, _, _, by rw [HN.out]; rfl, fun s' (h : rst P s t true false = some s') => absurd (HN.out.symm.trans h) (by simp), HB9.out⟩
  · go_wp2_with fail
    refine (Calls.mono (HT.out _ HB2.out) (fun e w' h => rs_weak h)).mono ?_
    rintro e V1 ⟨A, n, c, Bq, m, k, rfl, hos, hb⟩
    obtain ⟨q, hq⟩ : ∃ q, q = (rst P s t d true).isSome := ⟨_, rfl⟩
    rw [← hq]
    have HQ := Lib.hid hq
    have HO := Lib.hid hos
    have HR1 := Lib.hid (HR.out.below hb HR.out.lt)
    have HB3 := Lib.hid (chain HB2.out hb)
    have HZ2 := Lib.hid HB2.out.size
    clear hq hos hb x0 x1 y0 y1 k0 k1
    go_upto_region 3 with fail
    obtain ⟨X1, hX1⟩ : ∃ W, W = V1.alloc (.cells #[.slice A n c, .slice Bq m k] 33) := ⟨_, rfl⟩
    obtain ⟨g7, hg7⟩ : ∃ g, g = V1.heap.size := ⟨_, rfl⟩
    have H7 := Lib.hid (show BoxC X1 g7 33 #[.slice A n c, .slice Bq m k] from by rw [hX1, hg7]; exact BoxC.new V1 _ _)
    have HX1 := Lib.hid (show Below V1.heap.size V1 X1 from by rw [hX1]; exact below_al (Below.refl _ _) _)
    have HN7 := Lib.hid (show gr ≠ g7 from by have := HR1.out.lt; omega)
    rw [← hX1]
    (try rw [← hg7])
    clear hX1 hg7
    replace HR1 := Lib.hid (HR1.out.below HX1.out HR1.out.lt)
    replace HB3 := Lib.hid (chain HB3.out HX1.out)
    have e0 := H7.out.cell 0 _ rfl
    have e1 := H7.out.cell 1 _ rfl
    have r0 := HR1.out.cell 0 _ rfl
    have r1 := HR1.out.cell 1 _ rfl
    have f0 := HR1.out.frozen 0
    have f1 := HR1.out.frozen 1
    obtain ⟨W9, hW9⟩ : ∃ W, W = (X1.setCell ⟨gr, 0, none⟩ (.slice A n c)).setCell ⟨gr, 1, none⟩ (.slice Bq m k) := ⟨_, rfl⟩
    have HR9 := Lib.hid (show BoxC W9 gr 33 #[(.slice A n c), (.slice Bq m k)] from by rw [hW9]; exact (HR1.out.set 0 _).set 1 _)
    have HO9 := Lib.hid (fun s' (h : rst P s t d true = some s') => show ∃ ps, OwnSt w.heap.size W9 (.slice A n c) (.slice Bq m k) s' ps from by
      obtain ⟨ps, ho⟩ := HO.out s' h
      rw [hW9]
      exact ⟨ps, (((ho.below HX1.out).base HZ2.out).box HR1.out (by decide) (by decide) (by decide) 0 _).box (HR1.out.set 0 _) (by decide) (by decide) (by decide) 1 _⟩)
    have HB9 := Lib.hid (show Below w.heap.size w W9 from by rw [hW9]; exact (HB3.out.setCell (p := ⟨gr, 0, none⟩) HG.out _).setCell (p := ⟨gr, 1, none⟩) HG.out _)
    have HW9 := Lib.hid hW9
    clear hW9
    go_wp2_with fail
    rw [← HW9.out]
    clear r0 r1 f0 f1
    have r0 := HR9.out.cell 0 _ rfl
    have r1 := HR9.out.cell 1 _ rfl
    have hz : Try.prog.cellsOf 33 = 2 := by kernel_rfl
    refine bodyPost_ret (v := .tuple #[.agg #[(.slice A n c), (.slice Bq m k)], .bool q]) (by simp [results, Try.results25, go_sem, r0, r1, hz]) rfl ?_
    exact ⟨_, _, _, _, _, _, by rw [← HQ.out], HO9.out, HB9.out⟩
end Go.Proofs.Ytlpjgaeelnlipaa
namespace Go.Proofs.Ytlpjgaeelnlipaa
open Go.RowKit
set_option linter.unusedVariables false
set_option linter.unusedSimpArgs false
open CodM (St Pg rightP)
open BfM (Wr plc)
open ScM

theorem atV_is (P : Pg) (s : Sta) (t : Int) : ∃ x b, atV P s t = .tuple #[.agg #[.int .i64 x.op, .int .i64 x.reg, .int .i64 x.loc, .int .i64 x.n, .int .i64 x.to], .bool b] ∧ ∀ y, atS P s t = some y → x = y := by
  unfold atV
  cases h : atS P s t with
  | none => exact ⟨⟨0, 0, 0, 0, 0⟩, false, rfl, fun y e => (by cases e)⟩
  | some y => exact ⟨y, true, rfl, fun z e => by injection e⟩
theorem OwnSt.app {base b n : Nat} {w w' : World} {vm vt v : Value} {s : Sta} {ps : List TV} {xs : List Value} (h : OwnSt base w vm vt s ps) (hr : w.ownsRow b 52 2 v n xs) (hg : w.grownBy w' v.ownBlock) : OwnSt base w' vm vt s ps :=
  ⟨own_grown (by decide) h.mem hr hg, own_grown (by decide) h.ths hr hg, h.eq, fun p hp => ⟨own_grown (by decide) (h.each p hp).1 hr hg, own_grown (by decide) (h.each p hp).2.1 hr hg, (h.each p hp).2.2⟩, h.ap⟩
theorem rst_at {P : Pg} {s s' : Sta} {t : Int} {d : Bool} (h : rst P s t d false = some s') : ∃ y, atS P s t = some y := by
  obtain ⟨_, k, rfl, h1, h2, h3, ha, _⟩ := rst_strict h
  exact ⟨_, ha⟩
theorem ki_new (w : World) (t : Int) (d : Bool) : ∀ j u, ([.int .i64 t, .bool d] : List Value)[j]? = some u → (w.alloc (.cells #[.int .i64 t, .bool d] 52)).cell? ((⟨w.heap.size, 0, none⟩ : Addr).add j) = some u := by
  intro j u hj
  rw [show ((⟨w.heap.size, 0, none⟩ : Addr).add j) = ⟨w.heap.size, j, none⟩ by simp [Addr.add]; intro e; exact e.symm]
  rw [World.cell?_alloc_at _ _ _ _ rfl]
  simpa using hj
set_option maxHeartbeats 16000000 in
set_option maxRecDepth 100000 in
theorem rstrict13_any {B : Nat} {v vl : Value} {P : Pg} {l : List (Int × Bool)} (w : World) (hv : PgZ B w v P) (hl : KiR B w vl l) (hBB : B ≤ w.heap.size) (hp : rightP P = true) (hn : l.length ≤ 50000) :
    Calls Try.prog 11 #[v, vl] w (StRetK P l w) := by
  have HP := Lib.hid (fun W (hW : Below w.heap.size w W) => (show PgZ W.heap.size W v P from (hv.below (hW.mono hBB)).more (Nat.le_trans hBB hW.size)))
  have HSP := Lib.hid (fun k => show OkSt P (runS P false (beg P) (l.take k)).1 ∧ WideS (runS P false (beg P) (l.take k)).1 from ⟨runS_ok hp _ (beg_ok P), wide_run hp false (l.take k) (by rw [List.length_take]; omega) (by decide)⟩)
  have HRP := Lib.hid hp
  have HNN := Lib.hid hn
  clear hp
  obtain ⟨i0, hi, hz0, hz1, hz2⟩ := info_parts info_pk
  obtain ⟨pi, pt, rfl, hpm, -⟩ := hv
  obtain ⟨⟨P0, d0, rfl, -⟩, ⟨P1, d1, rfl, -⟩⟩ := hpm
  obtain ⟨Al, cl, rfl, hl1, hl2, -, hl3⟩ := hl
  have HL3 := Lib.hid (ki_at (c := cl) hl3)
  unfold maxLen at hl2
  clear hl3
  obtain ⟨W2, hW2⟩ : ∃ W, W = w.alloc (.cells #[.slice P0 P.init.length d0, .slice P1 P.ths.length d1] 25) := ⟨_, rfl⟩
  obtain ⟨gp, hgp⟩ : ∃ g, g = w.heap.size := ⟨_, rfl⟩
  have HX := Lib.hid (show BoxC W2 gp 25 #[.slice P0 P.init.length d0, .slice P1 P.ths.length d1] from by rw [hW2, hgp]; exact BoxC.new w _ _)
  have HB2 := Lib.hid (show Below w.heap.size w W2 from by rw [hW2]; exact below_al (Below.refl _ _) _)
  go_enter Try.func11, Try.ntmps11
  go_upto_region 1 with fail
  rw [← hW2]
  (try rw [← hgp])
  clear hW2 hgp
  have x0 := HX.out.cell 0 _ rfl
  have x1 := HX.out.cell 1 _ rfl
  go_wp2_with fail
  refine (rbegin_any _ (HP.out _ HB2.out) (Nat.le_refl _) HRP.out).mono ?_
  rintro e V1 ⟨vm, vt, ps, rfl, hos, hb⟩
  obtain ⟨Am, cm, rfl⟩ := own_slice hos.mem
  obtain ⟨Av, cv, rfl⟩ := own_slice hos.ths
  obtain ⟨m1, hm1⟩ : ∃ n, n = (beg P).mem.length := ⟨_, rfl⟩
  obtain ⟨m2, hm2⟩ : ∃ n, n = (beg P).ths.length := ⟨_, rfl⟩
  rw [← hm1, ← hm2] at hos ⊢
  have HO := Lib.hid hos
  have HBb := Lib.hid hb
  clear hos hb hm1 hm2 x0 x1
  go_upto_region 2 with fail
  obtain ⟨X2, hX2⟩ : ∃ W, W = V1.alloc (.cells #[.slice Am m1 cm, .slice Av m2 cv] 33) := ⟨_, rfl⟩
  obtain ⟨g6, hg6⟩ : ∃ g, g = V1.heap.size := ⟨_, rfl⟩
  have H6 := Lib.hid (show BoxC X2 g6 33 #[.slice Am m1 cm, .slice Av m2 cv] from by rw [hX2, hg6]; exact BoxC.new V1 _ _)
  have HX2 := Lib.hid (show Below V1.heap.size V1 X2 from by rw [hX2]; exact below_al (Below.refl _ _) _)
  have HG6 := Lib.hid (show W2.heap.size ≤ g6 from by rw [hg6]; exact HBb.out.size)
  rw [← hX2]
  (try rw [← hg6])
  clear hX2 hg6
  have HO2 := Lib.hid (HO.out.below HX2.out)
  have HBc := Lib.hid (chain HBb.out HX2.out)
  go_wp2
  go_loopw [7, 8] (fun o i wr => ∃ (k : Nat) (s : Sta) (r : List (Int × Bool)) (Ar : Option Addr) (nr cr : Nat) (A4 : Option Addr) (n4 c4 : Nat) (B4 : Option Addr) (m4 k4 : Nat) (ps : List TV), i = .int .i64 k ∧ o = .slice Ar nr cr ∧ k ≤ l.length ∧ nr = r.length ∧ nr ≤ 2 * k ∧ runS P false (beg P) (l.take k) = (s, k, true) ∧ strS P (beg P) (l.take k) = some r ∧ BoxC wr g6 33 #[.slice A4 n4 c4, .slice B4 m4 k4] ∧ OwnSt W2.heap.size wr (.slice A4 n4 c4) (.slice B4 m4 k4) s ps ∧ wr.ownsRow W2.heap.size 52 2 (.slice Ar nr cr) nr (r.flatMap kiC) ∧ Below W2.heap.size W2 wr) (fun _ i _ => l.length - (intOf i).toNat)
  case atStart => exact ⟨0, beg P, [], none, 0, 0, _, _, _, _, _, _, _, rfl, rfl, Nat.zero_le _, rfl, Nat.zero_le _, by rw [List.take_zero]; rfl, by rw [List.take_zero]; rfl, H6.out, HO2.out, World.ownsRow_nil _ _ _ _, HBc.out⟩
  case round =>
    clear H6 HO HO2 HBb HBc HX2
    obtain ⟨k, s, r, Ar, nr, cr, A4, n4, c4, B4, m4, k4, ps, rfl, rfl, hk, hnr, hn2, hrun, hstr, h6, ho, hrow, hbw⟩ := hrel
    have HNR := Lib.hid hnr
    have HRUN := Lib.hid hrun
    have HSTR := Lib.hid hstr
    have H6 := Lib.hid h6
    have HO := Lib.hid ho
    have HROW := Lib.hid hrow
    have HBW := Lib.hid hbw
    have HX3 := Lib.hid (HX.out.below hbw HX.out.lt)
    have HB3 := Lib.hid (chain HB2.out hbw)
    clear hrun hstr h6 ho hrow hbw hnr
    by_cases hlt : k < l.length
    · obtain ⟨b1, f1, rfl, hb1, hc1⟩ := HL3.out (by omega)
      obtain ⟨p0, p1⟩ := hc1 k hlt
      have HPK := Lib.hid (fun W (hW : Below w.heap.size w W) => show W.cell? ⟨b1, f1 + k * 2, none⟩ = some (.int .i64 l[k].1) ∧ W.cell? ⟨b1, f1 + k * 2 + 1, none⟩ = some (.bool l[k].2) from ⟨((hW.mono hBB).cell (p := ⟨b1, f1 + k * 2, none⟩) hb1).trans p0, ((hW.mono hBB).cell (p := ⟨b1, f1 + k * 2 + 1, none⟩) hb1).trans p1⟩)
      have HSK := Lib.hid (HSP.out k)
      rw [HRUN.out] at HSK
      have HRN := Lib.hid (fun s' (h : rst P s l[k].1 l[k].2 false = some s') => runS_next hlt HRUN.out h)
      have HRH := Lib.hid (fun (h : rst P s l[k].1 l[k].2 false = none) => runS_halt hlt HRUN.out h)
      have HSN := Lib.hid (fun s' x (hx : atS P s l[k].1 = some x) (h : rst P s l[k].1 l[k].2 false = some s') => strS_next hlt HRUN.out HSTR.out hx h)
      have HSH := Lib.hid (fun (h : rst P s l[k].1 l[k].2 false = none) => strS_halt hlt HRUN.out h)
      clear p0 p1 hc1
      generalize l[k] = kk at *
      obtain ⟨kt, kd⟩ := kk
      dsimp only at HPK HRN HRH HSN HSH
      obtain ⟨p0, p1⟩ := HPK.out _ HB3.out
      have x0 := HX3.out.cell 0 _ rfl
      have x1 := HX3.out.cell 1 _ rfl
      have s0 := H6.out.cell 0 _ rfl
      have s1 := H6.out.cell 1 _ rfl
      obtain ⟨q, hq⟩ : ∃ q, q = (rst P s kt kd false).isSome := ⟨_, rfl⟩
      have HQ := Lib.hid hq
      obtain ⟨x, xb, hav, hxx⟩ := atV_is P s kt
      have HAV := Lib.hid hav
      have HXX := Lib.hid hxx
      have HAC := Lib.hid (fun W (hW : Below wr.heap.size wr W) => rat_any kt W (HP.out W (chain HB3.out hW)).v (HO.out.below hW).sv (Nat.le_refl _) HSK.out.1)
      have HSZ := Lib.hid HBW.out.size
      clear hq hav hxx
      go_upto_region 6 with fail
      go_cut [9, 10] (fun vb vi wx => ∃ g, vb = .pointer (some ⟨g, 0, none⟩) ∧ vi = .bool xb ∧ BoxC wx g 39 #[.int .i64 x.op, .int .i64 x.reg, .int .i64 x.loc, .int .i64 x.n, .int .i64 x.to] ∧ Below wr.heap.size wr wx ∧ wr.heap.size ≤ g)
      case first =>
        refine wp_region_held_drew (S := (fun w' => (w'.cell? ⟨gp, 0, none⟩ = some (.slice P0 P.init.length d0) ∧ w'.cell? ⟨gp, 1, none⟩ = some (.slice P1 P.ths.length d1) ∧ w'.cell? ⟨g6, 0, none⟩ = some (.slice A4 n4 c4) ∧ w'.cell? ⟨g6, 1, none⟩ = some (.slice B4 m4 k4) ∧ w'.cell? ⟨b1, f1 + k * 2, none⟩ = some (.int .i64 kt) ∧ True) ∧ Below wr.heap.size wr w')) (by kernel_rfl) ⟨⟨x0, x1, s0, s1, p0, trivial⟩, below_drewN (Below.refl _ _) 1⟩ (fun hHeld => ?_)
        obtain ⟨Xs, hXs⟩ : ∃ W, W = wr.drew := ⟨_, rfl⟩
        have HXs := Lib.hid (show Below wr.heap.size wr Xs from by rw [hXs]; exact below_drewN (Below.refl _ _) 1)
        rw [← hXs] at hHeld ⊢
        clear hXs
        refine wpAnyH_take (i := 0) (v := ?_) rfl (by kernel_rfl) (by kernel_rfl) (by kernel_rfl) (fun _ _ _ h => h) (Or.inl ⟨by rfl, ?_⟩) (by assumption) ?_
        rotate_left
        · intro w hSw; (try dsimp only at hSw); go_simp; (try with_reducible rfl)
        (try simp only [Act.put, pt8])
        refine wpAnyH_take (i := 1) (v := ?_) rfl (by kernel_rfl) (by kernel_rfl) (by kernel_rfl) (fun _ _ _ h => h) (Or.inl ⟨by rfl, ?_⟩) (by assumption) ?_
        rotate_left
        · intro w hSw; (try dsimp only at hSw); go_simp; (try with_reducible rfl)
        (try simp only [Act.put, pt8])
        refine wpAnyH_take (i := 2) (v := ?_) rfl (by kernel_rfl) (by kernel_rfl) (by kernel_rfl) (fun _ _ _ h => h) (Or.inl ⟨by rfl, ?_⟩) (by assumption) ?_
        rotate_left
        · intro w hSw; (try dsimp only at hSw); go_simp; (try with_reducible rfl)
        (try simp only [Act.put, pt8])
        refine wpAnyH_take (i := 3) (v := ?_) rfl (by kernel_rfl) (by kernel_rfl) (by kernel_rfl) (fun _ _ _ h => h) (Or.inl ⟨by rfl, ?_⟩) (by assumption) ?_
        rotate_left
        · intro w hSw; (try dsimp only at hSw); go_simp; (try with_reducible rfl)
        (try simp only [Act.put, pt8])
        refine wpAnyH_take (i := 4) (v := ?_) rfl (by kernel_rfl) (by kernel_rfl) (by kernel_rfl) (fun _ _ _ h => h) (Or.inl ⟨by rfl, ?_⟩) (by assumption) ?_
        rotate_left
        · intro w hSw; (try dsimp only at hSw); go_simp; (try with_reducible rfl)
        (try simp only [Act.put, pt8])
        refine wpAnyH_take (i := 5) (v := ?_) rfl (by kernel_rfl) (by kernel_rfl) (by kernel_rfl) (fun _ _ _ h => h) (Or.inl ⟨by rfl, ?_⟩) (by assumption) ?_
        rotate_left
        · intro w hSw; (try dsimp only at hSw); go_simp; (try with_reducible rfl)
        (try simp only [Act.put, pt8])
        refine wpAnyH_take (i := 6) (v := ?_) rfl (by kernel_rfl) (by kernel_rfl) (by kernel_rfl) (fun _ _ _ h => h) (Or.inl ⟨by rfl, ?_⟩) (by assumption) ?_
        rotate_left
        · intro w hSw; (try dsimp only at hSw); go_simp; (try with_reducible rfl)
        (try simp only [Act.put, pt8])
        refine wpAnyH_ready (rs := [7, 11]) (by kernel_rfl) (by simp) ?_
        refine AllReadyH.cons rfl (fun K hK => ?_) (AllReadyH.cons rfl (fun K hK => ?_) (AllReadyH.nil))
        · -- 7 first
          go_simp
          refine (HAC.out _ hHeld.2).mono ?_
          rintro e Xc ⟨rfl, hb⟩
          rw [HAV.out]
          have HBC := Lib.hid (chain hHeld.2 hb)
          refine hK.out _ _ ⟨⟨kc HBC.out x0, kc HBC.out x1, kc HBC.out s0, kc HBC.out s1, kc HBC.out p0, trivial⟩, HBC.out⟩ (fun hHeld => ?_)
          clear hK K
          (try simp only [Act.put, pt8])
          clear hb
          refine wpAnyH_take (i := 8) (v := ?_) rfl (by kernel_rfl) (by kernel_rfl) (by kernel_rfl) (fun _ _ _ h => h) (Or.inl ⟨by rfl, ?_⟩) (by assumption) ?_
          rotate_left
          · intro w hSw; (try dsimp only at hSw); go_simp; (try with_reducible rfl)
          (try simp only [Act.put, pt8])
          refine wpAnyH_take (i := 9) (v := ?_) rfl (by kernel_rfl) (by kernel_rfl) (by kernel_rfl) (fun _ _ _ h => h) (Or.inl ⟨by rfl, ?_⟩) (by assumption) ?_
          rotate_left
          · intro w hSw; (try dsimp only at hSw); go_simp; (try with_reducible rfl)
          (try simp only [Act.put, pt8])
          refine wpAnyH_take (i := 10) (v := ?_) rfl (by kernel_rfl) (by kernel_rfl) (by kernel_rfl) (fun _ _ _ h => h) (Or.inl ⟨by rfl, ?_⟩) (by assumption) ?_
          rotate_left
          · intro w hSw; (try dsimp only at hSw); go_simp; (try with_reducible rfl)
          (try simp only [Act.put, pt8])
          refine wpAnyH_ready (rs := [11]) (by kernel_rfl) (by simp) ?_
          refine AllReadyH.cons rfl (fun K hK => ?_) AllReadyH.nil
          have HBA := Lib.hid (below_al hHeld.2 (.cells #[.int .i64 0, .int .i64 0, .int .i64 0, .int .i64 0, .int .i64 0] 39))
          go_simp
          refine hK.out _ _ ⟨⟨kc HBA.out x0, kc HBA.out x1, kc HBA.out s0, kc HBA.out s1, kc HBA.out p0, trivial⟩, HBA.out⟩ (fun hHeld => ?_)
          clear hK K
          (try simp only [Act.put, pt8])
          obtain ⟨Xa, hXa⟩ : ∃ W, W = Xc.alloc (.cells #[.int .i64 0, .int .i64 0, .int .i64 0, .int .i64 0, .int .i64 0] 39) := ⟨_, rfl⟩
          obtain ⟨ga, hga⟩ : ∃ g, g = Xc.heap.size := ⟨_, rfl⟩
          have HGa := Lib.hid (show wr.heap.size ≤ ga from by rw [hga]; exact HBC.out.size)
          have HQa := Lib.hid (show BoxC Xa ga 39 #[.int .i64 0, .int .i64 0, .int .i64 0, .int .i64 0, .int .i64 0] from by rw [hXa, hga]; exact BoxC.new Xc _ _)
          rw [← hXa] at hHeld HBA ⊢
          (try rw [← hga])
          clear hXa hga
          refine wpAnyH_ready (rs := [12]) (by kernel_rfl) (by simp) ?_
          refine AllReadyH.cons rfl (fun K hK => ?_) AllReadyH.nil
          have q0 := HQa.out.cell 0 _ rfl
          have q1 := HQa.out.cell 1 _ rfl
          have q2 := HQa.out.cell 2 _ rfl
          have q3 := HQa.out.cell 3 _ rfl
          have q4 := HQa.out.cell 4 _ rfl
          have u0 := HQa.out.frozen 0
          have u1 := HQa.out.frozen 1
          have u2 := HQa.out.frozen 2
          have u3 := HQa.out.frozen 3
          have u4 := HQa.out.frozen 4
          have HBS2 := Lib.hid (show Below wr.heap.size wr (((((Xa.setCell ⟨ga, 0, none⟩ (.int .i64 x.op)).setCell ⟨ga, 1, none⟩ (.int .i64 x.reg)).setCell ⟨ga, 2, none⟩ (.int .i64 x.loc)).setCell ⟨ga, 3, none⟩ (.int .i64 x.n)).setCell ⟨ga, 4, none⟩ (.int .i64 x.to)) from (((((hHeld.2.setCell (p := ⟨ga, 0, none⟩) HGa.out _).setCell (p := ⟨ga, 1, none⟩) HGa.out _).setCell (p := ⟨ga, 2, none⟩) HGa.out _).setCell (p := ⟨ga, 3, none⟩) HGa.out _).setCell (p := ⟨ga, 4, none⟩) HGa.out _))
          have HQS := Lib.hid (show BoxC (((((Xa.setCell ⟨ga, 0, none⟩ (.int .i64 x.op)).setCell ⟨ga, 1, none⟩ (.int .i64 x.reg)).setCell ⟨ga, 2, none⟩ (.int .i64 x.loc)).setCell ⟨ga, 3, none⟩ (.int .i64 x.n)).setCell ⟨ga, 4, none⟩ (.int .i64 x.to)) ga 39 #[.int .i64 x.op, .int .i64 x.reg, .int .i64 x.loc, .int .i64 x.n, .int .i64 x.to] from (((((HQa.out.set 0 _).set 1 _).set 2 _).set 3 _).set 4 _))
          go_simp
          refine hK.out _ _ ⟨⟨kc HBS2.out x0, kc HBS2.out x1, kc HBS2.out s0, kc HBS2.out s1, kc HBS2.out p0, trivial⟩, HBS2.out⟩ (fun hHeld => ?_)
          clear q0 q1 q2 q3 q4 u0 u1 u2 u3 u4
          clear hK K
          (try simp only [Act.put, pt8])
          refine wpAnyH_ready (rs := [13]) (by kernel_rfl) (by simp) ?_
          refine AllReadyH.cons rfl (fun K hK => ?_) AllReadyH.nil
          go_simp
          refine hK.out _ _ hHeld (fun hHeld => ?_)
          clear hK K
          (try simp only [Act.put, pt8])
          refine wpAnyH_done (by kernel_rfl) ?_ _
          clear hHeld
          go_wp2_with fail
          go_meet
          exact ⟨ga, rfl, rfl, HQS.out, HBS2.out, HGa.out⟩
        · -- 11 first
          have HBA := Lib.hid (below_al hHeld.2 (.cells #[.int .i64 0, .int .i64 0, .int .i64 0, .int .i64 0, .int .i64 0] 39))
          go_simp
          refine hK.out _ _ ⟨⟨kc HBA.out x0, kc HBA.out x1, kc HBA.out s0, kc HBA.out s1, kc HBA.out p0, trivial⟩, HBA.out⟩ (fun hHeld => ?_)
          clear hK K
          (try simp only [Act.put, pt8])
          obtain ⟨Xa, hXa⟩ : ∃ W, W = Xs.alloc (.cells #[.int .i64 0, .int .i64 0, .int .i64 0, .int .i64 0, .int .i64 0] 39) := ⟨_, rfl⟩
          obtain ⟨ga, hga⟩ : ∃ g, g = Xs.heap.size := ⟨_, rfl⟩
          have HGa := Lib.hid (show wr.heap.size ≤ ga from by rw [hga]; exact HXs.out.size)
          have HQa := Lib.hid (show BoxC Xa ga 39 #[.int .i64 0, .int .i64 0, .int .i64 0, .int .i64 0, .int .i64 0] from by rw [hXa, hga]; exact BoxC.new Xs _ _)
          rw [← hXa] at hHeld HBA ⊢
          (try rw [← hga])
          clear hXa hga
          refine wpAnyH_ready (rs := [7]) (by kernel_rfl) (by simp) ?_
          refine AllReadyH.cons rfl (fun K hK => ?_) AllReadyH.nil
          go_simp
          refine (HAC.out _ hHeld.2).mono ?_
          rintro e Xc ⟨rfl, hb⟩
          rw [HAV.out]
          have HBC := Lib.hid (chain hHeld.2 hb)
          replace HQa := Lib.hid (HQa.out.below hb HQa.out.lt)
          refine hK.out _ _ ⟨⟨kc HBC.out x0, kc HBC.out x1, kc HBC.out s0, kc HBC.out s1, kc HBC.out p0, trivial⟩, HBC.out⟩ (fun hHeld => ?_)
          clear hK K
          (try simp only [Act.put, pt8])
          clear hb
          refine wpAnyH_take (i := 8) (v := ?_) rfl (by kernel_rfl) (by kernel_rfl) (by kernel_rfl) (fun _ _ _ h => h) (Or.inl ⟨by rfl, ?_⟩) (by assumption) ?_
          rotate_left
          · intro w hSw; (try dsimp only at hSw); go_simp; (try with_reducible rfl)
          (try simp only [Act.put, pt8])
          refine wpAnyH_take (i := 9) (v := ?_) rfl (by kernel_rfl) (by kernel_rfl) (by kernel_rfl) (fun _ _ _ h => h) (Or.inl ⟨by rfl, ?_⟩) (by assumption) ?_
          rotate_left
          · intro w hSw; (try dsimp only at hSw); go_simp; (try with_reducible rfl)
          (try simp only [Act.put, pt8])
          refine wpAnyH_take (i := 10) (v := ?_) rfl (by kernel_rfl) (by kernel_rfl) (by kernel_rfl) (fun _ _ _ h => h) (Or.inl ⟨by rfl, ?_⟩) (by assumption) ?_
          rotate_left
          · intro w hSw; (try dsimp only at hSw); go_simp; (try with_reducible rfl)
          (try simp only [Act.put, pt8])
          refine wpAnyH_ready (rs := [12]) (by kernel_rfl) (by simp) ?_
          refine AllReadyH.cons rfl (fun K hK => ?_) AllReadyH.nil
          have q0 := HQa.out.cell 0 _ rfl
          have q1 := HQa.out.cell 1 _ rfl
          have q2 := HQa.out.cell 2 _ rfl
          have q3 := HQa.out.cell 3 _ rfl
          have q4 := HQa.out.cell 4 _ rfl
          have u0 := HQa.out.frozen 0
          have u1 := HQa.out.frozen 1
          have u2 := HQa.out.frozen 2
          have u3 := HQa.out.frozen 3
          have u4 := HQa.out.frozen 4
          have HBS2 := Lib.hid (show Below wr.heap.size wr (((((Xc.setCell ⟨ga, 0, none⟩ (.int .i64 x.op)).setCell ⟨ga, 1, none⟩ (.int .i64 x.reg)).setCell ⟨ga, 2, none⟩ (.int .i64 x.loc)).setCell ⟨ga, 3, none⟩ (.int .i64 x.n)).setCell ⟨ga, 4, none⟩ (.int .i64 x.to)) from (((((hHeld.2.setCell (p := ⟨ga, 0, none⟩) HGa.out _).setCell (p := ⟨ga, 1, none⟩) HGa.out _).setCell (p := ⟨ga, 2, none⟩) HGa.out _).setCell (p := ⟨ga, 3, none⟩) HGa.out _).setCell (p := ⟨ga, 4, none⟩) HGa.out _))
          have HQS := Lib.hid (show BoxC (((((Xc.setCell ⟨ga, 0, none⟩ (.int .i64 x.op)).setCell ⟨ga, 1, none⟩ (.int .i64 x.reg)).setCell ⟨ga, 2, none⟩ (.int .i64 x.loc)).setCell ⟨ga, 3, none⟩ (.int .i64 x.n)).setCell ⟨ga, 4, none⟩ (.int .i64 x.to)) ga 39 #[.int .i64 x.op, .int .i64 x.reg, .int .i64 x.loc, .int .i64 x.n, .int .i64 x.to] from (((((HQa.out.set 0 _).set 1 _).set 2 _).set 3 _).set 4 _))
          go_simp
          refine hK.out _ _ ⟨⟨kc HBS2.out x0, kc HBS2.out x1, kc HBS2.out s0, kc HBS2.out s1, kc HBS2.out p0, trivial⟩, HBS2.out⟩ (fun hHeld => ?_)
          clear q0 q1 q2 q3 q4 u0 u1 u2 u3 u4
          clear hK K
          (try simp only [Act.put, pt8])
          refine wpAnyH_ready (rs := [13]) (by kernel_rfl) (by simp) ?_
          refine AllReadyH.cons rfl (fun K hK => ?_) AllReadyH.nil
          go_simp
          refine hK.out _ _ hHeld (fun hHeld => ?_)
          clear hK K
          (try simp only [Act.put, pt8])
          refine wpAnyH_done (by kernel_rfl) ?_ _
          clear hHeld
          go_wp2_with fail
          go_meet
          exact ⟨ga, rfl, rfl, HQS.out, HBS2.out, HGa.out⟩
      case rest =>
      obtain ⟨g9, rfl, rfl, h9, hb, hg9⟩ := hcut
      obtain ⟨W6, hW6⟩ : ∃ W, W = wc := ⟨_, rfl⟩
      rw [← hW6] at h9 hb ⊢
      clear hW6
      have H9 := Lib.hid h9
      have HB4 := Lib.hid (chain HB3.out hb)
      have HBW4 := Lib.hid (chain HBW.out hb)
      have H64 := Lib.hid (H6.out.below hb H6.out.lt)
      have HO4 := Lib.hid (HO.out.below hb)
      have HX4 := Lib.hid (HX3.out.below hb HX3.out.lt)
      have HRW4 := Lib.hid (own_below HROW.out hb)
      have HG9 := Lib.hid (show W2.heap.size ≤ g9 ∧ g6 ≠ g9 from by have h1 := H6.out.lt; have h2 := HSZ.out; omega)
      clear h9 hb hg9 x0 x1 s0 s1 p0 p1 HAC HROW
      obtain ⟨p0, p1⟩ := HPK.out _ HB4.out
      have x0 := HX4.out.cell 0 _ rfl
      have x1 := HX4.out.cell 1 _ rfl
      have s0 := H64.out.cell 0 _ rfl
      have s1 := H64.out.cell 1 _ rfl
      have HCL := Lib.hid (fun W (hW : Below W6.heap.size W6 W) => rstep13_any kt kd false W (HP.out W (chain HB4.out hW)).v (HO4.out.below hW).sv (Nat.le_refl _) HRP.out HSK.out.1 HSK.out.2)
      go_upto_region 7 with fail
      go_cut [11, 12] (fun vb vi wx => ∃ g A n c D m k, vb = .pointer (some ⟨g, 0, none⟩) ∧ vi = .bool q ∧ BoxC wx g 33 #[.slice A n c, .slice D m k] ∧ (∀ s', rst P s kt kd false = some s' → ∃ ps, OwnSt W6.heap.size wx (.slice A n c) (.slice D m k) s' ps) ∧ Below W6.heap.size W6 wx ∧ W6.heap.size ≤ g)
      case first =>
        refine wp_region_held_drew (S := (fun w' => (w'.cell? ⟨gp, 0, none⟩ = some (.slice P0 P.init.length d0) ∧ w'.cell? ⟨gp, 1, none⟩ = some (.slice P1 P.ths.length d1) ∧ w'.cell? ⟨g6, 0, none⟩ = some (.slice A4 n4 c4) ∧ w'.cell? ⟨g6, 1, none⟩ = some (.slice B4 m4 k4) ∧ w'.cell? ⟨b1, f1 + k * 2, none⟩ = some (.int .i64 kt) ∧ w'.cell? ⟨b1, f1 + k * 2 + 1, none⟩ = some (.bool kd) ∧ True) ∧ Below W6.heap.size W6 w')) (by kernel_rfl) ⟨⟨x0, x1, s0, s1, p0, p1, trivial⟩, below_drewN (Below.refl _ _) 1⟩ (fun hHeld => ?_)
        obtain ⟨Xs, hXs⟩ : ∃ W, W = W6.drew := ⟨_, rfl⟩
        have HXs := Lib.hid (show Below W6.heap.size W6 Xs from by rw [hXs]; exact below_drewN (Below.refl _ _) 1)
        rw [← hXs] at hHeld ⊢
        clear hXs
        refine wpAnyH_take (i := 0) (v := ?_) rfl (by kernel_rfl) (by kernel_rfl) (by kernel_rfl) (fun _ _ _ h => h) (Or.inl ⟨by rfl, ?_⟩) (by assumption) ?_
        rotate_left
        · intro w hSw; (try dsimp only at hSw); go_simp; (try with_reducible rfl)
        (try simp only [Act.put, pt8])
        refine wpAnyH_take (i := 1) (v := ?_) rfl (by kernel_rfl) (by kernel_rfl) (by kernel_rfl) (fun _ _ _ h => h) (Or.inl ⟨by rfl, ?_⟩) (by assumption) ?_
        rotate_left
        · intro w hSw; (try dsimp only at hSw); go_simp; (try with_reducible rfl)
        (try simp only [Act.put, pt8])
        refine wpAnyH_take (i := 2) (v := ?_) rfl (by kernel_rfl) (by kernel_rfl) (by kernel_rfl) (fun _ _ _ h => h) (Or.inl ⟨by rfl, ?_⟩) (by assumption) ?_
        rotate_left
        · intro w hSw; (try dsimp only at hSw); go_simp; (try with_reducible rfl)
        (try simp only [Act.put, pt8])
        refine wpAnyH_take (i := 3) (v := ?_) rfl (by kernel_rfl) (by kernel_rfl) (by kernel_rfl) (fun _ _ _ h => h) (Or.inl ⟨by rfl, ?_⟩) (by assumption) ?_
        rotate_left
        · intro w hSw; (try dsimp only at hSw); go_simp; (try with_reducible rfl)
        (try simp only [Act.put, pt8])
        refine wpAnyH_take (i := 4) (v := ?_) rfl (by kernel_rfl) (by kernel_rfl) (by kernel_rfl) (fun _ _ _ h => h) (Or.inl ⟨by rfl, ?_⟩) (by assumption) ?_
        rotate_left
        · intro w hSw; (try dsimp only at hSw); go_simp; (try with_reducible rfl)
        (try simp only [Act.put, pt8])
        refine wpAnyH_take (i := 5) (v := ?_) rfl (by kernel_rfl) (by kernel_rfl) (by kernel_rfl) (fun _ _ _ h => h) (Or.inl ⟨by rfl, ?_⟩) (by assumption) ?_
        rotate_left
        · intro w hSw; (try dsimp only at hSw); go_simp; (try with_reducible rfl)
        (try simp only [Act.put, pt8])
        refine wpAnyH_ready (rs := [6, 10]) (by kernel_rfl) (by simp) ?_
        refine AllReadyH.cons rfl (fun K hK => ?_) (AllReadyH.cons rfl (fun K hK => ?_) (AllReadyH.nil))
        · -- 6 first
          go_simp
          refine (HCL.out _ hHeld.2).mono ?_
          rintro e Xc ⟨Ad, nd, cd, Dd, md, qd, rfl, hos, hb⟩
          rw [← HQ.out]
          have HOD := Lib.hid (fun s' (h : rst P s kt kd false = some s') => show ∃ ps, OwnSt W6.heap.size Xc (.slice Ad nd cd) (.slice Dd md qd) s' ps from (hos s' h).imp fun ps h => h.base hHeld.2.size)
          have HBC := Lib.hid (chain hHeld.2 hb)
          refine hK.out _ _ ⟨⟨kc HBC.out x0, kc HBC.out x1, kc HBC.out s0, kc HBC.out s1, kc HBC.out p0, kc HBC.out p1, trivial⟩, HBC.out⟩ (fun hHeld => ?_)
          clear hK K
          (try simp only [Act.put, pt8])
          clear hb hos
          refine wpAnyH_take (i := 7) (v := ?_) rfl (by kernel_rfl) (by kernel_rfl) (by kernel_rfl) (fun _ _ _ h => h) (Or.inl ⟨by rfl, ?_⟩) (by assumption) ?_
          rotate_left
          · intro w hSw; (try dsimp only at hSw); go_simp; (try with_reducible rfl)
          (try simp only [Act.put, pt8])
          refine wpAnyH_take (i := 8) (v := ?_) rfl (by kernel_rfl) (by kernel_rfl) (by kernel_rfl) (fun _ _ _ h => h) (Or.inl ⟨by rfl, ?_⟩) (by assumption) ?_
          rotate_left
          · intro w hSw; (try dsimp only at hSw); go_simp; (try with_reducible rfl)
          (try simp only [Act.put, pt8])
          refine wpAnyH_take (i := 9) (v := ?_) rfl (by kernel_rfl) (by kernel_rfl) (by kernel_rfl) (fun _ _ _ h => h) (Or.inl ⟨by rfl, ?_⟩) (by assumption) ?_
          rotate_left
          · intro w hSw; (try dsimp only at hSw); go_simp; (try with_reducible rfl)
          (try simp only [Act.put, pt8])
          refine wpAnyH_ready (rs := [10]) (by kernel_rfl) (by simp) ?_
          refine AllReadyH.cons rfl (fun K hK => ?_) AllReadyH.nil
          have HBA := Lib.hid (below_al hHeld.2 (.cells #[.slice none 0 0, .slice none 0 0] 33))
          go_simp
          refine hK.out _ _ ⟨⟨kc HBA.out x0, kc HBA.out x1, kc HBA.out s0, kc HBA.out s1, kc HBA.out p0, kc HBA.out p1, trivial⟩, HBA.out⟩ (fun hHeld => ?_)
          clear hK K
          (try simp only [Act.put, pt8])
          have HBa := Lib.hid (below_al (Below.refl Xc.heap.size Xc) (.cells #[.slice none 0 0, .slice none 0 0] 33))
          obtain ⟨Xa, hXa⟩ : ∃ W, W = Xc.alloc (.cells #[.slice none 0 0, .slice none 0 0] 33) := ⟨_, rfl⟩
          obtain ⟨ga, hga⟩ : ∃ g, g = Xc.heap.size := ⟨_, rfl⟩
          have HGa := Lib.hid (show W6.heap.size ≤ ga from by rw [hga]; exact HBC.out.size)
          have HQa := Lib.hid (show BoxC Xa ga 33 #[.slice none 0 0, .slice none 0 0] from by rw [hXa, hga]; exact BoxC.new Xc _ _)
          rw [← hXa] at hHeld HBA HBa ⊢
          (try rw [← hga])
          replace HOD := Lib.hid (fun s' h => show ∃ ps, OwnSt W6.heap.size Xa (.slice Ad nd cd) (.slice Dd md qd) s' ps from (HOD.out s' h).imp fun ps h => h.below HBa.out)
          clear hXa hga HBa
          refine wpAnyH_ready (rs := [11]) (by kernel_rfl) (by simp) ?_
          refine AllReadyH.cons rfl (fun K hK => ?_) AllReadyH.nil
          have q0 := HQa.out.cell 0 _ rfl
          have q1 := HQa.out.cell 1 _ rfl
          have u0 := HQa.out.frozen 0
          have u1 := HQa.out.frozen 1
          have HBS2 := Lib.hid (show Below W6.heap.size W6 ((Xa.setCell ⟨ga, 0, none⟩ (.slice Ad nd cd)).setCell ⟨ga, 1, none⟩ (.slice Dd md qd)) from (hHeld.2.setCell (p := ⟨ga, 0, none⟩) HGa.out _).setCell (p := ⟨ga, 1, none⟩) HGa.out _)
          have HQS := Lib.hid (show BoxC ((Xa.setCell ⟨ga, 0, none⟩ (.slice Ad nd cd)).setCell ⟨ga, 1, none⟩ (.slice Dd md qd)) ga 33 #[(.slice Ad nd cd), (.slice Dd md qd)] from (HQa.out.set 0 _).set 1 _)
          have HOS := Lib.hid (fun s' h => show ∃ ps, OwnSt W6.heap.size ((Xa.setCell ⟨ga, 0, none⟩ (.slice Ad nd cd)).setCell ⟨ga, 1, none⟩ (.slice Dd md qd)) (.slice Ad nd cd) (.slice Dd md qd) s' ps from (HOD.out s' h).imp fun ps h => (h.box HQa.out (by decide) (by decide) (by decide) 0 _).box (HQa.out.set 0 _) (by decide) (by decide) (by decide) 1 _)
          go_simp
          refine hK.out _ _ ⟨⟨kc HBS2.out x0, kc HBS2.out x1, kc HBS2.out s0, kc HBS2.out s1, kc HBS2.out p0, kc HBS2.out p1, trivial⟩, HBS2.out⟩ (fun hHeld => ?_)
          clear q0 q1 u0 u1
          clear hK K
          (try simp only [Act.put, pt8])
          refine wpAnyH_ready (rs := [12]) (by kernel_rfl) (by simp) ?_
          refine AllReadyH.cons rfl (fun K hK => ?_) AllReadyH.nil
          go_simp
          refine hK.out _ _ hHeld (fun hHeld => ?_)
          clear hK K
          (try simp only [Act.put, pt8])
          refine wpAnyH_done (by kernel_rfl) ?_ _
          clear hHeld
          go_wp2_with fail
          go_meet
          exact ⟨ga, Ad, nd, cd, Dd, md, qd, rfl, rfl, HQS.out, HOS.out, HBS2.out, HGa.out⟩
        · -- 10 first
          have HBA := Lib.hid (below_al hHeld.2 (.cells #[.slice none 0 0, .slice none 0 0] 33))
          go_simp
          refine hK.out _ _ ⟨⟨kc HBA.out x0, kc HBA.out x1, kc HBA.out s0, kc HBA.out s1, kc HBA.out p0, kc HBA.out p1, trivial⟩, HBA.out⟩ (fun hHeld => ?_)
          clear hK K
          (try simp only [Act.put, pt8])
          have HBa := Lib.hid (below_al (Below.refl Xs.heap.size Xs) (.cells #[.slice none 0 0, .slice none 0 0] 33))
          obtain ⟨Xa, hXa⟩ : ∃ W, W = Xs.alloc (.cells #[.slice none 0 0, .slice none 0 0] 33) := ⟨_, rfl⟩
          obtain ⟨ga, hga⟩ : ∃ g, g = Xs.heap.size := ⟨_, rfl⟩
          have HGa := Lib.hid (show W6.heap.size ≤ ga from by rw [hga]; exact HXs.out.size)
          have HQa := Lib.hid (show BoxC Xa ga 33 #[.slice none 0 0, .slice none 0 0] from by rw [hXa, hga]; exact BoxC.new Xs _ _)
          rw [← hXa] at hHeld HBA HBa ⊢
          (try rw [← hga])
          clear hXa hga HBa
          refine wpAnyH_ready (rs := [6]) (by kernel_rfl) (by simp) ?_
          refine AllReadyH.cons rfl (fun K hK => ?_) AllReadyH.nil
          go_simp
          refine (HCL.out _ hHeld.2).mono ?_
          rintro e Xc ⟨Ad, nd, cd, Dd, md, qd, rfl, hos, hb⟩
          rw [← HQ.out]
          have HOD := Lib.hid (fun s' (h : rst P s kt kd false = some s') => show ∃ ps, OwnSt W6.heap.size Xc (.slice Ad nd cd) (.slice Dd md qd) s' ps from (hos s' h).imp fun ps h => h.base hHeld.2.size)
          have HBC := Lib.hid (chain hHeld.2 hb)
          replace HQa := Lib.hid (HQa.out.below hb HQa.out.lt)
          refine hK.out _ _ ⟨⟨kc HBC.out x0, kc HBC.out x1, kc HBC.out s0, kc HBC.out s1, kc HBC.out p0, kc HBC.out p1, trivial⟩, HBC.out⟩ (fun hHeld => ?_)
          clear hK K
          (try simp only [Act.put, pt8])
          clear hb hos
          refine wpAnyH_take (i := 7) (v := ?_) rfl (by kernel_rfl) (by kernel_rfl) (by kernel_rfl) (fun _ _ _ h => h) (Or.inl ⟨by rfl, ?_⟩) (by assumption) ?_
          rotate_left
          · intro w hSw; (try dsimp only at hSw); go_simp; (try with_reducible rfl)
          (try simp only [Act.put, pt8])
          refine wpAnyH_take (i := 8) (v := ?_) rfl (by kernel_rfl) (by kernel_rfl) (by kernel_rfl) (fun _ _ _ h => h) (Or.inl ⟨by rfl, ?_⟩) (by assumption) ?_
          rotate_left
          · intro w hSw; (try dsimp only at hSw); go_simp; (try with_reducible rfl)
          (try simp only [Act.put, pt8])
          refine wpAnyH_take (i := 9) (v := ?_) rfl (by kernel_rfl) (by kernel_rfl) (by kernel_rfl) (fun _ _ _ h => h) (Or.inl ⟨by rfl, ?_⟩) (by assumption) ?_
          rotate_left
          · intro w hSw; (try dsimp only at hSw); go_simp; (try with_reducible rfl)
          (try simp only [Act.put, pt8])
          refine wpAnyH_ready (rs := [11]) (by kernel_rfl) (by simp) ?_
          refine AllReadyH.cons rfl (fun K hK => ?_) AllReadyH.nil
          have q0 := HQa.out.cell 0 _ rfl
          have q1 := HQa.out.cell 1 _ rfl
          have u0 := HQa.out.frozen 0
          have u1 := HQa.out.frozen 1
          have HBS2 := Lib.hid (show Below W6.heap.size W6 ((Xc.setCell ⟨ga, 0, none⟩ (.slice Ad nd cd)).setCell ⟨ga, 1, none⟩ (.slice Dd md qd)) from (hHeld.2.setCell (p := ⟨ga, 0, none⟩) HGa.out _).setCell (p := ⟨ga, 1, none⟩) HGa.out _)
          have HQS := Lib.hid (show BoxC ((Xc.setCell ⟨ga, 0, none⟩ (.slice Ad nd cd)).setCell ⟨ga, 1, none⟩ (.slice Dd md qd)) ga 33 #[(.slice Ad nd cd), (.slice Dd md qd)] from (HQa.out.set 0 _).set 1 _)
          have HOS := Lib.hid (fun s' h => show ∃ ps, OwnSt W6.heap.size ((Xc.setCell ⟨ga, 0, none⟩ (.slice Ad nd cd)).setCell ⟨ga, 1, none⟩ (.slice Dd md qd)) (.slice Ad nd cd) (.slice Dd md qd) s' ps from (HOD.out s' h).imp fun ps h => (h.box HQa.out (by decide) (by decide) (by decide) 0 _).box (HQa.out.set 0 _) (by decide) (by decide) (by decide) 1 _)
          go_simp
          refine hK.out _ _ ⟨⟨kc HBS2.out x0, kc HBS2.out x1, kc HBS2.out s0, kc HBS2.out s1, kc HBS2.out p0, kc HBS2.out p1, trivial⟩, HBS2.out⟩ (fun hHeld => ?_)
          clear q0 q1 u0 u1
          clear hK K
          (try simp only [Act.put, pt8])
          refine wpAnyH_ready (rs := [12]) (by kernel_rfl) (by simp) ?_
          refine AllReadyH.cons rfl (fun K hK => ?_) AllReadyH.nil
          go_simp
          refine hK.out _ _ hHeld (fun hHeld => ?_)
          clear hK K
          (try simp only [Act.put, pt8])
          refine wpAnyH_done (by kernel_rfl) ?_ _
          clear hHeld
          go_wp2_with fail
          go_meet
          exact ⟨ga, Ad, nd, cd, Dd, md, qd, rfl, rfl, HQS.out, HOS.out, HBS2.out, HGa.out⟩
      case rest =>
      obtain ⟨g11, Ae, ne, ce, De, me, ke, rfl, rfl, h11, hos, hb, hg11⟩ := hcut
      obtain ⟨W7, hW7⟩ : ∃ W, W = wc := ⟨_, rfl⟩
      rw [← hW7] at h11 hos hb ⊢
      clear hW7
      have H11 := Lib.hid h11
      have HOS := Lib.hid hos
      have HB5 := Lib.hid (chain HB4.out hb)
      have HBW5 := Lib.hid (chain HBW4.out hb)
      have H65 := Lib.hid (H64.out.below hb H64.out.lt)
      have H95 := Lib.hid (H9.out.below hb H9.out.lt)
      have HRW5 := Lib.hid (own_below HRW4.out hb)
      have HZ6 := Lib.hid (Nat.le_trans HBW4.out.size (Nat.le_refl W6.heap.size))
      have hz7 := HBW5.out.size
      clear h11 hos hb hg11 x0 x1 s0 s1 p0 p1 HCL HRW4 H64 HO4
      cases q
      · have HN1 := Lib.hid (show rst P s kt kd false = none from by have := HQ.out; cases h : rst P s kt kd false with | none => rfl | some a => (rw [h] at this; cases this))
        have HSL := Lib.hid (show strL P l = [] from by unfold strL; rw [HSH.out HN1.out]; rfl)
        have HRA := Lib.hid (show (runS P false (beg P) l).2.2 = false from by rw [HRH.out HN1.out])
        go_wp2
        refine bodyPost_ret (v := .tuple #[.slice none 0 0, .bool false]) (by simp [results, Try.results11, go_sem]) rfl ?_
        exact ⟨none, 0, 0, by rw [HRA.out], by rw [HSL.out]; rfl, by rw [HSL.out]; exact World.ownsRow_nil _ _ _ _, HB5.out⟩
      · obtain ⟨s2, hs2⟩ : ∃ s2, rst P s kt kd false = some s2 := by have := HQ.out; cases h : rst P s kt kd false with | none => (rw [h] at this; cases this) | some a => exact ⟨a, rfl⟩
        obtain ⟨ps2, ho2⟩ := HOS.out s2 hs2
        have HNX := Lib.hid (HRN.out s2 hs2)
        obtain ⟨y, hy⟩ := rst_at hs2
        obtain rfl := HXX.out y hy
        have HSX := Lib.hid (HSN.out s2 x hy hs2)
        have HO5 := Lib.hid (ho2.base HZ6.out)
        clear hs2 ho2 hy
        obtain ⟨p0, p1⟩ := HPK.out _ HB5.out
        have hk0 : k ≤ 50000 := by have := HNN.out; omega
        clear hn
        go_upto_region 11 with (at_builtin; refine wpList_append_own _ rfl _ _ 26 rfl W2.heap.size 52 i0 (.agg #[.int .i64 0, .bool false]) 2 16 Try.underlying26 hi hz0 hz1 hz2 rfl (by decide) _ nr (r.flatMap kiC) rfl (HRW5.out.alloc _) ⟨W7.heap.size, 0, none⟩ 1 1 [.int .i64 kt, .bool kd] rfl rfl (ki_new _ _ _) (by simp [Value.oneCell']) (by unfold maxLen; omega) (by omega) (by rw [World.size_alloc]; omega) ?_; intro v1 wz hown1 hg1 _; obtain ⟨Az, cz, rfl⟩ := own_slice hown1; skip)
        have HROW6 := Lib.hid hown1
        have HBA := Lib.hid (show Below W2.heap.size W2 wz from (below_append (below_al (Below.refl W7.heap.size W7) (.cells #[.int .i64 kt, .bool kd] 52) |> fun h => (HBW5.out.trans (h.mono hz7))) (HRW5.out.alloc _) (Nat.le_refl _) (by rw [World.size_alloc]; omega) hg1))
        have HAL := Lib.hid (below_al (Below.refl W7.heap.size W7) (.cells #[.int .i64 kt, .bool kd] 52))
        have H66 := Lib.hid ((H65.out.below HAL.out H65.out.lt).grown (by decide) (HRW5.out.alloc _) hg1)
        have H96 := Lib.hid ((H95.out.below HAL.out H95.out.lt).grown (by decide) (HRW5.out.alloc _) hg1)
        have H116 := Lib.hid ((H11.out.below HAL.out H11.out.lt).grown (by decide) (HRW5.out.alloc _) hg1)
        have HO6 := Lib.hid ((HO5.out.below HAL.out).app (HRW5.out.alloc _) hg1)
        clear hown1 hg1 H65 H95 H11 HO5 HAL p0 p1 HRW5
        have hz8 := HBA.out.size
        have t0 := H96.out.cell 0 _ rfl
        have n0 := H116.out.cell 0 _ rfl
        have n1 := H116.out.cell 1 _ rfl
        have s0 := H66.out.cell 0 _ rfl
        have s1 := H66.out.cell 1 _ rfl
        have u0 := H66.out.frozen 0
        have u1 := H66.out.frozen 1
        obtain ⟨p0, p1⟩ := HPK.out _ (HB2.out.trans (HBA.out.mono HB2.out.size))
        have HXS := Lib.hid (show r.flatMap kiC ++ [.int .i64 kt, .bool kd] = (r ++ [(kt, kd)]).flatMap kiC from by rw [List.flatMap_append]; rfl)
        have HXT := Lib.hid (show r.flatMap kiC ++ [.int .i64 kt, .bool kd] ++ [.int .i64 kt, .bool true] = (r ++ [(kt, kd), (kt, true)]).flatMap kiC from by rw [List.flatMap_append, List.append_assoc]; rfl)
        by_cases h3 : x.op = 3 ∨ x.op = 4
        · have HW := Lib.hid (show wkOf x (kt, kd) = [(kt, kd), (kt, true)] from by unfold wkOf late; rcases h3 with h | h <;> simp [h])
          rcases h3 with h3 | h3
          · have hq3 : (x.op == 3) = true := by rw [beq_iff_eq]; exact h3
            clear h3
            go_upto_region 13 with (at_builtin; refine wpList_append_own _ rfl _ _ 26 rfl W2.heap.size 52 i0 (.agg #[.int .i64 0, .bool false]) 2 16 Try.underlying26 hi hz0 hz1 hz2 rfl (by decide) _ (nr + 1) (r.flatMap kiC ++ [.int .i64 kt, .bool kd]) rfl (HROW6.out.alloc _) ⟨wz.heap.size, 0, none⟩ 1 1 [.int .i64 kt, .bool true] rfl rfl (ki_new _ _ _) (by simp [Value.oneCell']) (by unfold maxLen; omega) (by omega) (by rw [World.size_alloc]; omega) ?_; intro v1 wy hown1 hg1 _; obtain ⟨Ay, cy, rfl⟩ := own_slice hown1; skip)
            have HROW7 := Lib.hid hown1
            have HAL := Lib.hid (below_al (Below.refl wz.heap.size wz) (.cells #[.int .i64 kt, .bool true] 52))
            have HBZ := Lib.hid (show Below W2.heap.size W2 wy from below_append (HBA.out.trans (HAL.out.mono hz8)) (HROW6.out.alloc _) (Nat.le_refl _) (by rw [World.size_alloc]; omega) hg1)
            have H67 := Lib.hid ((H66.out.below HAL.out H66.out.lt).grown (by decide) (HROW6.out.alloc _) hg1)
            have H117 := Lib.hid ((H116.out.below HAL.out H116.out.lt).grown (by decide) (HROW6.out.alloc _) hg1)
            have HO7 := Lib.hid ((HO6.out.below HAL.out).app (HROW6.out.alloc _) hg1)
            clear hown1 hg1 t0 n0 n1 s0 s1 u0 u1 p0 p1
            have n0 := H117.out.cell 0 _ rfl
            have n1 := H117.out.cell 1 _ rfl
            have s0 := H67.out.cell 0 _ rfl
            have s1 := H67.out.cell 1 _ rfl
            have u0 := H67.out.frozen 0
            have u1 := H67.out.frozen 1
            go_wp2_with fail
            clear n0 n1 s0 s1 u0 u1
            go_roundw
            case rel => exact ⟨k + 1, s2, r ++ wkOf x (kt, kd), Ay, nr + 1 + 1, cy, _, _, _, _, _, _, ps2, by go_num, rfl, by omega, by rw [HW.out, List.length_append, HNR.out]; rfl, by omega, HNX.out, HSX.out, (H67.out.set 0 _).set 1 _, (HO7.out.box H67.out (by decide) (by decide) (by decide) 0 _).box (H67.out.set 0 _) (by decide) (by decide) (by decide) 1 _, by rw [HW.out, ← HXT.out]; exact own_box (own_box HROW7.out H67.out (by decide) 0 _) (H67.out.set 0 _) (by decide) 1 _, (HBZ.out.setCell (p := ⟨g6, 0, none⟩) HG6.out _).setCell (p := ⟨g6, 1, none⟩) HG6.out _⟩
            case measure => simp [intOf]; omega
          · have hq3 : (x.op == 3) = false := by rw [beq_eq_false_iff_ne]; omega
            have hq4 : (x.op == 4) = true := by rw [beq_iff_eq]; exact h3
            clear h3
            go_upto_region 13 with (at_builtin; refine wpList_append_own _ rfl _ _ 26 rfl W2.heap.size 52 i0 (.agg #[.int .i64 0, .bool false]) 2 16 Try.underlying26 hi hz0 hz1 hz2 rfl (by decide) _ (nr + 1) (r.flatMap kiC ++ [.int .i64 kt, .bool kd]) rfl (HROW6.out.alloc _) ⟨wz.heap.size, 0, none⟩ 1 1 [.int .i64 kt, .bool true] rfl rfl (ki_new _ _ _) (by simp [Value.oneCell']) (by unfold maxLen; omega) (by omega) (by rw [World.size_alloc]; omega) ?_; intro v1 wy hown1 hg1 _; obtain ⟨Ay, cy, rfl⟩ := own_slice hown1; skip)
            have HROW7 := Lib.hid hown1
            have HAL := Lib.hid (below_al (Below.refl wz.heap.size wz) (.cells #[.int .i64 kt, .bool true] 52))
            have HBZ := Lib.hid (show Below W2.heap.size W2 wy from below_append (HBA.out.trans (HAL.out.mono hz8)) (HROW6.out.alloc _) (Nat.le_refl _) (by rw [World.size_alloc]; omega) hg1)
            have H67 := Lib.hid ((H66.out.below HAL.out H66.out.lt).grown (by decide) (HROW6.out.alloc _) hg1)
            have H117 := Lib.hid ((H116.out.below HAL.out H116.out.lt).grown (by decide) (HROW6.out.alloc _) hg1)
            have HO7 := Lib.hid ((HO6.out.below HAL.out).app (HROW6.out.alloc _) hg1)
            clear hown1 hg1 t0 n0 n1 s0 s1 u0 u1 p0 p1
            have n0 := H117.out.cell 0 _ rfl
            have n1 := H117.out.cell 1 _ rfl
            have s0 := H67.out.cell 0 _ rfl
            have s1 := H67.out.cell 1 _ rfl
            have u0 := H67.out.frozen 0
            have u1 := H67.out.frozen 1
            go_wp2_with fail
            clear n0 n1 s0 s1 u0 u1
            go_roundw
            case rel => exact ⟨k + 1, s2, r ++ wkOf x (kt, kd), Ay, nr + 1 + 1, cy, _, _, _, _, _, _, ps2, by go_num, rfl, by omega, by rw [HW.out, List.length_append, HNR.out]; rfl, by omega, HNX.out, HSX.out, (H67.out.set 0 _).set 1 _, (HO7.out.box H67.out (by decide) (by decide) (by decide) 0 _).box (H67.out.set 0 _) (by decide) (by decide) (by decide) 1 _, by rw [HW.out, ← HXT.out]; exact own_box (own_box HROW7.out H67.out (by decide) 0 _) (H67.out.set 0 _) (by decide) 1 _, (HBZ.out.setCell (p := ⟨g6, 0, none⟩) HG6.out _).setCell (p := ⟨g6, 1, none⟩) HG6.out _⟩
            case measure => simp [intOf]; omega
        · have HW := Lib.hid (show wkOf x (kt, kd) = [(kt, kd)] from by unfold wkOf late; rw [not_or] at h3; simp [h3.1, h3.2])
          rw [not_or] at h3
          have hq3 : (x.op == 3) = false := by rw [beq_eq_false_iff_ne]; exact h3.1
          have hq4 : (x.op == 4) = false := by rw [beq_eq_false_iff_ne]; exact h3.2
          clear h3
          go_wp2_with fail
          clear t0 n0 n1 s0 s1 u0 u1 p0 p1
          go_roundw
          case rel => exact ⟨k + 1, s2, r ++ wkOf x (kt, kd), Az, nr + 1, cz, _, _, _, _, _, _, ps2, by go_num, rfl, by omega, by rw [HW.out, List.length_append, HNR.out]; rfl, by omega, HNX.out, HSX.out, (H66.out.set 0 _).set 1 _, (HO6.out.box H66.out (by decide) (by decide) (by decide) 0 _).box (H66.out.set 0 _) (by decide) (by decide) (by decide) 1 _, by rw [HW.out, ← HXS.out]; exact own_box (own_box HROW6.out H66.out (by decide) 0 _) (H66.out.set 0 _) (by decide) 1 _, (HBA.out.setCell (p := ⟨g6, 0, none⟩) HG6.out _).setCell (p := ⟨g6, 1, none⟩) HG6.out _⟩
          case measure => simp [intOf]; omega
    · obtain rfl : l.length = k := by omega
      have HALL := Lib.hid (show runS P false (beg P) l = (s, l.length, true) from by have := HRUN.out; rwa [List.take_length] at this)
      have HSL := Lib.hid (show strL P l = r from by have := HSTR.out; rw [List.take_length] at this; unfold strL; rw [this]; rfl)
      have HRA := Lib.hid (show (runS P false (beg P) l).2.2 = true from by rw [HALL.out])
      go_wp2
      refine bodyPost_ret (v := .tuple #[.slice Ar nr cr, .bool true]) (by simp [results, Try.results11, go_sem]) rfl ?_
      exact ⟨Ar, nr, cr, by rw [HRA.out], by rw [HSL.out]; exact HNR.out, by rw [HSL.out]; exact own_base HROW.out HB2.out.size, HB3.out⟩
end Go.Proofs.Ytlpjgaeelnlipaa
