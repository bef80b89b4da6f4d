/-
  THE DOCUMENT's Last, View, SameInts, Same (of alike rows).
  THE DOCUMENT's Push: two appends in a region that draws its order.
-/
import Derived.Test.YtlpjgaeelnlipaaGreatK12
import Derived.Deep.RegionHeld3
import Derived.Deep.DeepCutAuto
import Derived.Test.YtlpjgaeelnlipaaGreatK02
set_option linter.unusedVariables false
set_option linter.unusedSimpArgs false
namespace Go.Proofs.YtlpjgaeelnlipaaGreat
open Go.RowKit
open BfM

theorem lastV_hit {b : List Wr} {l : Int} {k : Nat} (hk : k < b.length) (h : last (b.take (k + 1)) l = last b l) (hl : b[k].loc = l) : lastV b l = .tuple #[.int .i64 b[k].n, .bool true] := by
  unfold lastV; rw [last_hit hk h hl]
theorem lastV_no {b : List Wr} {l : Int} (h : last (b.take 0) l = last b l) : lastV b l = .tuple #[.int .i64 0, .bool false] := by
  unfold lastV; rw [← h]; rfl
set_option maxHeartbeats 4000000 in
set_option maxRecDepth 100000 in
theorem rlast_any {B : Nat} {v : Value} {b : List Wr} (l : Int) (w : World) (hv : WrR B w v b) (hBB : B ≤ w.heap.size) (hl : b.length ≤ 1000000) :
    Calls Tryz.prog 71 #[v, .int .i64 l] w fun e w' => e = .returned (lastV b l) ∧ Below w.heap.size w w' := by
  obtain ⟨A1, c1, rfl, g1, g2, -, g3⟩ := hv
  unfold maxLen at g2
  have g3 := wr_at (c := c1) g3
  go_enter Tryz.func71, Tryz.ntmps71
  go_wp2
  go_loopw [6] (fun i wr => ∃ k : Nat, k ≤ b.length ∧ i = .int .i64 ((k : Int) - 1) ∧ last (b.take k) l = last b l ∧ Below w.heap.size w wr) (fun i _ => (intOf i + 1).toNat)
  case atStart => exact ⟨b.length, Nat.le_refl _, rfl, by rw [List.take_length], Below.refl _ _⟩
  case round =>
    obtain ⟨k, hk, rfl, hla, hB⟩ := hrel
    have HLA := Lib.hid hla
    clear hla
    rcases Nat.eq_zero_or_pos k with rfl | hpos
    · have HN := Lib.hid (lastV_no HLA.out)
      go_wp2
      go_ret2
      exact ⟨by rw [HN.out]; rfl, hB⟩
    · obtain ⟨k, rfl⟩ : ∃ j, k = j + 1 := ⟨k - 1, by omega⟩
      have hkl : k < b.length := by omega
      obtain ⟨b2, f2, rfl, hb2, hc2⟩ := g3 (by omega)
      obtain ⟨y0, y1⟩ := hc2 k hkl
      have z0 := ((hB.mono hBB).cell (p := ⟨b2, f2 + k * 2, none⟩) hb2).trans y0
      have z1 := ((hB.mono hBB).cell (p := ⟨b2, f2 + k * 2 + 1, none⟩) hb2).trans y1
      have HH := Lib.hid (fun h => lastV_hit hkl HLA.out h)
      have HM := Lib.hid (fun h => last_miss hkl HLA.out h)
      have hkk : ((k + 1 : Nat) : Int) - 1 = (k : Int) := by omega
      rw [hkk]
      generalize b[k] = x at *
      clear y0 y1 hc2 g3 hkk
      by_cases hx : x.loc = l
      · have hh := Lib.hid (HH.out hx)
        go_wp2
        go_ret2
        exact ⟨by rw [hh.out]; rfl, hB⟩
      · have hmm := Lib.hid (HM.out hx)
        go_wp2
        go_roundw
        case rel => exact ⟨k, by omega, by go_num, hmm.out, hB⟩
        case measure => simp [intOf]
set_option maxHeartbeats 4000000 in
set_option maxRecDepth 100000 in
theorem rview_any {B : Nat} {v u : Value} {b : List Wr} {m : List Int} (l : Int) (w : World) (hv : WrR B w v b) (hu : IntR B w u m) (hBB : B ≤ w.heap.size) (hl : b.length ≤ 1000000) (hm : m.length ≤ 1000000) :
    Calls Tryz.prog 53 #[v, u, .int .i64 l] w fun e w' => e = .returned (viewV b m l) ∧ Below w.heap.size w w' := by
  have HLA := Lib.hid (rlast_any l w hv hBB hl)
  obtain ⟨A1, c1, rfl, -⟩ := hv
  obtain ⟨A2, c2, rfl, g1, g2, -, g3⟩ := hu
  unfold maxLen at g2
  have g3 := nu_at (c := c2) g3
  cases hla : last b l with
  | some n =>
    have hV : viewV b m l = .tuple #[.int .i64 n, .bool true] := by unfold viewV view; rw [hla]
    have hL : lastV b l = .tuple #[.int .i64 n, .bool true] := by unfold lastV; rw [hla]
    rw [hL] at HLA
    rw [hV]
    clear hla hV hL g3
    go_enter Tryz.func53, Tryz.ntmps53
    go_wp2_with fail
    refine HLA.out.mono ?_
    rintro e w1 ⟨rfl, hb1⟩
    go_wp2
    go_ret2
    exact ⟨rfl, hb1⟩
  | none =>
    have hL : lastV b l = .tuple #[.int .i64 0, .bool false] := by unfold lastV; rw [hla]
    rw [hL] at HLA
    by_cases hlo : l < 0
    · have hp : ¬ plc m.length l = true := by unfold plc; rw [decide_eq_true_eq]; omega
      have hV : viewV b m l = .tuple #[.int .i64 0, .bool false] := by unfold viewV view; rw [hla]; simp [hp]
      rw [hV]
      clear hla hV hL g3 hp
      go_enter Tryz.func53, Tryz.ntmps53
      go_wp2_with fail
      refine HLA.out.mono ?_
      rintro e w1 ⟨rfl, hb1⟩
      go_wp2
      go_ret2
      exact ⟨rfl, hb1⟩
    by_cases hhi : l < m.length
    · have hp : plc m.length l = true := by unfold plc; rw [decide_eq_true_eq]; omega
      obtain ⟨k, rfl⟩ : ∃ k : Nat, l = k := ⟨l.toNat, by omega⟩
      have hk : k < m.length := by omega
      have hV : viewV b m k = .tuple #[.int .i64 m[k], .bool true] := by unfold viewV view; rw [hla]; simp [hp, hk]
      rw [hV]
      obtain ⟨b2, f2, rfl, hb2, hc2⟩ := g3 (by omega)
      have hc := Lib.hid (hc2 k hk)
      generalize m[k] = x at *
      clear hla hV hL g3 hp hc2 hlo hhi
      go_enter Tryz.func53, Tryz.ntmps53
      go_wp2_with fail
      refine HLA.out.mono ?_
      rintro e w1 ⟨rfl, hb1⟩
      have hcc := ((hb1.mono hBB).cell (p := ⟨b2, f2 + k, none⟩) hb2).trans hc.out
      clear HLA
      go_wp2
      go_ret2
      exact ⟨rfl, hb1⟩
    · have hp : ¬ plc m.length l = true := by unfold plc; rw [decide_eq_true_eq]; omega
      have hV : viewV b m l = .tuple #[.int .i64 0, .bool false] := by unfold viewV view; rw [hla]; simp [hp]
      rw [hV]
      clear hla hV hL g3 hp
      go_enter Tryz.func53, Tryz.ntmps53
      go_wp2_with fail
      refine HLA.out.mono ?_
      rintro e w1 ⟨rfl, hb1⟩
      go_wp2
      go_ret2
      exact ⟨rfl, hb1⟩
end Go.Proofs.YtlpjgaeelnlipaaGreat
namespace Go.Proofs.YtlpjgaeelnlipaaGreat
open Go.RowKit
open BfM

theorem push_own {w : World} {a c : Nat} {v : Value} {b : List Wr} {x : Wr} (h : w.ownsRow c 94 2 v (b.length + 1) (b.flatMap wrC ++ wrC x)) (ha : a ≤ c) : OwnW a w v (b ++ [x]) := by
  have := own_base h ha
  unfold OwnW
  rw [List.length_append, List.flatMap_append]
  simpa using this
set_option maxHeartbeats 4000000 in
set_option maxRecDepth 100000 in
theorem rpush_any {B : Nat} {v : Value} {b : List Wr} (x : Wr) (w : World) (hv : WrR B w v b) (hBB : B ≤ w.heap.size) (hl : b.length ≤ 1000000) :
    Calls Tryz.prog 54 #[v, .agg #[.int .i64 x.loc, .int .i64 x.n]] w fun e w' => ∃ u, e = .returned u ∧ OwnW w.heap.size w' u (b ++ [x]) ∧ Below w.heap.size w w' := by
  obtain ⟨A, c, rfl, h1, h2, h0, h3⟩ := hv
  obtain ⟨l, n⟩ := x
  unfold maxLen at h2
  obtain ⟨i0, hi0, hz0, hz1, hz2⟩ := info_parts info_wr
  have hB1 := below_al (Below.refl w.heap.size w) (.cells #[.int .i64 l, .int .i64 n] 94)
  have x0 : (w.alloc (.cells #[.int .i64 l, .int .i64 n] 94)).cell? ⟨w.heap.size, 0, none⟩ = some (.int .i64 l) := by rw [World.cell?_alloc_at _ _ _ _ rfl]; rfl
  have x1 : (w.alloc (.cells #[.int .i64 l, .int .i64 n] 94)).cell? ⟨w.heap.size, 1, none⟩ = some (.int .i64 n) := by rw [World.cell?_alloc_at _ _ _ _ rfl]; rfl
  have HSRC := Lib.hid (fun W (hW : Below (w.alloc (.cells #[.int .i64 l, .int .i64 n] 94)).heap.size (w.alloc (.cells #[.int .i64 l, .int .i64 n] 94)) W) => src_rw (W := W) wrC_len h0 h3 ((chain hB1 hW).mono hBB))
  clear h3
  go_enter Tryz.func54, Tryz.ntmps54
  go_upto_region 1 with fail
  obtain ⟨W1, hW1⟩ : ∃ W, W = w.alloc (.cells #[.int .i64 l, .int .i64 n] 94) := ⟨_, rfl⟩
  obtain ⟨gx, hgx⟩ : ∃ g, g = w.heap.size := ⟨_, rfl⟩
  rw [← hW1, ← hgx] at x0 x1 ⊢
  rw [← hW1] at hB1 HSRC
  have HGX := Lib.hid hgx
  clear hW1 hgx
  refine wp_region_held_drew (S := (fun w' => (w'.cell? ⟨gx, 0, none⟩ = some (.int .i64 l) ∧ w'.cell? ⟨gx, 1, none⟩ = some (.int .i64 n)) ∧ Below W1.heap.size W1 w')) (by kernel_rfl) ⟨⟨x0, x1⟩, below_drewN (Below.refl _ _) 1⟩ (fun hHeld => ?_)
  obtain ⟨Xa, hXa⟩ : ∃ W, W = W1.drew := ⟨_, rfl⟩
  have HLXa := Lib.hid (show Below W1.heap.size W1 Xa from by rw [hXa]; exact below_drewN (Below.refl _ _) 1)
  rw [← hXa] at hHeld ⊢
  clear hXa
  refine wtk 1 ?_ ?_ ?_
  rotate_left
  · intro w hSw; (try dsimp only at hSw); go_simp; (try with_reducible rfl)
  (try simp only [Act.put, pt8])
  refine wtk 3 ?_ ?_ ?_
  rotate_left
  · intro w hSw; (try dsimp only at hSw); go_simp; (try with_reducible rfl)
  (try simp only [Act.put, pt8])
  refine wpAnyH_ready (rs := [0, 4]) (by kernel_rfl) (by simp) ?_
  refine AllReadyH.cons rfl (fun K hK => ?_) (AllReadyH.cons rfl (fun K hK => ?_) (AllReadyH.nil))
  · -- 0 first
    go_simp
    refine hK.out _ _ ⟨⟨kc (below_al HLXa.out (.cells #[] 94)) x0, kc (below_al HLXa.out (.cells #[] 94)) x1⟩, below_al HLXa.out (.cells #[] 94)⟩ (fun hHeld => ?_)
    clear hK K
    (try simp only [Act.put, pt8])
    obtain ⟨X0, hX0⟩ : ∃ W, W = Xa.alloc (.cells #[] 94) := ⟨_, rfl⟩
    have HLX0 := Lib.hid (show Below W1.heap.size W1 X0 from by rw [hX0]; exact below_al HLXa.out (.cells #[] 94))
    have HO := Lib.hid (show X0.ownsRow W1.heap.size 94 2 (.slice (some ⟨Xa.heap.size, 0, none⟩) 0 0) 0 [] from by rw [hX0]; exact World.ownsRow_lit (base := W1.heap.size) (e := 94) (size := 2) Xa #[] 0 HLXa.out.size (by decide) rfl)
    have HS0 := Lib.hid (show X0.heap.size = Xa.heap.size + 1 from by rw [hX0]; simp)
    rw [← hX0] at hHeld ⊢
    clear hX0
    refine wpAnyH_ready (rs := [2, 4]) (by kernel_rfl) (by simp) ?_
    refine AllReadyH.cons rfl (fun K hK => ?_) (AllReadyH.cons rfl (fun K hK => ?_) (AllReadyH.nil))
    · -- 2 first
      refine step_append_src (by rfl) _ _ _ (by rfl) W1.heap.size 94 i0 (.agg #[.int .i64 0, .int .i64 0]) 2 16 Tryz.underlying42 hi0 hz0 hz1 hz2 (by rfl) (by decide) _ 0 [] (by rfl) HO.out A b.length c (b.flatMap wrC) (by rfl) (fl_len wrC_len b) h0 (HSRC.out _ HLX0.out) (one_w b) (by unfold maxLen; omega) (by omega) HLX0.out.size (fun v1 w2 hown2 hg2 => ?_)
      simp only [Nat.zero_add, List.nil_append] at hown2
      have HLw2 := Lib.hid (below_append HLX0.out HO.out (Nat.le_refl _) HLX0.out.size hg2)
      replace HO := Lib.hid hown2
      clear hown2 hg2
      refine hK.out _ _ ⟨⟨kc (HLw2.out) x0, kc (HLw2.out) x1⟩, HLw2.out⟩ (fun hHeld => ?_)
      clear hK K
      (try simp only [Act.put, pt8])
      refine wpAnyH_ready (rs := [4]) (by kernel_rfl) (by simp) ?_
      refine AllReadyH.cons rfl (fun K hK => ?_) AllReadyH.nil
      go_simp
      refine hK.out _ _ ⟨⟨kc (below_al HLw2.out (.cells #[.int .i64 l, .int .i64 n] 94)) x0, kc (below_al HLw2.out (.cells #[.int .i64 l, .int .i64 n] 94)) x1⟩, below_al HLw2.out (.cells #[.int .i64 l, .int .i64 n] 94)⟩ (fun hHeld => ?_)
      clear hK K
      (try simp only [Act.put, pt8])
      obtain ⟨X4, hX4⟩ : ∃ W, W = w2.alloc (.cells #[.int .i64 l, .int .i64 n] 94) := ⟨_, rfl⟩
      have HLX4 := Lib.hid (show Below W1.heap.size W1 X4 from by rw [hX4]; exact below_al HLw2.out (.cells #[.int .i64 l, .int .i64 n] 94))
      have HF := Lib.hid (fun (j : Nat) (u : Value) (h : (wrC (⟨l, n⟩ : Wr))[j]? = some u) => (show X4.cell? ⟨w2.heap.size, j, none⟩ = some u from by
        have e := World.news_of_block (heap_alloc_new w2 (.cells #[.int .i64 l, .int .i64 n] 94)) j u h
        rw [Addr.add_lit, Nat.zero_add] at e
        rw [hX4]; exact e))
      have HS4 := Lib.hid (show X4.heap.size = w2.heap.size + 1 from by rw [hX4]; simp)
      replace HO := Lib.hid (own_below HO.out (show Below w2.heap.size w2 X4 from by rw [hX4]; exact below_al (Below.refl _ _) (.cells #[.int .i64 l, .int .i64 n] 94)))
      rw [← hX4] at hHeld ⊢
      clear hX4
      refine wpAnyH_ready (rs := [5]) (by kernel_rfl) (by simp) ?_
      refine AllReadyH.cons rfl (fun K hK => ?_) AllReadyH.nil
      refine step_append_src (by rfl) _ _ _ (by rfl) W1.heap.size 94 i0 (.agg #[.int .i64 0, .int .i64 0]) 2 16 Tryz.underlying42 hi0 hz0 hz1 hz2 (by rfl) (by decide) _ b.length (b.flatMap wrC) (by rfl) HO.out (some ⟨w2.heap.size, 0, none⟩) 1 1 (wrC (⟨l, n⟩ : Wr)) (by rfl) (by rfl) (fun c => (by cases c)) (fun ad e j u h => by injection e with e; rw [← e, Addr.add_lit, Nat.zero_add]; exact HF.out j u h) (by simp [wrC, Value.oneCell']) (by unfold maxLen; omega) (by omega) HLX4.out.size (fun v2 w5 hown5 hg5 => ?_)
      have HL5 := Lib.hid (below_append HLX4.out HO.out (Nat.le_refl _) HLX4.out.size hg5)
      have HO5 := Lib.hid hown5
      clear hown5 hg5 HF HO
      refine hK.out _ _ ⟨⟨kc (HL5.out) x0, kc (HL5.out) x1⟩, HL5.out⟩ (fun hHeld => ?_)
      clear hK K
      (try simp only [Act.put, pt8])
      refine wtk 6 ?_ ?_ ?_
      rotate_left
      · intro w hSw; (try dsimp only at hSw); go_simp; (try with_reducible rfl)
      (try simp only [Act.put, pt8])
      refine wpAnyH_done (by kernel_rfl) ?_ _
      clear hHeld x0 x1
      obtain ⟨A8, c8, rfl⟩ := own_slice HO5.out
      go_wp2
      go_ret
      exact ⟨_, rfl, push_own HO5.out hB1.size, chain hB1 HL5.out⟩
    · -- 4 first
      go_simp
      refine hK.out _ _ ⟨⟨kc (below_al HLX0.out (.cells #[.int .i64 l, .int .i64 n] 94)) x0, kc (below_al HLX0.out (.cells #[.int .i64 l, .int .i64 n] 94)) x1⟩, below_al HLX0.out (.cells #[.int .i64 l, .int .i64 n] 94)⟩ (fun hHeld => ?_)
      clear hK K
      (try simp only [Act.put, pt8])
      obtain ⟨X4, hX4⟩ : ∃ W, W = X0.alloc (.cells #[.int .i64 l, .int .i64 n] 94) := ⟨_, rfl⟩
      have HLX4 := Lib.hid (show Below W1.heap.size W1 X4 from by rw [hX4]; exact below_al HLX0.out (.cells #[.int .i64 l, .int .i64 n] 94))
      have HF := Lib.hid (fun (j : Nat) (u : Value) (h : (wrC (⟨l, n⟩ : Wr))[j]? = some u) => (show X4.cell? ⟨X0.heap.size, j, none⟩ = some u from by
        have e := World.news_of_block (heap_alloc_new X0 (.cells #[.int .i64 l, .int .i64 n] 94)) j u h
        rw [Addr.add_lit, Nat.zero_add] at e
        rw [hX4]; exact e))
      have HS4 := Lib.hid (show X4.heap.size = X0.heap.size + 1 from by rw [hX4]; simp)
      replace HO := Lib.hid (own_below HO.out (show Below X0.heap.size X0 X4 from by rw [hX4]; exact below_al (Below.refl _ _) (.cells #[.int .i64 l, .int .i64 n] 94)))
      rw [← hX4] at hHeld ⊢
      clear hX4
      refine wpAnyH_ready (rs := [2]) (by kernel_rfl) (by simp) ?_
      refine AllReadyH.cons rfl (fun K hK => ?_) AllReadyH.nil
      refine step_append_src (by rfl) _ _ _ (by rfl) W1.heap.size 94 i0 (.agg #[.int .i64 0, .int .i64 0]) 2 16 Tryz.underlying42 hi0 hz0 hz1 hz2 (by rfl) (by decide) _ 0 [] (by rfl) HO.out A b.length c (b.flatMap wrC) (by rfl) (fl_len wrC_len b) h0 (HSRC.out _ HLX4.out) (one_w b) (by unfold maxLen; omega) (by omega) HLX4.out.size (fun v1 w2 hown2 hg2 => ?_)
      simp only [Nat.zero_add, List.nil_append] at hown2
      have HLw2 := Lib.hid (below_append HLX4.out HO.out (Nat.le_refl _) HLX4.out.size hg2)
      replace HF := Lib.hid (fun (j : Nat) (u : Value) (h : (wrC (⟨l, n⟩ : Wr))[j]? = some u) => hg2.cell (HF.out j u h) (show some X0.heap.size ≠ some Xa.heap.size from fun e => by injection e with e; have h3 := HS0.out; have h9 := HS4.out; omega))
      replace HO := Lib.hid hown2
      clear hown2 hg2
      refine hK.out _ _ ⟨⟨kc (HLw2.out) x0, kc (HLw2.out) x1⟩, HLw2.out⟩ (fun hHeld => ?_)
      clear hK K
      (try simp only [Act.put, pt8])
      refine wpAnyH_ready (rs := [5]) (by kernel_rfl) (by simp) ?_
      refine AllReadyH.cons rfl (fun K hK => ?_) AllReadyH.nil
      refine step_append_src (by rfl) _ _ _ (by rfl) W1.heap.size 94 i0 (.agg #[.int .i64 0, .int .i64 0]) 2 16 Tryz.underlying42 hi0 hz0 hz1 hz2 (by rfl) (by decide) _ b.length (b.flatMap wrC) (by rfl) HO.out (some ⟨X0.heap.size, 0, none⟩) 1 1 (wrC (⟨l, n⟩ : Wr)) (by rfl) (by rfl) (fun c => (by cases c)) (fun ad e j u h => by injection e with e; rw [← e, Addr.add_lit, Nat.zero_add]; exact HF.out j u h) (by simp [wrC, Value.oneCell']) (by unfold maxLen; omega) (by omega) HLw2.out.size (fun v2 w5 hown5 hg5 => ?_)
      have HL5 := Lib.hid (below_append HLw2.out HO.out (Nat.le_refl _) HLw2.out.size hg5)
      have HO5 := Lib.hid hown5
      clear hown5 hg5 HF HO
      refine hK.out _ _ ⟨⟨kc (HL5.out) x0, kc (HL5.out) x1⟩, HL5.out⟩ (fun hHeld => ?_)
      clear hK K
      (try simp only [Act.put, pt8])
      refine wtk 6 ?_ ?_ ?_
      rotate_left
      · intro w hSw; (try dsimp only at hSw); go_simp; (try with_reducible rfl)
      (try simp only [Act.put, pt8])
      refine wpAnyH_done (by kernel_rfl) ?_ _
      clear hHeld x0 x1
      obtain ⟨A8, c8, rfl⟩ := own_slice HO5.out
      go_wp2
      go_ret
      exact ⟨_, rfl, push_own HO5.out hB1.size, chain hB1 HL5.out⟩
  · -- 4 first
    go_simp
    refine hK.out _ _ ⟨⟨kc (below_al HLXa.out (.cells #[.int .i64 l, .int .i64 n] 94)) x0, kc (below_al HLXa.out (.cells #[.int .i64 l, .int .i64 n] 94)) x1⟩, below_al HLXa.out (.cells #[.int .i64 l, .int .i64 n] 94)⟩ (fun hHeld => ?_)
    clear hK K
    (try simp only [Act.put, pt8])
    obtain ⟨X4, hX4⟩ : ∃ W, W = Xa.alloc (.cells #[.int .i64 l, .int .i64 n] 94) := ⟨_, rfl⟩
    have HLX4 := Lib.hid (show Below W1.heap.size W1 X4 from by rw [hX4]; exact below_al HLXa.out (.cells #[.int .i64 l, .int .i64 n] 94))
    have HF := Lib.hid (fun (j : Nat) (u : Value) (h : (wrC (⟨l, n⟩ : Wr))[j]? = some u) => (show X4.cell? ⟨Xa.heap.size, j, none⟩ = some u from by
      have e := World.news_of_block (heap_alloc_new Xa (.cells #[.int .i64 l, .int .i64 n] 94)) j u h
      rw [Addr.add_lit, Nat.zero_add] at e
      rw [hX4]; exact e))
    have HS4 := Lib.hid (show X4.heap.size = Xa.heap.size + 1 from by rw [hX4]; simp)
    rw [← hX4] at hHeld ⊢
    clear hX4
    refine wpAnyH_ready (rs := [0]) (by kernel_rfl) (by simp) ?_
    refine AllReadyH.cons rfl (fun K hK => ?_) AllReadyH.nil
    go_simp
    refine hK.out _ _ ⟨⟨kc (below_al HLX4.out (.cells #[] 94)) x0, kc (below_al HLX4.out (.cells #[] 94)) x1⟩, below_al HLX4.out (.cells #[] 94)⟩ (fun hHeld => ?_)
    clear hK K
    (try simp only [Act.put, pt8])
    obtain ⟨X0, hX0⟩ : ∃ W, W = X4.alloc (.cells #[] 94) := ⟨_, rfl⟩
    have HLX0 := Lib.hid (show Below W1.heap.size W1 X0 from by rw [hX0]; exact below_al HLX4.out (.cells #[] 94))
    have HO := Lib.hid (show X0.ownsRow W1.heap.size 94 2 (.slice (some ⟨X4.heap.size, 0, none⟩) 0 0) 0 [] from by rw [hX0]; exact World.ownsRow_lit (base := W1.heap.size) (e := 94) (size := 2) X4 #[] 0 HLX4.out.size (by decide) rfl)
    have HS0 := Lib.hid (show X0.heap.size = X4.heap.size + 1 from by rw [hX0]; simp)
    replace HF := Lib.hid (fun (j : Nat) (u : Value) (h : (wrC (⟨l, n⟩ : Wr))[j]? = some u) => (show X0.cell? ⟨Xa.heap.size, j, none⟩ = some u from by rw [hX0]; exact kc (below_al (Below.refl _ _) (.cells #[] 94)) (HF.out j u h)))
    rw [← hX0] at hHeld ⊢
    clear hX0
    refine wpAnyH_ready (rs := [2]) (by kernel_rfl) (by simp) ?_
    refine AllReadyH.cons rfl (fun K hK => ?_) AllReadyH.nil
    refine step_append_src (by rfl) _ _ _ (by rfl) W1.heap.size 94 i0 (.agg #[.int .i64 0, .int .i64 0]) 2 16 Tryz.underlying42 hi0 hz0 hz1 hz2 (by rfl) (by decide) _ 0 [] (by rfl) HO.out A b.length c (b.flatMap wrC) (by rfl) (fl_len wrC_len b) h0 (HSRC.out _ HLX0.out) (one_w b) (by unfold maxLen; omega) (by omega) HLX0.out.size (fun v1 w2 hown2 hg2 => ?_)
    simp only [Nat.zero_add, List.nil_append] at hown2
    have HLw2 := Lib.hid (below_append HLX0.out HO.out (Nat.le_refl _) HLX0.out.size hg2)
    replace HF := Lib.hid (fun (j : Nat) (u : Value) (h : (wrC (⟨l, n⟩ : Wr))[j]? = some u) => hg2.cell (HF.out j u h) (show some Xa.heap.size ≠ some X4.heap.size from fun e => by injection e with e; have h3 := HS0.out; have h9 := HS4.out; omega))
    replace HO := Lib.hid hown2
    clear hown2 hg2
    refine hK.out _ _ ⟨⟨kc (HLw2.out) x0, kc (HLw2.out) x1⟩, HLw2.out⟩ (fun hHeld => ?_)
    clear hK K
    (try simp only [Act.put, pt8])
    refine wpAnyH_ready (rs := [5]) (by kernel_rfl) (by simp) ?_
    refine AllReadyH.cons rfl (fun K hK => ?_) AllReadyH.nil
    refine step_append_src (by rfl) _ _ _ (by rfl) W1.heap.size 94 i0 (.agg #[.int .i64 0, .int .i64 0]) 2 16 Tryz.underlying42 hi0 hz0 hz1 hz2 (by rfl) (by decide) _ b.length (b.flatMap wrC) (by rfl) HO.out (some ⟨Xa.heap.size, 0, none⟩) 1 1 (wrC (⟨l, n⟩ : Wr)) (by rfl) (by rfl) (fun c => (by cases c)) (fun ad e j u h => by injection e with e; rw [← e, Addr.add_lit, Nat.zero_add]; exact HF.out j u h) (by simp [wrC, Value.oneCell']) (by unfold maxLen; omega) (by omega) HLw2.out.size (fun v2 w5 hown5 hg5 => ?_)
    have HL5 := Lib.hid (below_append HLw2.out HO.out (Nat.le_refl _) HLw2.out.size hg5)
    have HO5 := Lib.hid hown5
    clear hown5 hg5 HF HO
    refine hK.out _ _ ⟨⟨kc (HL5.out) x0, kc (HL5.out) x1⟩, HL5.out⟩ (fun hHeld => ?_)
    clear hK K
    (try simp only [Act.put, pt8])
    refine wtk 6 ?_ ?_ ?_
    rotate_left
    · intro w hSw; (try dsimp only at hSw); go_simp; (try with_reducible rfl)
    (try simp only [Act.put, pt8])
    refine wpAnyH_done (by kernel_rfl) ?_ _
    clear hHeld x0 x1
    obtain ⟨A8, c8, rfl⟩ := own_slice HO5.out
    go_wp2
    go_ret
    exact ⟨_, rfl, push_own HO5.out hB1.size, chain hB1 HL5.out⟩
end Go.Proofs.YtlpjgaeelnlipaaGreat
