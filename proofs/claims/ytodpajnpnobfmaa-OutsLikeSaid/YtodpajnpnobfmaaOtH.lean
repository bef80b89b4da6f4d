/-
  ENDS: Has and Put, over sets.
-/
import Derived.Test.YtodpajnpnobfmaaOtG
namespace Go.Proofs.Ytodpajnpnobfmaa
open Go.RowKit
set_option linter.unusedVariables false
set_option linter.unusedSimpArgs false
open OtM

set_option maxHeartbeats 4000000 in
set_option maxRecDepth 100000 in
theorem ohas_any {B : Nat} {v u : Value} {xs : List OV} {o : Ot} (w : World) (hv : OutsX B w v xs) (hu : OutR B w u o) (hBB : B ≤ w.heap.size) (hl : xs.length ≤ 1000000) (hsr : Srt (os xs)) :
    Calls Try.prog 20 #[v, u] w fun e w' => e = .returned (.bool (decide (o ∈ os xs))) ∧ Bg w w' := by
  have HC := Lib.hid (fun W (hW : Bg w W) => bsearch_any W (hv.below (hW.1.mono hBB)) (hu.below (hW.1.mono hBB)) (Nat.le_trans hBB hW.1.size) hl hsr)
  obtain ⟨⟨A, c, rfl, -⟩, -⟩ := hv
  obtain ⟨um, ur, rfl, g1, g2⟩ := hu
  obtain ⟨E1, l1, k1, rfl⟩ := g1.sl
  obtain ⟨E2, l2, k2, rfl⟩ := g2.sl
  clear g1 g2
  unfold BsRet at HC
  obtain ⟨bb, hbb⟩ : ∃ b, b = decide (o ∈ os xs) := ⟨_, rfl⟩
  rw [← hbb] at HC ⊢
  clear hbb
  generalize pos (os xs) o = p at *
  generalize xs.length = n at *
  have hb1 := Lib.hid (Bg.al w (.cells #[.slice E1 l1 k1, .slice E2 l2 k2] 24))
  obtain ⟨x0, x1⟩ := box2 (w := w) (.slice E1 l1 k1) (.slice E2 l2 k2) 24
  go_enter Try.func20, Try.ntmps20
  go_wp2_with fail
  refine (HC.out _ hb1.out).mono ?_
  rintro e w' ⟨rfl, hb⟩
  go_wp2
  go_ret
  exact ⟨rfl, hb1.out.trans hb⟩
-- PUT
theorem kc_gb {W W' : World} {g g0 i : Nat} {v : Value} (hg : W.grownBy W' (some g0)) (hne : g ≠ g0) (h : W.cell? ⟨g, i, none⟩ = some v) : W'.cell? ⟨g, i, none⟩ = some v := by
  have e := hg.block g (lt_of_cell h) (fun e => hne (Option.some.inj e))
  simp only [World.cell?] at h ⊢
  rw [e]; exact h
theorem insert_any {b g0 n gc i : Nat} {ys : List OV} {x : OV} (w : World) (hy : ys.length = n) (ho : w.ownsRow b 24 2 (.slice (some ⟨g0, 0, none⟩) n n) n (ys.flatMap ovC)) (hi : i ≤ n) (hn : n ≤ 1000000) (hb : b ≤ w.heap.size)
    (hy1 : ∀ u ∈ ys.flatMap ovC, u.oneCell' = true) (hgc : gc < w.heap.size)
    (hc : ∀ j u, [x.m, x.r][j]? = some u → w.cell? ((⟨gc, 0, none⟩ : Addr).add j) = some u) (h1 : ∀ u ∈ [x.m, x.r], u.oneCell' = true) :
    Calls Try.prog 34 #[.slice (some ⟨g0, 0, none⟩) n n, .int .i64 i, .slice (some ⟨gc, 0, none⟩) 1 1] w (InsRet b g0 n (ys.take i ++ x :: ys.drop i) w) := by
  rcases Nat.lt_or_ge i n with h | h
  · exact insert_mid w hy ho h hn hb hy1 hgc hc h1
  · obtain rfl : n = i := by omega
    have := insert_end w ho hn hb hc h1
    rwa [show ys.take n ++ x :: ys.drop n = ys ++ [x] from by rw [List.take_of_length_le (by omega), List.drop_of_length_le (by omega)]]
def PutRet (w : World) (l : List Ot) (o : Ot) (e : Ending) (w' : World) : Prop := ∃ u ys, e = .returned u ∧ os ys = putO l o ∧ OwnOs w.heap.size w' u ys ∧ Below w.heap.size w w'
set_option maxHeartbeats 8000000 in
set_option maxRecDepth 100000 in
theorem oput_any {B : Nat} {v u : Value} {xs : List OV} {o : Ot} (w : World) (hv : OutsX B w v xs) (hu : OutR B w u o) (hBB : B ≤ w.heap.size) (hl : xs.length ≤ 1000000) (hs : SmO xs) (ho1 : o.1.length ≤ 1000000) (ho2 : o.2.length ≤ 1000000) (hsr : Srt (os xs)) :
    Calls Try.prog 18 #[v, u] w (PutRet w (os xs) o) := by
  have HC := Lib.hid (fun W (hW : Bg w W) => bsearch_any W (hv.below (hW.1.mono hBB)) (hu.below (hW.1.mono hBB)) (Nat.le_trans hBB hW.1.size) hl hsr)
  have HCP := Lib.hid (fun W (hW : Below w.heap.size w W) => copies_any W (hv.below (hW.mono hBB)) (Nat.le_trans hBB hW.size) hl hs)
  have HCD := Lib.hid (fun W (hW : Below w.heap.size w W) => copied_any W (hu.below (hW.mono hBB)) (Nat.le_trans hBB hW.size) ho1 ho2)
  obtain ⟨⟨A, c, rfl, -⟩, -⟩ := hv
  obtain ⟨um, ur, rfl, g1, g2⟩ := hu
  obtain ⟨E1, l1, k1, rfl⟩ := g1.sl
  obtain ⟨E2, l2, k2, rfl⟩ := g2.sl
  obtain ⟨p, hp⟩ : ∃ p, p = pos (os xs) o := ⟨_, rfl⟩
  obtain ⟨n, hn⟩ : ∃ n, n = xs.length := ⟨_, rfl⟩
  have HPP := Lib.hid hp
  have HN := Lib.hid hn
  have HLN := Lib.hid (show n ≤ 1000000 from by omega)
  have HPL := Lib.hid (show p ≤ n from by rw [hp, hn]; have := pos_le (os xs) o; simpa using this)
  unfold BsRet at HC
  rw [← hp, ← hn] at HC
  rw [← hn] at HCP ⊢
  clear g1 g2 hp hn hl hs ho1 ho2 hsr
  obtain ⟨W1, hW1⟩ : ∃ W, W = w.alloc (.cells #[.slice E1 l1 k1, .slice E2 l2 k2] 24) := ⟨_, rfl⟩
  obtain ⟨gb, hgb⟩ : ∃ x, x = w.heap.size := ⟨_, rfl⟩
  have hx := box2 (w := w) (.slice E1 l1 k1) (.slice E2 l2 k2) 24
  have HB1 := Lib.hid (show Bg w W1 from by rw [hW1]; exact Bg.al _ _)
  rw [← hW1, ← hgb] at hx
  have HX := Lib.hid hx
  obtain ⟨x0, x1⟩ := hx
  by_cases hm : o ∈ os xs
  · rw [show decide (o ∈ os xs) = true from decide_eq_true hm] at HC
    have HM := Lib.hid (show putO (os xs) o = os xs from if_pos hm)
    clear hm
    go_enter Try.func18, Try.ntmps18
    go_upto_region 1 with fail
    rw [← hW1]
    (try rw [← hgb])
    clear hW1 hgb
    go_wp2_with fail
    refine (HC.out _ HB1.out).mono ?_
    rintro e w2 ⟨rfl, hb⟩
    have HB2 := Lib.hid (HB1.out.trans hb).1
    clear hb
    go_wp2_with fail
    refine (HCP.out _ HB2.out).mono ?_
    rintro e w3 ⟨g0, ys, rfl, hey, hos, hb⟩
    rw [← HN.out] at hos
    (try rw [← HN.out])
    have HB3 := Lib.hid (chain HB2.out hb)
    have HR := Lib.hid (show PutRet w (os xs) o (.returned (.slice (some ⟨g0, 0, none⟩) n n)) w3 from ⟨_, ys, rfl, by rw [HM.out, hey], ⟨own_base hos.1 HB2.out.size, hos.2.base HB2.out.size⟩, HB3.out⟩)
    clear hb hey hos
    go_wp2
    go_ret
    exact HR.out
  · rw [show decide (o ∈ os xs) = false from decide_eq_false hm] at HC
    have HNO := Lib.hid hm
    clear hm
    go_enter Try.func18, Try.ntmps18
    go_upto_region 1 with fail
    rw [← hW1]
    (try rw [← hgb])
    clear hW1 hgb
    go_wp2_with fail
    refine (HC.out _ HB1.out).mono ?_
    rintro e w2 ⟨rfl, hb⟩
    have HB0 := Lib.hid (below_drewN (HB1.out.trans hb).1 1)
    replace x0 := kc hb.1 x0
    replace x1 := kc hb.1 x1
    clear hb
    go_upto_region 4 with fail
    refine wp_region_held_drew (S := (fun w' => (w'.cell? ⟨gb, 0, none⟩ = some (.slice E1 l1 k1) ∧ w'.cell? ⟨gb, 1, none⟩ = some (.slice E2 l2 k2)) ∧ Below w.heap.size w w')) (by kernel_rfl) ⟨⟨x0, x1⟩, HB0.out⟩ (fun hHeld => ?_)
    refine wpAnyH_take (i := 0) (v := ?_) rfl (by kernel_rfl) (by kernel_rfl) (by kernel_rfl) (fun _ _ _ h => h) (Or.inl ⟨by rfl, ?_⟩) (by assumption) ?_
    rotate_left
    · intro w hSw; (try dsimp only at hSw); go_simp; (try with_reducible rfl)
    (try simp only [Act.put, pt8])
    refine wpAnyH_take (i := 2) (v := ?_) rfl (by kernel_rfl) (by kernel_rfl) (by kernel_rfl) (fun _ _ _ h => h) (Or.inl ⟨by rfl, ?_⟩) (by assumption) ?_
    rotate_left
    · intro w hSw; (try dsimp only at hSw); go_simp; (try with_reducible rfl)
    (try simp only [Act.put, pt8])
    refine wpAnyH_take (i := 3) (v := ?_) rfl (by kernel_rfl) (by kernel_rfl) (by kernel_rfl) (fun _ _ _ h => h) (Or.inl ⟨by rfl, ?_⟩) (by assumption) ?_
    rotate_left
    · intro w hSw; (try dsimp only at hSw); go_simp; (try with_reducible rfl)
    (try simp only [Act.put, pt8])
    refine wpAnyH_ready (rs := [1]) (by kernel_rfl) (by simp) ?_
    refine AllReadyH.cons rfl (fun K hK => ?_) AllReadyH.nil
    go_simp
    refine (HCP.out _ hHeld.2).mono ?_
    rintro e V1 ⟨g0, ys, rfl, hey, hos, hb⟩
    rw [← HN.out] at hos
    have HYL := Lib.hid (show ys.length = n from by have := congrArg List.length hey; simpa [HN.out] using this)
    have HEY := Lib.hid hey
    have HGG := Lib.hid (show gb ≠ g0 from by have h1 := (hos.1.lt g0 rfl).1; have h2 := lt_of_cell hHeld.1.1; omega)
    have HB1 := Lib.hid (chain hHeld.2 hb)
    have HOW := Lib.hid (show V1.ownsRow w.heap.size 24 2 (.slice (some ⟨g0, 0, none⟩) n n) n (ys.flatMap ovC) from by have := own_base hos.1 hHeld.2.size; rwa [HYL.out] at this)
    have HEA := Lib.hid (hos.2.base hHeld.2.size)
    (try rw [← HN.out])
    refine hK.out _ _ ⟨⟨kc hb hHeld.1.1, kc hb hHeld.1.2⟩, HB1.out⟩ (fun hHeld => ?_)
    clear hb hey hos
    clear hK K
    (try simp only [Act.put, pt8])
    refine wpAnyH_ready (rs := [4]) (by kernel_rfl) (by simp) ?_
    refine AllReadyH.cons rfl (fun K hK => ?_) AllReadyH.nil
    go_simp
    refine (HCD.out _ hHeld.2).mono ?_
    rintro e V2 ⟨u1, u2, rfl, ho1, ho2, hb⟩
    obtain ⟨X1, m1, rfl⟩ := own_slice ho1
    obtain ⟨X2, m2, rfl⟩ := own_slice ho2
    have HB2 := Lib.hid (chain hHeld.2 hb)
    have HO1 := Lib.hid (own_base ho1 hHeld.2.size)
    have HO2 := Lib.hid (own_base ho2 hHeld.2.size)
    replace HOW := Lib.hid (own_below HOW.out hb)
    replace HEA := Lib.hid (HEA.out.below hb)
    refine hK.out _ _ ⟨⟨kc hb hHeld.1.1, kc hb hHeld.1.2⟩, HB2.out⟩ (fun hHeld => ?_)
    clear hb ho1 ho2
    clear hK K
    (try simp only [Act.put, pt8])
    refine wpAnyH_ready (rs := [5]) (by kernel_rfl) (by simp) ?_
    refine AllReadyH.cons rfl (fun K hK => ?_) AllReadyH.nil
    obtain ⟨V3, hV3⟩ : ∃ W, W = V2.alloc (.cells #[.slice X1 o.1.length m1, .slice X2 o.2.length m2] 24) := ⟨_, rfl⟩
    obtain ⟨gc, hgc⟩ : ∃ x, x = V2.heap.size := ⟨_, rfl⟩
    have HL := Lib.hid (show Below V2.heap.size V2 V3 from by rw [hV3]; exact below_al (Below.refl _ _) _)
    have hx7 := box2 (w := V2) (.slice X1 o.1.length m1) (.slice X2 o.2.length m2) 24
    rw [← hV3, ← hgc] at hx7
    have HGC := Lib.hid (show gc < V3.heap.size from by rw [hV3, hgc]; simp)
    have HAD := Lib.hid (show ∀ j u, [(.slice X1 o.1.length m1 : Value), .slice X2 o.2.length m2][j]? = some u → V3.cell? ((⟨gc, 0, none⟩ : Addr).add j) = some u from fun j u hu => by
      match j, hu with
      | 0, hu => injection hu with hu; rw [← hu]; exact hx7.1
      | 1, hu => injection hu with hu; rw [← hu]; exact hx7.2)
    have HB3 := Lib.hid (chain hHeld.2 HL.out)
    replace HOW := Lib.hid (own_below HOW.out HL.out)
    replace HEA := Lib.hid (HEA.out.below HL.out)
    replace HO1 := Lib.hid (own_below HO1.out HL.out)
    replace HO2 := Lib.hid (own_below HO2.out HL.out)
    clear hx7
    go_simp
    rw [← hV3]
    (try rw [← hgc])
    clear hV3 hgc
    refine hK.out _ _ ⟨⟨kc HL.out hHeld.1.1, kc HL.out hHeld.1.2⟩, HB3.out⟩ (fun hHeld => ?_)
    clear hK K
    (try simp only [Act.put, pt8])
    refine wpAnyH_ready (rs := [6]) (by kernel_rfl) (by simp) ?_
    refine AllReadyH.cons rfl (fun K hK => ?_) AllReadyH.nil
    go_simp
    refine (insert_any (x := ⟨.slice X1 o.1.length m1, .slice X2 o.2.length m2, o⟩) V3 HYL.out HOW.out HPL.out HLN.out HB3.out.size (ea_one HEA.out) HGC.out HAD.out (by intro u hu; simp at hu; rcases hu with rfl | rfl <;> rfl)).mono ?_
    rintro e V4 ⟨u4, rfl, hown4, hg4⟩
    obtain ⟨X4, m4, rfl⟩ := own_slice hown4
    have HB4 := Lib.hid (below_append HB3.out HOW.out (Nat.le_refl _) HB3.out.size hg4)
    have HR := Lib.hid (show PutRet w (os xs) o (.returned (.slice X4 (n + 1) m4)) V4 from by
      refine ⟨_, ys.take p ++ ⟨.slice X1 o.1.length m1, .slice X2 o.2.length m2, o⟩ :: ys.drop p, rfl, ?_, ⟨?_, ?_⟩, HB4.out⟩
      · unfold putO
        rw [if_neg HNO.out, ← HPP.out, ← HEY.out, ← List.map_take, ← List.map_drop]
        simp
      · show World.ownsRow _ _ _ _ _ _ _
        rw [show (ys.take p ++ (⟨.slice X1 o.1.length m1, .slice X2 o.2.length m2, o⟩ : OV) :: ys.drop p).length = n + 1 from by have h1 := HYL.out; have h2 := HPL.out; simp; omega]
        exact hown4
      · intro y hy
        rcases List.mem_append.1 hy with hy | hy
        · exact HEA.out.grown HOW.out hg4 y (List.mem_of_mem_take hy)
        · rcases List.mem_cons.1 hy with rfl | hy
          · exact ⟨own_grown (by decide) HO1.out HOW.out hg4, own_grown (by decide) HO2.out HOW.out hg4⟩
          · exact HEA.out.grown HOW.out hg4 y (List.mem_of_mem_drop hy))
    refine hK.out _ _ ⟨⟨kc_gb hg4 HGG.out hHeld.1.1, kc_gb hg4 HGG.out hHeld.1.2⟩, HB4.out⟩ (fun hHeld => ?_)
    clear hown4 hg4
    clear hK K
    (try simp only [Act.put, pt8])
    refine wpAnyH_ready (rs := [7]) (by kernel_rfl) (by simp) ?_
    refine AllReadyH.cons rfl (fun K hK => ?_) AllReadyH.nil
    go_simp
    refine hK.out _ _ hHeld (fun hHeld => ?_)
    clear hK K
    (try simp only [Act.put, pt8])
    refine wpAnyH_done (by kernel_rfl) ?_ _
    clear hHeld
    go_wp2
    go_ret
    exact HR.out
end Go.Proofs.Ytodpajnpnobfmaa
