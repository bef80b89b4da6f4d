/-
  slots.Of: a loop over the iterator that returns three results.
-/
import Derived.RangeFuncNested
import Derived.RangeFuncBound
import Derived.RangeFuncCalls
import Derived.RangeFuncLeaves
import Derived.RangeFuncBox
import Derived.Shelf.Abstract
import Derived.WalkKit
import Derived.OwnWalkIn
import Derived.TacticsInMore
import Derived.LoopNIn
import Derived.LoopIn
import Derived.Maps.OwnIn
import Derived.Shelf.RegionOpen
import Derived.Test.YtaelfjphgdlbcaaM07
namespace Go.Proofs.Ytaelfjphgdlbcaa
open Go.RowKit Go.Shelf
set_option linter.unusedVariables false
set_option linter.unusedSimpArgs false
attribute [local go_sem] Oper.semAt_some
open CodM (St Pg)
open SlM

set_option maxRecDepth 100000 in
set_option maxHeartbeats 4000000 in
theorem of_in (F : Fence) (n : Nat) (h13 : F.fn 13) (h34 : F.fn 34) (h59 : F.fn 59) (h35 : F.fn 35) (hro : F.round = none) (hn : 4 ≤ n) {B : Nat} {vi vt : Value} {ths : List (List St)} (m : Int) (w : World)
    (hvi : ∃ A m c, vi = .slice A m c) (hv : Sss B w vt ths) (hBB : B ≤ w.heap.size) (hl : ths.length ≤ 1000000) (hll : ∀ ss ∈ ths, ss.length ≤ 1000000) :
    CallsIn F n Try.prog 13 #[.agg #[vi, vt], .int .i64 m] w fun e w' => ∃ r : Pl, e = .returned (.tuple #[.int .i64 r.t, .int .i64 r.k, .bool r.is]) ∧ IsOf ths m r ∧ Below w.heap.size w w' := by
  have h1 : 1 ≤ n := by omega
  have HV := Lib.hid hv
  have HLL := Lib.hid hll
  have hmix : Try.prog.follows .mixedOrders = true := by kernel_rfl
  obtain ⟨Ai, mi, ci, rfl⟩ := hvi
  obtain ⟨A, c, rfl, hc1, hc2, -⟩ := hv
  refine callsIn_of_wp_marks Try.func13 rfl h13 ?_ hro
  simp only [Try.ntmps13, List.size_toArray, List.length_cons, List.length_nil, Nat.reduceAdd, Nat.reduceSub, Array.replicate_succ, Array.replicate_zero, List.push_toArray, List.append_toArray, List.nil_append, List.cons_append]
  gi_wp2_with (gi_at_call 34; refine (alls_in F (n - 1) h34 hro _ _ _ _).mono ?_; rintro e w' ⟨rfl, rfl⟩)
  obtain ⟨W0, hW0⟩ : ∃ W0, W0 = ((((w.alloc (.cells #[.slice Ai mi ci, .slice A ths.length c] 25)).alloc (.cells #[.int .i64 m] 3)).alloc (.cells #[.int .i64 0] 3)).alloc (.cells #[.int .i64 0] 3)).alloc (.cells #[.bool false] 4) := ⟨_, rfl⟩
  have hs0 : W0.heap.size = w.heap.size + 1 + 1 + 1 + 1 + 1 := by rw [hW0]; simp
  have b1 : Boxed W0 (w.heap.size + 1) 3 (.int .i64 m) := by
    have := (((Boxed.new (w.alloc (.cells #[.slice Ai mi ci, .slice A ths.length c] 25)) 3 (.int .i64 m)).alloc (.cells #[.int .i64 0] 3)).alloc (.cells #[.int .i64 0] 3)).alloc (.cells #[.bool false] 4)
    rw [World.size_alloc] at this; rw [hW0]; exact this
  have b2 : Boxed W0 (w.heap.size + 1 + 1) 3 (.int .i64 0) := by
    have := ((Boxed.new ((w.alloc (.cells #[.slice Ai mi ci, .slice A ths.length c] 25)).alloc (.cells #[.int .i64 m] 3)) 3 (.int .i64 0)).alloc (.cells #[.int .i64 0] 3)).alloc (.cells #[.bool false] 4)
    rw [World.size_alloc, World.size_alloc] at this; rw [hW0]; exact this
  have b3 : Boxed W0 (w.heap.size + 1 + 1 + 1) 3 (.int .i64 0) := by
    have := (Boxed.new (((w.alloc (.cells #[.slice Ai mi ci, .slice A ths.length c] 25)).alloc (.cells #[.int .i64 m] 3)).alloc (.cells #[.int .i64 0] 3)) 3 (.int .i64 0)).alloc (.cells #[.bool false] 4)
    rw [World.size_alloc, World.size_alloc, World.size_alloc] at this; rw [hW0]; exact this
  have b4 : Boxed W0 (w.heap.size + 1 + 1 + 1 + 1) 4 (.bool false) := by
    have := Boxed.new ((((w.alloc (.cells #[.slice Ai mi ci, .slice A ths.length c] 25)).alloc (.cells #[.int .i64 m] 3)).alloc (.cells #[.int .i64 0] 3)).alloc (.cells #[.int .i64 0] 3)) 4 (.bool false)
    rw [World.size_alloc, World.size_alloc, World.size_alloc, World.size_alloc] at this; rw [hW0]; exact this
  have hB0 : Below w.heap.size w W0 := by rw [hW0]; exact below_al (below_al (below_al (below_al (below_al (Below.refl _ w) _) _) _) _) _
  rw [← hW0]
  obtain ⟨bt, bs, hb2⟩ := alls_boxes W0 (.slice A ths.length c) (.func (.func 35) #[] #[]) 23 69
  have b1' := (b1.alloc (.cells #[.slice A ths.length c] 23)).alloc (.cells #[.func (.func 35) #[] #[]] 69)
  have b2' := (b2.alloc (.cells #[.slice A ths.length c] 23)).alloc (.cells #[.func (.func 35) #[] #[]] 69)
  have b3' := (b3.alloc (.cells #[.slice A ths.length c] 23)).alloc (.cells #[.func (.func 35) #[] #[]] 69)
  have b4' := (b4.alloc (.cells #[.slice A ths.length c] 23)).alloc (.cells #[.func (.func 35) #[] #[]] 69)
  have hB := hB0.trans (hb2.mono hB0.size)
  clear b1 b2 b3 b4 hW0
  rw [← hs0]
  refine wpIn_rangeFunc_ownH hro h1 (gf := 59) (lb := #[.pointer (some ⟨W0.heap.size, 0, none⟩), .pointer (some ⟨W0.heap.size + 1, 0, none⟩)]) rfl h59 (enters_of Try.func59 (by kernel_rfl) rfl)
    (alls_stops F (n - 1) h59 h35 hro (by omega) w.heap.size _ _ _ ths _ (by simp; omega) bt bs ((HV.out.more hBB).below hB) hl HLL.out) KpS.t (KpS.b (by simp; omega)) (Below.refl _ _) (fun _ => rfl)
    (fun pre W => (Boxed W (w.heap.size + 1) 3 (.int .i64 m) ∧ Boxed W (w.heap.size + 1 + 1) 3 (.int .i64 0) ∧ Boxed W (w.heap.size + 1 + 1 + 1) 3 (.int .i64 0) ∧ Boxed W (w.heap.size + 1 + 1 + 1 + 1) 4 (.bool false)) ∧ Below w.heap.size w W ∧ ∀ y ∈ pre, ¬ ((y : Sq).1.n : Int) = m)
    (fun c pre W => c = .ret ∧ (∃ y ∈ pre, ((y : Sq).1.n : Int) = m ∧ Boxed W (w.heap.size + 1 + 1) 3 (.int .i64 (y.1.t : Int)) ∧ Boxed W (w.heap.size + 1 + 1 + 1) 3 (.int .i64 (y.1.k : Int)) ∧ Boxed W (w.heap.size + 1 + 1 + 1 + 1) 4 (.bool true)) ∧ Below w.heap.size w W)
    (OwnFrom.and (OwnFrom.and (Own.from (boxed_own _ _ (fun _ : List Sq => .int .i64 m)) _) (OwnFrom.and (Own.from (boxed_own _ _ (fun _ : List Sq => .int .i64 0)) _) (OwnFrom.and (Own.from (boxed_own _ _ (fun _ : List Sq => .int .i64 0)) _) (Own.from (boxed_own _ _ (fun _ : List Sq => .bool false)) _)))) (OwnFrom.and (ownFrom_below (Nat.le_refl _) (by simp; omega)) (ownFrom_pure _ _)))
    (fun c s A B row hs hg hr => ⟨hs.1, by obtain ⟨-, ⟨y, hy, he, hb, hb', hb''⟩, -⟩ := hs; exact ⟨y, hy, he, (boxed_own _ _ (fun _ : Unit => .int .i64 (y.1.t : Int))) () A B row hb hg (fun r e => (hr r e).2), (boxed_own _ _ (fun _ : Unit => .int .i64 (y.1.k : Int))) () A B row hb' hg (fun r e => (hr r e).2), (boxed_own _ _ (fun _ : Unit => .bool true)) () A B row hb'' hg (fun r e => (hr r e).2)⟩, (ownFrom_below (β := Unit) (Nat.le_refl _) (by simp; omega)) () A B row hs.2.2 hg hr⟩)
    ⟨⟨b1', b2', b3', b4'⟩, hB, by simp⟩
    (fun x a' W => ∃ Bx, w.heap.size + 1 + 1 + 1 + 1 < Bx ∧ Box2 W Bx 71 (.int .i64 (x.1.t : Int)) (.int .i64 (x.1.k : Int)) ∧ a' = { tmps := #[.agg #[.slice Ai mi ci, .slice A ths.length c], .int .i64 m, .pointer (some ⟨w.heap.size, 0, none⟩), .pointer (some ⟨w.heap.size + 1, 0, none⟩), .pointer (some ⟨w.heap.size + 1 + 1, 0, none⟩), .pointer (some ⟨w.heap.size + 1 + 1 + 1, 0, none⟩), .pointer (some ⟨w.heap.size + 1 + 1 + 1 + 1, 0, none⟩), .int .i64 (x.1.n : Int), .pointer (some ⟨Bx, 0, none⟩), .pointer (some ⟨w.heap.size, 1, none⟩), .slice A ths.length c, .func (.func 59) #[] #[.pointer (some ⟨W0.heap.size, 0, none⟩), .pointer (some ⟨W0.heap.size + 1, 0, none⟩)], .int .i64 (x.1.n : Int), .agg #[.int .i64 (x.1.t : Int), .int .i64 (x.1.k : Int)], undef, undef, undef, undef, undef, undef, undef], defers := [] })
    (fun x a' s A B row hs hg hr => by obtain ⟨Bx, h1, h2, h3⟩ := hs; exact ⟨Bx, h1, (box2_own (β := Unit) Bx _ _ _) () A B row h2 hg (fun r e => (hr r e).2), h3⟩)
    ?assign ?body ?done ?stop
  case assign =>
    rintro l pre x W K ⟨⟨h1, h2, h3, h4⟩, hB, hno⟩ hK
    dsimp only [encs]
    gi_wp2
    exact hK _ _ ((KeepsOthers.alloc _ _).from _) (KpS.grown hB.size (World.grownBy_alloc _ _ none) (fun r e => by cases e)) ⟨⟨h1.alloc _, h2.alloc _, h3.alloc _, h4.alloc _⟩, hB.alloc hB.size _, hno⟩ ⟨W.heap.size, h4.lt, Box2.new W _ _ _, by simp⟩
  case body =>
    rintro l pre x a' W hll ⟨r, hr⟩ ⟨⟨h1, h2, h3, h4⟩, hB, hno⟩ ⟨Bx, hBx, hx, rfl⟩ hlt
    have c1 := h1.cell
    have c2 := h2.cell
    have c3 := h3.cell
    have c4 := h4.cell
    have f2 := h2.frozen
    have f3 := h3.frozen
    have f4 := h4.frozen
    have x0 := hx.cell0
    have x1 := hx.cell1
    have g2 := ((h2.set (.int .i64 (x.1.t : Int))).other (B' := w.heap.size + 1 + 1 + 1) (by omega) (.int .i64 (x.1.k : Int))).other (B' := w.heap.size + 1 + 1 + 1 + 1) (by omega) (.bool true)
    have g3 := ((h3.other (B' := w.heap.size + 1 + 1) (by omega) (.int .i64 (x.1.t : Int))).set (.int .i64 (x.1.k : Int))).other (B' := w.heap.size + 1 + 1 + 1 + 1) (by omega) (.bool true)
    have g4 := ((h4.other (B' := w.heap.size + 1 + 1) (by omega) (.int .i64 (x.1.t : Int))).other (B' := w.heap.size + 1 + 1 + 1) (by omega) (.int .i64 (x.1.k : Int))).set (.bool true)
    have hBg := (((hB.setCell (p := ⟨w.heap.size + 1 + 1, 0, none⟩) (by show _ ≤ w.heap.size + 1 + 1; omega) (.int .i64 (x.1.t : Int))).setCell (p := ⟨w.heap.size + 1 + 1 + 1, 0, none⟩) (by show _ ≤ w.heap.size + 1 + 1 + 1; omega) (.int .i64 (x.1.k : Int))).setCell (p := ⟨w.heap.size + 1 + 1 + 1 + 1, 0, none⟩) (by show _ ≤ w.heap.size + 1 + 1 + 1 + 1; omega) (.bool true)).drew
    by_cases e1 : (x.1.n : Int) = m
    · gi_wp2
      gi_region_with_o (fail)
      all_goals gi_wp2
      all_goals exact ⟨(((KeepsOthers.setCell _ _ _).trans ((KeepsOthers.setCell _ _ _).trans (KeepsOthers.setCell _ _ _))).trans (KeepsOthers.drew _)).from _, rfl, ⟨x, by simp, e1, g2, g3, g4⟩, hBg⟩
    · gi_wp2
      exact ⟨KeepsFrom.refl _ _, ⟨Below.refl _ _, fun _ h _ => h⟩, ⟨h1, h2, h3, h4⟩, hB, fun y hy => by
        rcases List.mem_append.1 hy with hy | hy
        · exact hno y hy
        · rw [List.mem_singleton.1 hy]; exact e1⟩
  case done =>
    rintro D ys W hD hys ⟨⟨h1, h2, h3, h4⟩, hB, hno⟩ hK
    have c2 := h2.cell
    have c3 := h3.cell
    have c4 := h4.cell
    have f2 := h2.frozen
    have f3 := h3.frozen
    have f4 := h4.frozen
    have g2 := ((h2.set (.int .i64 0)).other (B' := w.heap.size + 1 + 1 + 1) (by omega) (.int .i64 0)).other (B' := w.heap.size + 1 + 1 + 1 + 1) (by omega) (.bool false)
    have g3 := ((h3.other (B' := w.heap.size + 1 + 1) (by omega) (.int .i64 0)).set (.int .i64 0)).other (B' := w.heap.size + 1 + 1 + 1 + 1) (by omega) (.bool false)
    have g4 := ((h4.other (B' := w.heap.size + 1 + 1) (by omega) (.int .i64 0)).other (B' := w.heap.size + 1 + 1 + 1) (by omega) (.int .i64 0)).set (.bool false)
    have hBg := ((hB.setCell (p := ⟨w.heap.size + 1 + 1, 0, none⟩) (by show _ ≤ w.heap.size + 1 + 1; omega) (.int .i64 0)).setCell (p := ⟨w.heap.size + 1 + 1 + 1, 0, none⟩) (by show _ ≤ w.heap.size + 1 + 1 + 1; omega) (.int .i64 0)).setCell (p := ⟨w.heap.size + 1 + 1 + 1 + 1, 0, none⟩) (by show _ ≤ w.heap.size + 1 + 1 + 1 + 1; omega) (.bool false)
    gi_wp2
    have hK' := ((KeepsOthers.setCell W ⟨w.heap.size + 1 + 1, 0, none⟩ (.int .i64 0)).trans ((KeepsOthers.setCell _ ⟨w.heap.size + 1 + 1 + 1, 0, none⟩ (.int .i64 0)).trans (KeepsOthers.setCell _ ⟨w.heap.size + 1 + 1 + 1 + 1, 0, none⟩ (.bool false)))).same D _ hK rfl
    refine ⟨by simp, .inl ⟨_, _, rfl, run_takeDeferred hK', ?_⟩⟩
    have d2 := cell_kept g2.cell (grownBy_putObj' _ D (.deferred none)) (fun r e => by cases e; exact ⟨_, hK', rfl⟩)
    have d3 := cell_kept g3.cell (grownBy_putObj' _ D (.deferred none)) (fun r e => by cases e; exact ⟨_, hK', rfl⟩)
    have d4 := cell_kept g4.cell (grownBy_putObj' _ D (.deferred none)) (fun r e => by cases e; exact ⟨_, hK', rfl⟩)
    refine ⟨.tuple #[.int .i64 0, .int .i64 0, .bool false], ?_, ⟨0, 0, false⟩, rfl, IsOf.none fun t k ht hk he => ?_, ?_⟩
    · simp [results, Try.f13, go_sem, d2, d3, d4]
    · have hm : (⟨sl anyS ths t k, t, k⟩ : Sp) ∈ pls anyS ths := (mem_pls anyS ths _).2 ⟨t, k, ht, by rw [SlM.getD_at ht]; exact hk, isS_any ths ht hk, rfl⟩
      rw [← hys] at hm
      obtain ⟨y, hy, e⟩ := List.mem_map.1 hm
      exact hno y hy (by rw [e, ← he, sl_any ths ht (by omega)])
    · exact hBg.trans (belowK_b (w := w) (Nat.le_refl _) _ D _ _ (by simp at hD; omega) hK' rfl rfl)
  case stop =>
    rintro D cc pre W hD hSp ⟨rfl, ⟨y, hy, rfl, hb, hb', hb''⟩, hB⟩ hK
    obtain ⟨t, k, ht, hk, -, e⟩ := (mem_pls anyS ths y.1).1 (hSp.subset (List.mem_map_of_mem hy))
    rw [SlM.getD_at ht] at hk
    have c2 := hb.cell
    have c3 := hb'.cell
    have c4 := hb''.cell
    gi_wp2
    refine ⟨by simp, .inl ⟨_, _, rfl, run_takeDeferred hK, ?_⟩⟩
    have d2 := cell_kept c2 (grownBy_putObj' _ D (.deferred none)) (fun r e => by cases e; exact ⟨_, hK, rfl⟩)
    have d3 := cell_kept c3 (grownBy_putObj' _ D (.deferred none)) (fun r e => by cases e; exact ⟨_, hK, rfl⟩)
    have d4 := cell_kept c4 (grownBy_putObj' _ D (.deferred none)) (fun r e => by cases e; exact ⟨_, hK, rfl⟩)
    refine ⟨.tuple #[.int .i64 (y.1.t : Int), .int .i64 (y.1.k : Int), .bool true], ?_, ⟨(y.1.t : Int), (y.1.k : Int), true⟩, rfl, .inr ⟨t, k, ht, hk, ?_, ?_⟩, ?_⟩
    · simp [results, Try.f13, go_sem, d2, d3, d4]
    · rw [e, sl_any ths ht (by omega)]
    · rw [e]
    · exact hB.trans (belowK_b (w := w) (Nat.le_refl _) _ D _ _ (by simp at hD; omega) hK rfl rfl)
end Go.Proofs.Ytaelfjphgdlbcaa
