/-
  buf.Last: a loop over the writes from behind that returns.
-/
import Derived.RangeFuncNested
import Derived.RangeFuncBound
import Derived.RangeFuncCalls
import Derived.RangeFuncLeaves
import Derived.RangeFuncBox
import Derived.Shelf.Abstract
import Derived.WalkKit
import Derived.OwnWalkIn
import Derived.TacticsInMore
import Derived.LoopNIn
import Derived.LoopIn
import Derived.Maps.OwnIn
import Derived.Test.YtnfdaajbfheocaaBfI
namespace Go.Proofs.Ytnfdaajbfheocaa
open Go.RowKit Go.Shelf
set_option linter.unusedVariables false
set_option linter.unusedSimpArgs false
attribute [local go_sem] Oper.semAt_some
open BfM

/-- A box of two cells. -/
def Box2 (W : World) (B : Nat) (T : TypeId) (u v : Value) : Prop := W.heap[B]? = some (.cells #[u, v] T (0, 0))
theorem Box2.lt {W : World} {B : Nat} {T : TypeId} {u v : Value} (h : Box2 W B T u v) : B < W.heap.size := (Array.getElem?_eq_some_iff.1 h).1
theorem Box2.cell0 {W : World} {B : Nat} {T : TypeId} {u v : Value} (h : Box2 W B T u v) : W.cell? ⟨B, 0, none⟩ = some u := by simp [World.cell?, show W.heap[B]? = _ from h]
theorem Box2.cell1 {W : World} {B : Nat} {T : TypeId} {u v : Value} (h : Box2 W B T u v) : W.cell? ⟨B, 1, none⟩ = some v := by simp [World.cell?, show W.heap[B]? = _ from h]
theorem Box2.new (W : World) (T : TypeId) (u v : Value) : Box2 (W.alloc (.cells #[u, v] T)) W.heap.size T u v := World.alloc_heap_new W _
theorem Box2.kept {W W' : World} {row : Option Nat} {B : Nat} {T : TypeId} {u v : Value} (h : Box2 W B T u v) (hg : W.grownBy W' row) (hne : some B ≠ row) : Box2 W' B T u v := (hg.block B h.lt hne).trans h
theorem box2_own {β : Type} (B : Nat) (T : TypeId) (u v : Value) : Own (fun (_ : β) W => Box2 W B T u v) := fun s X Y row hs hg hrow =>
  hs.kept hg (fun e' => by obtain ⟨o, ho, hc⟩ := hrow B e'.symm; rw [show X.heap[B]? = _ from hs] at ho; cases ho; cases hc)
/-- Of a list from behind the first that fits is the last one. -/
theorem last_rev_none : ∀ {b : List Wr} {l : Int}, (∀ y ∈ b, ¬ y.loc = l) → last b l = none
  | [], l, _ => rfl
  | w :: r, l, h => by
    rw [last, last_rev_none (fun y hy => h y (List.mem_cons_of_mem _ hy))]
    simp [h w List.mem_cons_self]
theorem last_app : ∀ (p q : List Wr) (l : Int), last q l = none → last (p ++ q) l = last p l
  | [], q, l, h => h
  | w :: r, q, l, h => by rw [List.cons_append, last, last_app r q l h, last]
theorem last_pre {b pre : List Wr} {x : Wr} {l : Int} (h : pre ++ [x] <+: b.reverse) (hno : ∀ y ∈ pre, ¬ y.loc = l) (hx : x.loc = l) : last b l = some x.n := by
  obtain ⟨t, ht⟩ := h
  have e : b = (t.reverse ++ [x]) ++ pre.reverse := by
    have := congrArg List.reverse ht
    rw [List.reverse_reverse] at this
    rw [← this]; simp
  rw [e, last_app _ _ _ (last_rev_none (fun y hy => hno y (by simpa using hy))), last_snoc, if_pos hx]
/-- What Last hands back. -/
def lastV (b : List Wr) (l : Int) : Value := match last b l with
  | some n => .tuple #[.int .i64 n, .bool true]
  | none => .tuple #[.int .i64 0, .bool false]
set_option maxRecDepth 100000 in
set_option maxHeartbeats 4000000 in
theorem last_in (F : Fence) (n : Nat) (h11 : F.fn 11) (h23 : F.fn 23) (h28 : F.fn 28) (hro : F.round = none) (hn : 4 ≤ n) {B : Nat} {v : Value} {b : List Wr} (l : Int) (w : World)
    (hv : Wrs B w v b) (hBB : B ≤ w.heap.size) (hl : b.length ≤ 1000000) :
    CallsIn F n Try.prog 11 #[v, .int .i64 l] w fun e w' => e = .returned (lastV b l) ∧ Below w.heap.size w w' := by
  have h1 : 1 ≤ n := by omega
  have HV := Lib.hid hv
  have hmix : Try.prog.follows .mixedOrders = true := by kernel_rfl
  obtain ⟨A, c, rfl, hc1, hc2, -⟩ := hv
  refine callsIn_of_wp_marks Try.func11 rfl h11 ?_ hro
  simp only [Try.ntmps11, List.size_toArray, List.length_cons, List.length_nil, Nat.reduceAdd, Nat.reduceSub, Array.replicate_succ, Array.replicate_zero, List.push_toArray, List.append_toArray, List.nil_append, List.cons_append]
  gi_wp2_with (gi_at_call 23; refine (behind_in F (n - 1) h23 hro _ _ _ _).mono ?_; rintro e w' ⟨rfl, rfl⟩)
  obtain ⟨W0, hW0⟩ : ∃ W0, W0 = ((w.alloc (.cells #[.int .i64 l] 3)).alloc (.cells #[.int .i64 0] 3)).alloc (.cells #[.bool false] 4) := ⟨_, rfl⟩
  have hs0 : W0.heap.size = w.heap.size + 1 + 1 + 1 := by rw [hW0]; simp
  have b1 : Boxed W0 w.heap.size 3 (.int .i64 l) := by
    have := ((Boxed.new w 3 (.int .i64 l)).alloc (.cells #[.int .i64 0] 3)).alloc (.cells #[.bool false] 4)
    rw [hW0]; exact this
  have b2 : Boxed W0 (w.heap.size + 1) 3 (.int .i64 0) := by
    have := (Boxed.new (w.alloc (.cells #[.int .i64 l] 3)) 3 (.int .i64 0)).alloc (.cells #[.bool false] 4)
    rw [World.size_alloc] at this; rw [hW0]; exact this
  have b3 : Boxed W0 (w.heap.size + 1 + 1) 4 (.bool false) := by
    have := Boxed.new ((w.alloc (.cells #[.int .i64 l] 3)).alloc (.cells #[.int .i64 0] 3)) 4 (.bool false)
    rw [World.size_alloc, World.size_alloc] at this; rw [hW0]; exact this
  have hB0 : Below w.heap.size w W0 := by rw [hW0]; exact below_al (below_al (below_al (Below.refl _ w) _) _) _
  rw [← hW0]
  have bt : (W0.alloc (.cells #[.slice A b.length c] 43)).cell? ⟨W0.heap.size, 0, none⟩ = some (.slice A b.length c) := (Boxed.new W0 43 (.slice A b.length c)).cell
  have b1' := b1.alloc (.cells #[.slice A b.length c] 43)
  have b2' := b2.alloc (.cells #[.slice A b.length c] 43)
  have b3' := b3.alloc (.cells #[.slice A b.length c] 43)
  have hB := hB0.alloc hB0.size (.cells #[.slice A b.length c] 43)
  clear b1 b2 b3 hW0
  rw [← hs0]
  refine wpIn_rangeFunc_ownH hro h1 (gf := 28) (lb := #[.pointer (some ⟨W0.heap.size, 0, none⟩)]) rfl h28 (enters_of Try.func28 (by kernel_rfl) rfl)
    (behind_stops F (n - 1) h28 hro (by omega) w.heap.size _ _ b _ (by simp; omega) bt ((HV.out.more hBB).below hB) hl) KpS.t (KpS.b (by simp; omega)) (Below.refl _ _) (fun _ => rfl)
    (fun pre W => (Boxed W w.heap.size 3 (.int .i64 l) ∧ Boxed W (w.heap.size + 1) 3 (.int .i64 0) ∧ Boxed W (w.heap.size + 1 + 1) 4 (.bool false)) ∧ Below w.heap.size w W ∧ ∀ y ∈ pre, ¬ (y : Wr).loc = l)
    (fun c pre W => c = .ret ∧ (∃ p y, pre = p ++ [y] ∧ (∀ z ∈ p, ¬ (z : Wr).loc = l) ∧ (y : Wr).loc = l ∧ Boxed W (w.heap.size + 1) 3 (.int .i64 y.n) ∧ Boxed W (w.heap.size + 1 + 1) 4 (.bool true)) ∧ Below w.heap.size w W)
    (OwnFrom.and (OwnFrom.and (Own.from (boxed_own _ _ (fun _ : List Wr => .int .i64 l)) _) (OwnFrom.and (Own.from (boxed_own _ _ (fun _ : List Wr => .int .i64 0)) _) (Own.from (boxed_own _ _ (fun _ : List Wr => .bool false)) _))) (OwnFrom.and (ownFrom_below (Nat.le_refl _) (by simp; omega)) (ownFrom_pure _ _)))
    (fun c s A B row hs hg hr => ⟨hs.1, by obtain ⟨-, ⟨p, y, e, hp, he, hb, hb'⟩, -⟩ := hs; exact ⟨p, y, e, hp, he, (boxed_own _ _ (fun _ : Unit => .int .i64 y.n)) () A B row hb hg (fun r e => (hr r e).2), (boxed_own _ _ (fun _ : Unit => .bool true)) () A B row hb' hg (fun r e => (hr r e).2)⟩, (ownFrom_below (β := Unit) (Nat.le_refl _) (by simp; omega)) () A B row hs.2.2 hg hr⟩)
    ⟨⟨b1', b2', b3'⟩, hB, by simp⟩
    (fun x a' W => ∃ Bx, w.heap.size + 1 + 1 < Bx ∧ Box2 W Bx 24 (.int .i64 x.loc) (.int .i64 x.n) ∧ a' = { tmps := #[.slice A b.length c, .int .i64 l, undef, .pointer (some ⟨w.heap.size, 0, none⟩), .pointer (some ⟨w.heap.size + 1, 0, none⟩), .pointer (some ⟨w.heap.size + 1 + 1, 0, none⟩), .pointer (some ⟨Bx, 0, none⟩), .slice A b.length c, .func (.func 28) #[] #[.pointer (some ⟨W0.heap.size, 0, none⟩)], .agg #[.int .i64 x.loc, .int .i64 x.n], undef, undef, undef, undef, undef, undef], defers := [] })
    (fun x a' s A B row hs hg hr => by obtain ⟨Bx, h1, h2, h3⟩ := hs; exact ⟨Bx, h1, (box2_own (β := Unit) Bx _ _ _) () A B row h2 hg (fun r e => (hr r e).2), h3⟩)
    ?assign ?body ?done ?stop
  case assign =>
    rintro l pre x W K ⟨⟨h1, h2, h3⟩, hB, hno⟩ hK
    dsimp only [encw]
    gi_wp2
    exact hK _ _ ((KeepsOthers.alloc _ _).from _) (KpS.grown hB.size (World.grownBy_alloc _ _ none) (fun r e => by cases e)) ⟨⟨h1.alloc _, h2.alloc _, h3.alloc _⟩, hB.alloc hB.size _, hno⟩ ⟨W.heap.size, h3.lt, Box2.new W _ _ _, by simp⟩
  case body =>
    rintro l' pre x a' W hll ⟨r, hr⟩ ⟨⟨h1, h2, h3⟩, hB, hno⟩ ⟨Bx, hBx, hx, rfl⟩ hlt
    have c1 := h1.cell
    have c2 := h2.cell
    have c3 := h3.cell
    have f2 := h2.frozen
    have f3 := h3.frozen
    have x0 := hx.cell0
    have x1 := hx.cell1
    have g2 := (h2.set (.int .i64 x.n)).other (B' := w.heap.size + 1 + 1) (by omega) (.bool true)
    have g3 := (h3.other (B' := w.heap.size + 1) (by omega) (.int .i64 x.n)).set (.bool true)
    have hBg := ((hB.setCell (p := ⟨w.heap.size + 1, 0, none⟩) (by show _ ≤ w.heap.size + 1; omega) (.int .i64 x.n)).setCell (p := ⟨w.heap.size + 1 + 1, 0, none⟩) (by show _ ≤ w.heap.size + 1 + 1; omega) (.bool true))
    by_cases e1 : x.loc = l
    · gi_wp2
      exact ⟨((KeepsOthers.setCell _ _ _).trans (KeepsOthers.setCell _ _ _)).from _, rfl, ⟨pre, x, rfl, hno, e1, g2, g3⟩, hBg⟩
    · gi_wp2
      exact ⟨KeepsFrom.refl _ _, ⟨Below.refl _ _, fun _ h _ => h⟩, ⟨h1, h2, h3⟩, hB, fun y hy => by
        rcases List.mem_append.1 hy with hy | hy
        · exact hno y hy
        · rw [List.mem_singleton.1 hy]; exact e1⟩
  case done =>
    rintro D ys W hD hys ⟨⟨h1, h2, h3⟩, hB, hno⟩ hK
    have c2 := h2.cell
    have c3 := h3.cell
    have f2 := h2.frozen
    have f3 := h3.frozen
    have g2 := (h2.set (.int .i64 0)).other (B' := w.heap.size + 1 + 1) (by omega) (.bool false)
    have g3 := (h3.other (B' := w.heap.size + 1) (by omega) (.int .i64 0)).set (.bool false)
    have hBg := ((hB.setCell (p := ⟨w.heap.size + 1, 0, none⟩) (by show _ ≤ w.heap.size + 1; omega) (.int .i64 0)).setCell (p := ⟨w.heap.size + 1 + 1, 0, none⟩) (by show _ ≤ w.heap.size + 1 + 1; omega) (.bool false))
    gi_wp2
    have hK' := ((KeepsOthers.setCell W ⟨w.heap.size + 1, 0, none⟩ (.int .i64 0)).trans (KeepsOthers.setCell _ ⟨w.heap.size + 1 + 1, 0, none⟩ (.bool false))).same D _ hK rfl
    refine ⟨by simp, .inl ⟨_, _, rfl, run_takeDeferred hK', ?_⟩⟩
    have d2 := cell_kept g2.cell (grownBy_putObj' _ D (.deferred none)) (fun r e => by cases e; exact ⟨_, hK', rfl⟩)
    have d3 := cell_kept g3.cell (grownBy_putObj' _ D (.deferred none)) (fun r e => by cases e; exact ⟨_, hK', rfl⟩)
    have e0 : last b l = none := last_rev_none (fun y hy => hno y (by rw [hys]; simpa using hy))
    refine ⟨.tuple #[.int .i64 0, .bool false], ?_, ?_, ?_⟩
    · simp [results, Try.f11, go_sem, d2, d3]
    · rw [lastV, e0]
    · exact hBg.trans (belowK_b (w := w) (Nat.le_refl _) _ D _ _ (by simp at hD; omega) hK' rfl rfl)
  case stop =>
    rintro D cc pre W hD hSp ⟨rfl, ⟨p, y, rfl, hp, hy, hb, hb'⟩, hB⟩ hK
    have d2 := hb.cell
    have d3 := hb'.cell
    have e0 : last b l = some y.n := last_pre hSp hp hy
    gi_wp2
    refine ⟨by simp, .inl ⟨_, _, rfl, run_takeDeferred hK, ?_⟩⟩
    have d2 := cell_kept hb.cell (grownBy_putObj' _ D (.deferred none)) (fun r e => by cases e; exact ⟨_, hK, rfl⟩)
    have d3 := cell_kept hb'.cell (grownBy_putObj' _ D (.deferred none)) (fun r e => by cases e; exact ⟨_, hK, rfl⟩)
    refine ⟨.tuple #[.int .i64 y.n, .bool true], ?_, ?_, ?_⟩
    · simp [results, Try.f11, go_sem, d2, d3]
    · rw [lastV, e0]
    · exact hB.trans (belowK_b (w := w) (Nat.le_refl _) _ D _ _ (by simp at hD; omega) hK rfl rfl)
theorem last_any {B : Nat} {v : Value} {b : List Wr} (l : Int) (w : World) (hv : Wrs B w v b) (hBB : B ≤ w.heap.size) (hl : b.length ≤ 1000000) :
    Calls Try.prog 11 #[v, .int .i64 l] w fun e w' => e = .returned (lastV b l) ∧ Below w.heap.size w w' :=
  callsIn_wide.1 (last_in Fence.wide 10 trivial trivial trivial rfl (by omega) l w hv hBB hl)
end Go.Proofs.Ytnfdaajbfheocaa
