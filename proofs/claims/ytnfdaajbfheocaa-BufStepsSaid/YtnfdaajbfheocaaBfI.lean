/-
  THE WRITES FROM BEHIND: the iterator, for every loop body; Last: a loop over it that returns.
-/
import Derived.RangeFuncNested
import Derived.RangeFuncBound
import Derived.RangeFuncCalls
import Derived.RangeFuncLeaves
import Derived.RangeFuncBox
import Derived.Shelf.Abstract
import Derived.WalkKit
import Derived.OwnWalkIn
import Derived.TacticsInMore
import Derived.LoopNIn
import Derived.LoopIn
import Derived.Maps.OwnIn
import Derived.Test.YtnfdaajbfheocaaBfL
namespace Go.Proofs.Ytnfdaajbfheocaa
open Go.RowKit Go.Shelf
set_option linter.unusedVariables false
set_option linter.unusedSimpArgs false
attribute [local go_sem] Oper.semAt_some
open BfM

abbrev encw (x : Wr) : Array Value := #[.agg #[.int .i64 x.loc, .int .i64 x.n]]
/-- What a round keeps: whatever lay below n₀, and the block gs, where it holds cells. -/
def KpS (n₀ gs : Nat) (W W' : World) : Prop := Below n₀ W W' ∧ ∀ o : Obj, W.heap[gs]? = some o → o.isCells = true → W'.heap[gs]? = some o
theorem KpS.t {n₀ gs : Nat} {A B C : World} (h : KpS n₀ gs A B) (k : KpS n₀ gs B C) : KpS n₀ gs A C := ⟨h.1.trans k.1, fun o e c => k.2 o (h.2 o e c) c⟩
theorem KpS.b {n₀ gs : Nat} {w : World} (hn : n₀ ≤ w.heap.size) (W : World) (l : Nat) (o o' : Obj) (hl : w.heap.size ≤ l) (h : W.heap[l]? = some o) (hc : o.isCells = false) (_ : o.isWalk = false) : KpS n₀ gs W (W.putObj l o') :=
  ⟨(Below.refl n₀ W).grown (grownBy_putObj' W l o') (by have := (Array.getElem?_eq_some_iff.1 h).1; omega) (fun k e => by cases e; omega), fun u hu cu => by
    rw [World.putObj_heap_other (fun e => by subst e; rw [h] at hu; injection hu with hu; subst hu; rw [hc] at cu; cases cu)]; exact hu⟩
theorem cells_of_cell {W : World} {g : Nat} {v : Value} (h : W.cell? ⟨g, 0, none⟩ = some v) : ∃ o, W.heap[g]? = some o ∧ o.isCells = true := by
  unfold World.cell? at h
  cases e : W.heap[g]? with
  | none => simp [e] at h
  | some o =>
    refine ⟨o, rfl, ?_⟩
    simp only [e] at h
    cases o <;> first | rfl | (simp at h)
theorem KpS.cell {n₀ gs : Nat} {W W' : World} {v : Value} (h : KpS n₀ gs W W') (hv : W.cell? ⟨gs, 0, none⟩ = some v) : W'.cell? ⟨gs, 0, none⟩ = some v := by
  obtain ⟨o, h1, h2⟩ := cells_of_cell hv
  rw [World.cell?_of_block ((h.2 o h1 h2).trans h1.symm)]; exact hv
theorem KpS.grown {n₀ gs : Nat} {W W' : World} {row : Option Nat} (hn : n₀ ≤ W.heap.size) (hg : W.grownBy W' row) (hr : ∀ r, row = some r → n₀ ≤ r ∧ r ≠ gs) : KpS n₀ gs W W' :=
  ⟨(Below.refl n₀ W).grown hg hn (fun k e => (hr k e).1), fun o h _ => (hg.block gs (Array.getElem?_eq_some_iff.1 h).1 (fun e => (hr gs e.symm).2 rfl)).trans h⟩
/-- The writes behind place k, the last one first. -/
def bhd (b : List Wr) (k : Nat) : List Wr := (b.drop k).reverse
theorem bhd_end (b : List Wr) : bhd b b.length = [] := by simp [bhd]
theorem bhd_zero (b : List Wr) : bhd b 0 = b.reverse := by simp [bhd]
theorem bhd_step {b : List Wr} {k : Nat} (hk : k < b.length) : bhd b k = bhd b (k + 1) ++ [b[k]] := by
  unfold bhd; rw [List.drop_eq_getElem_cons hk, List.reverse_cons]
theorem bhd_len (b : List Wr) (k : Nat) : (bhd b k).length = b.length - k := by simp [bhd]
theorem bhd_pre (b : List Wr) : ∀ k, bhd b k <+: b.reverse := fun k => by
  unfold bhd
  have : b.reverse = (b.drop k).reverse ++ (b.take k).reverse := by rw [← List.reverse_append, List.take_append_drop]
  rw [this]; exact List.prefix_append _ _
def FbRel (b : List Wr) (J : List Wr → World → Prop) (n₀ gs : Nat) (W : World) (vb : Value) (i : Value) (wr : World) : Prop :=
  ∃ k : Nat, k ≤ b.length ∧ i = .int .i64 ((k : Int) - 1) ∧ J (bhd b k) wr ∧ Below n₀ W wr ∧ wr.cell? ⟨gs, 0, none⟩ = some vb
set_option maxRecDepth 100000 in
set_option maxHeartbeats 4000000 in
theorem behind1_in (F : Fence) (n : Nat) (h28 : F.fn 28) (hro : F.round = none) (hn : 2 ≤ n) (l n₀ n₁ gs : Nat) (vb : Value) (b : List Wr) (J Jx : List Wr → World → Prop)
    (hJ : AbidesFrom n₁ J)
    (hY : ∀ pre x W, J pre W → pre.length < b.length → YieldAt F (n - 1) Try.prog l (encw x) W fun e W' =>
      (e = .returned (.bool true) ∧ J (pre ++ [x]) W' ∧ KpS n₀ gs W W') ∨ (e = .returned (.bool false) ∧ Jx (pre ++ [x]) W'))
    (W : World) (hn₀ : n₀ ≤ W.heap.size) (cb : W.cell? ⟨gs, 0, none⟩ = some vb) (hb : Wrs n₀ W vb b)
    (hl : b.length ≤ 1000000) (h0 : J [] W) :
    CallsIn F n Try.prog 28 #[.func (.yield l) #[] #[], .pointer (some ⟨gs, 0, none⟩)] W fun e W' => (∃ v, e = .returned v) ∧
      ((∃ ys : List Wr, ys = b.reverse ∧ J ys W') ∨ (∃ pre : List Wr, pre <+: b.reverse ∧ Jx pre W')) := by
  have HJ := Lib.hid hJ
  have HY := Lib.hid hY
  obtain ⟨A0, c0, rfl, hc1, hc2, hc0, hc3⟩ := hb
  unfold maxLen at hc2
  have hc3 := wr_at (c := c0) hc3
  have h1 : 1 ≤ n := by omega
  have hgs0 : gs < W.heap.size := by obtain ⟨o, h, -⟩ := cells_of_cell cb; exact (Array.getElem?_eq_some_iff.1 h).1
  clear hJ hY hc0
  have HPP := Lib.hid (bhd_pre b)
  have HZ := Lib.hid (bhd_zero b)
  have HE := Lib.hid (bhd_end b)
  refine callsIn_of_wp Try.func28 rfl h28 ?_ hro
  simp only [Try.ntmps28, List.size_toArray, List.length_cons, List.length_nil, Nat.reduceAdd, Nat.reduceSub, Array.replicate_succ, Array.replicate_zero, List.push_toArray, List.append_toArray, List.nil_append, List.cons_append]
  gi_wp2
  gi_loopw [3] (fun i wr => FbRel b J n₀ gs W (.slice A0 b.length c0) i wr) (fun i _ => (intOf i + 1).toNat)
  case atStart => exact ⟨b.length, Nat.le_refl _, rfl, by rw [HE.out]; exact h0, Below.refl _ _, cb⟩
  case round =>
    obtain ⟨k, hk, rfl, hJs, hB, hG⟩ := hrel
    rcases Nat.eq_zero_or_pos k with rfl | hpos
    · rw [HZ.out] at hJs
      gi_wp2
      go_end0
      exact ⟨⟨_, rfl⟩, .inl ⟨_, rfl, hJs⟩⟩
    · obtain ⟨k, rfl⟩ : ∃ j, k = j + 1 := ⟨k - 1, by omega⟩
      have hkl : k < b.length := by omega
      obtain ⟨b2, f2, rfl, hb2, hst⟩ := hc3 (by omega)
      obtain ⟨y0, y1⟩ := hst k hkl
      have z0 := (hB.cell (p := ⟨b2, f2 + k * 2, none⟩) hb2).trans y0
      have z1 := (hB.cell (p := ⟨b2, f2 + k * 2 + 1, none⟩) hb2).trans y1
      have HST := Lib.hid (bhd_step hkl)
      have hnl : (bhd b (k + 1)).length < b.length := by rw [bhd_len]; omega
      have hP := HPP.out k
      generalize b[k] = x at *
      clear hst y0 y1 hc3
      have hws := hB.size
      have hkk : ((k + 1 : Nat) : Int) - 1 = (k : Int) := by omega
      rw [hkk]
      obtain ⟨fn, tmps, assign, body, hy, hR⟩ := HY.out _ x wr hJs hnl
      dsimp only [encw] at hy
      gi_wp2
      refine hR.mono ?_
      rintro e W4 (⟨rfl, hJ4, hk4⟩ | ⟨rfl, hJx4⟩)
      · have hB4 : Below n₀ W W4 := hB.trans hk4.1
        have hG4 := hk4.cell hG
        gi_wp2
        go_roundw
        case rel =>
          exact ⟨k, by omega, rfl, by rw [HST.out]; exact hJ4, hB4, hG4⟩
        case measure => simp [intOf]
      · gi_wp2
        refine bodyPost_ret (results_none rfl _ _ _) rfl ?_
        exact ⟨⟨_, rfl⟩, .inr ⟨_, by rw [← HST.out]; exact hP, hJx4⟩⟩
/-- What a loop over them is handed. -/
theorem behind_stops (F : Fence) (n : Nat) (h28 : F.fn 28) (hro : F.round = none) (hn : 2 ≤ n) (n₀ gs : Nat) (vb : Value) (b : List Wr) (w : World)
    (hn₀ : n₀ ≤ w.heap.size) (cb : w.cell? ⟨gs, 0, none⟩ = some vb) (hb : Wrs n₀ w vb b) (hl : b.length ≤ 1000000) :
    SeqStopsK F n Try.prog 28 #[.pointer (some ⟨gs, 0, none⟩)] encw (KpS n₀ gs) (fun ys : List Wr => ys = b.reverse) (fun pre => pre <+: b.reverse) b.length w :=
  fun l J Jx W hW hJ _ hY h0 => behind1_in F n h28 hro hn l n₀ W.heap.size gs vb b J Jx hJ hY W (Nat.le_trans hn₀ hW.size) (kc hW cb) (hb.below (hW.mono hn₀)) hl h0
set_option maxHeartbeats 1000000 in
theorem behind_in (F : Fence) (n : Nat) (h : F.fn 23) (hro : F.round = none) (A : Option Addr) (m c : Nat) (w : World) :
    CallsIn F n Try.prog 23 #[.slice A m c] w fun e w' => e = .returned (.func (.func 28) #[] #[.pointer (some ⟨w.heap.size, 0, none⟩)]) ∧
      w' = w.alloc (.cells #[.slice A m c] 43) := by
  refine callsIn_of_wp Try.func23 rfl h ?_ hro
  simp only [Try.ntmps23, List.size_toArray, List.length_cons, List.length_nil, Nat.reduceAdd, Nat.reduceSub, Array.replicate_succ, Array.replicate_zero, List.push_toArray, List.append_toArray, List.nil_append, List.cons_append]
  gi_wp2
  go_ret
  exact ⟨rfl, rfl⟩
end Go.Proofs.Ytnfdaajbfheocaa
