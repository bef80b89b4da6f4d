/-
  THE ITERATOR OVER A CODE's SLOTS: for every loop body that keeps what lay below n₀; and what it hands back to a loop.
  slots.count, Many, Of, Num: loops over the iterator.
  slots.Num: a loop over the iterator that returns.
-/
import Derived.RangeFuncNested
import Derived.RangeFuncBound
import Derived.RangeFuncCalls
import Derived.RangeFuncLeaves
import Derived.RangeFuncBox
import Derived.Shelf.Abstract
import Derived.WalkKit
import Derived.OwnWalkIn
import Derived.TacticsInMore
import Derived.LoopNIn
import Derived.LoopIn
import Derived.Maps.OwnIn
import Derived.Test.YtaelfjphgdlbcaaM05
import Derived.Test.YtaelfjphgdlbcaaM03
import Derived.Test.YtaelfjphgdlbcaaM06
namespace Go.Proofs.Ytaelfjphgdlbcaa
open Go.RowKit Go.Shelf
set_option linter.unusedVariables false
set_option linter.unusedSimpArgs false
attribute [local go_sem] Oper.semAt_some
open CodM (St Pg)
open SlM

/-- A slot and its place, small enough. -/
abbrev Sq := { x : Sp // x.n < 1099511627776 ∧ x.t < 1099511627776 ∧ x.k < 1099511627776 }
abbrev encs (x : Sq) : Array Value := #[.int .i64 (x.1.n : Int), .agg #[.int .i64 (x.1.t : Int), .int .i64 (x.1.k : Int)]]
theorem wf_small {n : Nat} (h : n < 1099511627776) : (Lit.int .i64 (n : Int)).wf = true := WalkArith.wf_i64 (by omega)
theorem sq_snoc {pre : List Sq} {l : List Sp} {x : Sp} (h : pre.map Subtype.val = l) (hx : x.n < 1099511627776 ∧ x.t < 1099511627776 ∧ x.k < 1099511627776) : (pre ++ [(⟨x, hx⟩ : Sq)]).map Subtype.val = l ++ [x] := by
  rw [List.map_append, h]; rfl
theorem sq_len {pre : List Sq} {l : List Sp} (h : pre.map Subtype.val = l) : pre.length = l.length := by rw [← h, List.length_map]
theorem sq_pre {pre : List Sq} {l m : List Sp} (h : pre.map Subtype.val = l) (hl : l <+: m) : pre.map Subtype.val <+: m := h ▸ hl
/-- What a round keeps: whatever lay below n₀, and the block gs, where it holds cells. -/
def KpS (n₀ gs : Nat) (W W' : World) : Prop := Below n₀ W W' ∧ ∀ o : Obj, W.heap[gs]? = some o → o.isCells = true → W'.heap[gs]? = some o
theorem KpS.t {n₀ gs : Nat} {A B C : World} (h : KpS n₀ gs A B) (k : KpS n₀ gs B C) : KpS n₀ gs A C := ⟨h.1.trans k.1, fun o e c => k.2 o (h.2 o e c) c⟩
theorem KpS.b {n₀ gs : Nat} {w : World} (hn : n₀ ≤ w.heap.size) (W : World) (l : Nat) (o o' : Obj) (hl : w.heap.size ≤ l) (h : W.heap[l]? = some o) (hc : o.isCells = false) (_ : o.isWalk = false) : KpS n₀ gs W (W.putObj l o') :=
  ⟨(Below.refl n₀ W).grown (grownBy_putObj' W l o') (by have := (Array.getElem?_eq_some_iff.1 h).1; omega) (fun k e => by cases e; omega), fun u hu cu => by
    rw [World.putObj_heap_other (fun e => by subst e; rw [h] at hu; injection hu with hu; subst hu; rw [hc] at cu; cases cu)]; exact hu⟩
theorem cells_of_cell {W : World} {g : Nat} {v : Value} (h : W.cell? ⟨g, 0, none⟩ = some v) : ∃ o, W.heap[g]? = some o ∧ o.isCells = true := by
  unfold World.cell? at h
  cases e : W.heap[g]? with
  | none => simp [e] at h
  | some o =>
    refine ⟨o, rfl, ?_⟩
    simp only [e] at h
    cases o <;> first | rfl | (simp at h)
theorem KpS.cell {n₀ gs : Nat} {W W' : World} {v : Value} (h : KpS n₀ gs W W') (hv : W.cell? ⟨gs, 0, none⟩ = some v) : W'.cell? ⟨gs, 0, none⟩ = some v := by
  obtain ⟨o, h1, h2⟩ := cells_of_cell hv
  rw [World.cell?_of_block ((h.2 o h1 h2).trans h1.symm)]; exact hv
theorem KpS.grown {n₀ gs : Nat} {W W' : World} {row : Option Nat} (hn : n₀ ≤ W.heap.size) (hg : W.grownBy W' row) (hr : ∀ r, row = some r → n₀ ≤ r ∧ r ≠ gs) : KpS n₀ gs W W' :=
  ⟨(Below.refl n₀ W).grown hg hn (fun k e => (hr k e).1), fun o h _ => (hg.block gs (Array.getElem?_eq_some_iff.1 h).1 (fun e => (hr gs e.symm).2 rfl)).trans h⟩
set_option maxHeartbeats 1000000 in
theorem anystep_in (F : Fence) (n : Nat) (h : F.fn 35) (hro : F.round = none) (a b c d e : Int) (w : World) :
    CallsIn F n Try.prog 35 #[.agg #[.int .i64 a, .int .i64 b, .int .i64 c, .int .i64 d, .int .i64 e]] w fun e' w' => e' = .returned (.bool true) ∧ w.grownBy w' none := by
  refine callsIn_of_wp Try.func35 rfl h ?_ hro
  simp only [Try.ntmps35, List.size_toArray, List.length_cons, List.length_nil, Nat.reduceAdd, Nat.reduceSub, Array.replicate_succ, Array.replicate_zero, List.push_toArray, List.append_toArray, List.nil_append, List.cons_append]
  gi_wp2
  go_ret
  exact ⟨rfl, World.grownBy_alloc _ _ _⟩
def A1Rel (ths : List (List St)) (J : List Sq → World → Prop) (n₀ gs : Nat) (W : World) (m i : Value) (wr : World) : Prop :=
  ∃ (j : Nat) (pre : List Sq), j ≤ ths.length ∧ i = .int .i64 j ∧ m = .int .i64 (ahd anyS ths j : Nat) ∧ pre.map Subtype.val = plA anyS ths j ∧ J pre wr ∧ Below n₀ W wr ∧ wr.cell? ⟨gs, 0, none⟩ = some (.func (.func 35) #[] #[])
def A2Rel (ths : List (List St)) (t : Nat) (len : Nat) (J : List Sq → World → Prop) (n₀ gs : Nat) (W : World) (m i : Value) (wr : World) : Prop :=
  ∃ (k : Nat) (pre : List Sq), k ≤ len ∧ i = .int .i64 k ∧ m = .int .i64 (sl anyS ths t k : Nat) ∧ pre.map Subtype.val = plP anyS ths t k ∧ J pre wr ∧ Below n₀ W wr ∧ wr.cell? ⟨gs, 0, none⟩ = some (.func (.func 35) #[] #[])
set_option maxRecDepth 100000 in
set_option maxHeartbeats 4000000 in
theorem all1s_in (F : Fence) (n : Nat) (h59 : F.fn 59) (h35 : F.fn 35) (hro : F.round = none) (hn : 2 ≤ n) (l n₀ n₁ gt gs : Nat) (vt : Value) (ths : List (List St)) (J Jx : List Sq → World → Prop)
    (hJ : AbidesFrom n₁ J)
    (hY : ∀ pre x W, J pre W → pre.length < many anyS ths → YieldAt F (n - 1) Try.prog l (encs x) W fun e W' =>
      (e = .returned (.bool true) ∧ J (pre ++ [x]) W' ∧ KpS n₀ gs W W') ∨ (e = .returned (.bool false) ∧ Jx (pre ++ [x]) W'))
    (W : World) (hn₀ : n₀ ≤ W.heap.size) (ct : W.cell? ⟨gt, 0, none⟩ = some vt) (cs : W.cell? ⟨gs, 0, none⟩ = some (.func (.func 35) #[] #[])) (hth : Sss n₀ W vt ths)
    (hl : ths.length ≤ 1000000) (hll : ∀ ss ∈ ths, ss.length ≤ 1000000) (h0 : J [] W) :
    CallsIn F n Try.prog 59 #[.func (.yield l) #[] #[], .pointer (some ⟨gt, 0, none⟩), .pointer (some ⟨gs, 0, none⟩)] W fun e W' => (∃ v, e = .returned v) ∧
      ((∃ ys : List Sq, ys.map Subtype.val = pls anyS ths ∧ J ys W') ∨ (∃ pre : List Sq, pre.map Subtype.val <+: pls anyS ths ∧ Jx pre W')) := by
  have HLL := Lib.hid (fun (t : Nat) (ht : t < ths.length) => hll ths[t] (List.getElem_mem ht))
  have HJ := Lib.hid hJ
  have HY := Lib.hid hY
  have HMM := Lib.hid (many_le anyS (M := 1000000) ths (Nat.le_refl _) hll)
  have HTH := Lib.hid hth
  obtain ⟨A0, c0, rfl, hc1, hc2, hc3⟩ := hth
  unfold maxLen at hc2
  have h1 : 1 ≤ n := by omega
  have hgs0 : gs < W.heap.size := by obtain ⟨o, h, -⟩ := cells_of_cell cs; exact (Array.getElem?_eq_some_iff.1 h).1
  clear hll hJ hY
  refine callsIn_of_wp Try.func59 rfl h59 ?_ hro
  simp only [Try.ntmps59, List.size_toArray, List.length_cons, List.length_nil, Nat.reduceAdd, Nat.reduceSub, Array.replicate_succ, Array.replicate_zero, List.push_toArray, List.append_toArray, List.nil_append, List.cons_append]
  gi_wp2
  gi_loopw [4, 11] (fun m i wr => A1Rel ths J n₀ gs W m i wr) (fun _ i _ => ths.length - (intOf i).toNat)
  case atStart => exact ⟨0, [], Nat.zero_le _, rfl, rfl, rfl, h0, Below.refl _ _, cs⟩
  case round =>
    obtain ⟨j, pre, hj, rfl, rfl, hp, hJs, hB, hG⟩ := hrel
    by_cases hlt : j < ths.length
    · obtain ⟨b1, f1, rfl, hb1, hcl⟩ := hc3 (by omega)
      obtain ⟨vs, hv, hsts⟩ := hcl j hlt
      have hv' := (hB.cell (p := ⟨b1, f1 + j, none⟩) hb1).trans hv
      obtain ⟨A1, c1, rfl, hd1, hd2, hd3⟩ := hsts
      have hlen := HLL.out j hlt
      unfold maxLen at hd2
      have HS0 := Lib.hid (sl_zero anyS ths j)
      have HP0 := Lib.hid (plP_zero anyS ths j)
      have HSN := Lib.hid (fun (k : Nat) (hk : k < ths[j].length) => sl_next anyS ths hlt hk)
      have HPN := Lib.hid (fun (k : Nat) (hk : k < ths[j].length) => show plP anyS ths j (k + 1) = plP anyS ths j k ++ [⟨sl anyS ths j k, j, k⟩] by rw [plP_next, isS_any ths hlt hk]; rfl)
      have HSL := Lib.hid (fun (k : Nat) (hk : k < ths[j].length) => sl_lt anyS ths hlt hk rfl)
      have HPL := Lib.hid (fun (k : Nat) (hk : k ≤ ths[j].length) => plP_len anyS ths hlt hk)
      have HPP := Lib.hid (fun (k : Nat) (hk : k ≤ ths[j].length) => plP_pre anyS ths hlt hk)
      have HSE := Lib.hid (sl_end anyS ths hlt)
      have HPE := Lib.hid (plP_end anyS ths hlt)
      generalize ths[j] = ss at *
      clear hcl hv hc3
      gi_wp2
      gi_loopw [4, 18] (fun m i wr => A2Rel ths j ss.length J n₀ gs W m i wr) (fun _ i _ => ss.length - (intOf i).toNat)
      case atStart => exact ⟨0, pre, Nat.zero_le _, rfl, by rw [HS0.out], by rw [HP0.out]; exact hp, hJs, hB, hG⟩
      case round =>
        clear hp hJs hB hv' hG
        obtain ⟨k, pre, hk, rfl, rfl, hp, hJs, hB, hG⟩ := hrel
        by_cases hlt2 : k < ss.length
        · obtain ⟨b2, f2, rfl, hb2, hst⟩ := hd3 (by omega)
          obtain ⟨z0, z1, z2, z3, z4⟩ := (hst k hlt2).below hB hb2
          have hkl := HSL.out k hlt2
          have hM := HMM.out
          have hnl : pre.length < many anyS ths := by rw [sq_len hp, HPL.out k (by omega)]; exact hkl
          have hsm : sl anyS ths j k < 1099511627776 ∧ j < 1099511627776 ∧ k < 1099511627776 := by
            have : ths.length * 1000000 ≤ 1000000 * 1000000 := Nat.mul_le_mul_right _ hl
            omega
          have hSn := Lib.hid (HSN.out k hlt2)
          have hPn := Lib.hid (HPN.out k hlt2)
          have hst2 := HPP.out (k + 1) (by omega)
          generalize ss[k] = x at *
          generalize hs : sl anyS ths j k = q at *
          clear hst
          have hws := hB.size
          have hgs' : gs < wr.heap.size := by obtain ⟨o, h, -⟩ := cells_of_cell hG; exact (Array.getElem?_eq_some_iff.1 h).1
          have hb2' : b2 < wr.heap.size := by omega
          gi_wp2_with (gi_at_call 35; refine (anystep_in F (n - 1) h35 hro _ _ _ _ _ _).mono ?_; rintro e w3 ⟨rfl, hg3⟩; have hg := (World.grownBy_alloc wr (.cells #[.int .i64 x.op, .int .i64 x.reg, .int .i64 x.loc, .int .i64 x.n, .int .i64 x.to] 53) none).trans hg3; have hJ3 := HJ.out _ _ _ none hJs hg (fun r e => by cases e); obtain ⟨fn, tmps, assign, body, hy, hR⟩ := HY.out pre ⟨⟨q, j, k⟩, hsm⟩ w3 hJ3 hnl; dsimp only [encs] at hy)
          refine hR.mono ?_
          rintro e W4 (⟨rfl, hJ4, hk4⟩ | ⟨rfl, hJx4⟩)
          · have hB4 : Below n₀ W W4 := (hB.grown hg (by omega) (fun r e => by cases e)).trans hk4.1
            have hG4 := hk4.cell (hg.cell hG (fun e => by cases e))
            gi_wp2
            go_roundw
            case rel =>
              refine ⟨k + 1, _, by omega, by go_num, ?_, ?_, hJ4, hB4, hG4⟩
              · rw [hSn.out]; simp [anyS]
              · rw [hPn.out]; exact sq_snoc hp hsm
            case measure => simp [intOf]; omega
          · gi_wp2
            refine bodyPost_ret (results_none rfl _ _ _) rfl ?_
            refine ⟨⟨_, rfl⟩, .inr ⟨_, ?_, hJx4⟩⟩
            rw [sq_snoc hp hsm, ← hPn.out]; exact hst2
        · obtain rfl : ss.length = k := by omega
          gi_wp2
          go_roundw
          case rel => exact ⟨j + 1, pre, by omega, by go_num, by rw [HSE.out], by rw [hp, HPE.out], hJs, hB, hG⟩
          case measure => simp [intOf]; omega
    · obtain rfl : ths.length = j := by omega
      gi_wp2
      go_end0
      exact ⟨⟨_, rfl⟩, .inl ⟨pre, hp, hJs⟩⟩
/-- What a loop over the slots is handed. -/
theorem alls_stops (F : Fence) (n : Nat) (h59 : F.fn 59) (h35 : F.fn 35) (hro : F.round = none) (hn : 2 ≤ n) (n₀ gt gs : Nat) (vt : Value) (ths : List (List St)) (w : World)
    (hn₀ : n₀ ≤ w.heap.size) (ct : w.cell? ⟨gt, 0, none⟩ = some vt) (cs : w.cell? ⟨gs, 0, none⟩ = some (.func (.func 35) #[] #[])) (hth : Sss n₀ w vt ths)
    (hl : ths.length ≤ 1000000) (hll : ∀ ss ∈ ths, ss.length ≤ 1000000) :
    SeqStopsK F n Try.prog 59 #[.pointer (some ⟨gt, 0, none⟩), .pointer (some ⟨gs, 0, none⟩)] encs (KpS n₀ gs) (fun ys : List Sq => ys.map Subtype.val = pls anyS ths) (fun pre => pre.map Subtype.val <+: pls anyS ths) (many anyS ths) w :=
  fun l J Jx W hW hJ _ hY h0 => all1s_in F n h59 h35 hro hn l n₀ W.heap.size gt gs vt ths J Jx hJ hY W (Nat.le_trans hn₀ hW.size) (kc hW ct) (kc hW cs) (hth.below (hW.mono hn₀)) hl hll h0
set_option maxHeartbeats 1000000 in
theorem alls_in (F : Fence) (n : Nat) (h : F.fn 34) (hro : F.round = none) (A : Option Addr) (m c : Nat) (w : World) :
    CallsIn F n Try.prog 34 #[.slice A m c, .func (.func 35) #[] #[]] w fun e w' => e = .returned (.func (.func 59) #[] #[.pointer (some ⟨w.heap.size, 0, none⟩), .pointer (some ⟨w.heap.size + 1, 0, none⟩)]) ∧
      w' = (w.alloc (.cells #[.slice A m c] 23)).alloc (.cells #[.func (.func 35) #[] #[]] 69) := by
  refine callsIn_of_wp Try.func34 rfl h ?_ hro
  simp only [Try.ntmps34, List.size_toArray, List.length_cons, List.length_nil, Nat.reduceAdd, Nat.reduceSub, Array.replicate_succ, Array.replicate_zero, List.push_toArray, List.append_toArray, List.nil_append, List.cons_append]
  gi_wp2
  go_ret
  exact ⟨rfl, rfl⟩
/-- Behind 'all': the two boxes. -/
theorem alls_boxes (w : World) (v u : Value) (T U : TypeId) : ((w.alloc (.cells #[v] T)).alloc (.cells #[u] U)).cell? ⟨w.heap.size, 0, none⟩ = some v ∧ ((w.alloc (.cells #[v] T)).alloc (.cells #[u] U)).cell? ⟨w.heap.size + 1, 0, none⟩ = some u ∧ Below w.heap.size w ((w.alloc (.cells #[v] T)).alloc (.cells #[u] U)) := by
  have b1 := (Boxed.new w T v).alloc (.cells #[u] U)
  have b2 := Boxed.new (w.alloc (.cells #[v] T)) U u
  rw [World.size_alloc] at b2
  exact ⟨b1.cell, b2.cell, ((Below.refl _ w).alloc (Nat.le_refl _) _).alloc (by simp) _⟩
end Go.Proofs.Ytaelfjphgdlbcaa
namespace Go.Proofs.Ytaelfjphgdlbcaa
open Go.RowKit Go.Shelf
set_option linter.unusedVariables false
set_option linter.unusedSimpArgs false
attribute [local go_sem] Oper.semAt_some
open CodM (St Pg)
open SlM

set_option maxRecDepth 100000 in
set_option maxHeartbeats 2000000 in
theorem counts_in (F : Fence) (n : Nat) (h44 : F.fn 44) (h34 : F.fn 34) (h59 : F.fn 59) (h35 : F.fn 35) (hro : F.round = none) (hn : 4 ≤ n) {B : Nat} {v : Value} {ths : List (List St)} (w : World)
    (hv : Sss B w v ths) (hBB : B ≤ w.heap.size) (hl : ths.length ≤ 1000000) (hll : ∀ ss ∈ ths, ss.length ≤ 1000000) :
    CallsIn F n Try.prog 44 #[v, .func (.func 35) #[] #[]] w fun e w' => e = .returned (.int .i64 (many anyS ths : Nat)) ∧ Below w.heap.size w w' := by
  have h1 : 1 ≤ n := by omega
  have HV := Lib.hid hv
  have HLL := Lib.hid hll
  obtain ⟨A, c, rfl, hc1, hc2, -⟩ := hv
  have hM : many anyS ths ≤ 1000000 * 1000000 := many_le anyS ths hl hll
  refine callsIn_of_wp_marks Try.func44 rfl h44 ?_ hro
  simp only [Try.ntmps44, List.size_toArray, List.length_cons, List.length_nil, Nat.reduceAdd, Nat.reduceSub, Array.replicate_succ, Array.replicate_zero, List.push_toArray, List.append_toArray, List.nil_append, List.cons_append]
  gi_wp2_with (gi_at_call 34; refine (alls_in F (n - 1) h34 hro _ _ _ _).mono ?_; rintro e w' ⟨rfl, rfl⟩)
  obtain ⟨bt, bs, hb2⟩ := alls_boxes (w.alloc (.cells #[.int .i64 0] 3)) (.slice A ths.length c) (.func (.func 35) #[] #[]) 23 69
  have bm := ((Boxed.new w 3 (.int .i64 0)).alloc (.cells #[.slice A ths.length c] 23)).alloc (.cells #[.func (.func 35) #[] #[]] 69)
  have hB := ((Below.refl _ w).alloc (Nat.le_refl _) (.cells #[.int .i64 0] 3)).trans (hb2.mono (by simp))
  rw [World.size_alloc] at bt bs
  refine wpIn_rangeFunc_ownG hro h1 (gf := 59) (lb := #[.pointer (some ⟨w.heap.size + 1, 0, none⟩), .pointer (some ⟨w.heap.size + 1 + 1, 0, none⟩)]) rfl h59 (enters_of Try.func59 (by kernel_rfl) rfl)
    (alls_stops F (n - 1) h59 h35 hro (by omega) w.heap.size _ _ _ ths _ (by simp; omega) bt bs ((HV.out.more hBB).below hB) hl HLL.out) KpS.t (KpS.b (by simp; omega)) (Below.refl _ _) (fun _ => rfl)
    (fun pre W => Boxed W w.heap.size 3 (.int .i64 (pre.length : Nat)) ∧ Below w.heap.size w W)
    (fun _ _ _ => False)
    (OwnFrom.and (Own.from (boxed_own _ _ (fun pre : List Sq => .int .i64 (pre.length : Nat))) _) (ownFrom_below (Nat.le_refl _) (by simp; omega)))
    (fun _ _ _ _ _ hs _ _ => hs)
    ⟨bm, hB⟩
    (fun x => { tmps := #[.slice A ths.length c, .func (.func 35) #[] #[], undef, undef, .int .i64 0, .pointer (some ⟨w.heap.size, 0, none⟩), .slice A ths.length c, .func (.func 35) #[] #[], .func (.func 59) #[] #[.pointer (some ⟨w.heap.size + 1, 0, none⟩), .pointer (some ⟨w.heap.size + 1 + 1, 0, none⟩)], .int .i64 (x.1.n : Int), .agg #[.int .i64 (x.1.t : Int), .int .i64 (x.1.k : Int)], undef, undef, undef], defers := [] }) ?assign ?body ?done ?stop
  case assign =>
    intro l x W K hK
    dsimp only [encs]
    gi_wp2
    simpa using hK
  case body =>
    rintro l pre x W ⟨hb, hB⟩ hlt
    have hc := hb.cell
    have hf := hb.frozen
    gi_wp2
    exact ⟨(KeepsOthers.setCell _ _ _).from _, KpS.grown hB.size (grownBy_setCell' W w.heap.size _) (fun r e => by cases e; exact ⟨Nat.le_refl _, by omega⟩), by have := hb.set (.int .i64 ((pre.length : Int) + 1)); simpa using this, hB.setCell (p := ⟨w.heap.size, 0, none⟩) (Nat.le_refl _) _⟩
  case done =>
    rintro D ys W hD hys ⟨hb, hB⟩ hK
    rw [sq_len hys, pls_len] at hb
    have hc := hb.cell
    gi_wp2
    refine ⟨by simp, .inl ⟨_, _, rfl, run_takeDeferred hK, ?_⟩⟩
    exact ⟨_, results_tmp rfl _ _ _, rfl, hB.trans (belowK_b (w := w) (Nat.le_refl _) W D _ _ (by simp at hD; omega) hK rfl rfl)⟩
  case stop =>
    rintro D cc pre W _ _ h _
    exact h.elim
end Go.Proofs.Ytaelfjphgdlbcaa
namespace Go.Proofs.Ytaelfjphgdlbcaa
open Go.RowKit Go.Shelf
set_option linter.unusedVariables false
set_option linter.unusedSimpArgs false
attribute [local go_sem] Oper.semAt_some
open CodM (St Pg)
open SlM

/-- A box of two cells. -/
def Box2 (W : World) (B : Nat) (T : TypeId) (u v : Value) : Prop := W.heap[B]? = some (.cells #[u, v] T (0, 0))
theorem Box2.lt {W : World} {B : Nat} {T : TypeId} {u v : Value} (h : Box2 W B T u v) : B < W.heap.size := (Array.getElem?_eq_some_iff.1 h).1
theorem Box2.cell0 {W : World} {B : Nat} {T : TypeId} {u v : Value} (h : Box2 W B T u v) : W.cell? ⟨B, 0, none⟩ = some u := by simp [World.cell?, show W.heap[B]? = _ from h]
theorem Box2.cell1 {W : World} {B : Nat} {T : TypeId} {u v : Value} (h : Box2 W B T u v) : W.cell? ⟨B, 1, none⟩ = some v := by simp [World.cell?, show W.heap[B]? = _ from h]
theorem Box2.frozen {W : World} {B i : Nat} {T : TypeId} {u v : Value} (h : Box2 W B T u v) : W.frozen? ⟨B, i, none⟩ = false := by simp [World.frozen?, show W.heap[B]? = _ from h]
theorem Box2.new (W : World) (T : TypeId) (u v : Value) : Box2 (W.alloc (.cells #[u, v] T)) W.heap.size T u v := World.alloc_heap_new W _
theorem Box2.kept {W W' : World} {row : Option Nat} {B : Nat} {T : TypeId} {u v : Value} (h : Box2 W B T u v) (hg : W.grownBy W' row) (hne : some B ≠ row) : Box2 W' B T u v := (hg.block B h.lt hne).trans h
theorem Box2.alloc {W : World} {B : Nat} {T : TypeId} {u v : Value} (h : Box2 W B T u v) (o : Obj) : Box2 (W.alloc o) B T u v := h.kept (World.grownBy_alloc W o none) (by simp)
theorem box2_own {β : Type} (B : Nat) (T : TypeId) (u v : Value) : Own (fun (_ : β) W => Box2 W B T u v) := fun s X Y row hs hg hrow =>
  hs.kept hg (fun e' => by obtain ⟨o, ho, hc⟩ := hrow B e'.symm; rw [show X.heap[B]? = _ from hs] at ho; cases ho; cases hc)
set_option maxRecDepth 100000 in
set_option maxHeartbeats 2000000 in
theorem num_in (F : Fence) (n : Nat) (h19 : F.fn 19) (h34 : F.fn 34) (h59 : F.fn 59) (h35 : F.fn 35) (hro : F.round = none) (hn : 4 ≤ n) {B : Nat} {vi vt : Value} {ths : List (List St)} (th at' : Int) (w : World)
    (hvi : ∃ A m c, vi = .slice A m c) (hv : Sss B w vt ths) (hBB : B ≤ w.heap.size) (hl : ths.length ≤ 1000000) (hll : ∀ ss ∈ ths, ss.length ≤ 1000000) :
    CallsIn F n Try.prog 19 #[.agg #[vi, vt], .int .i64 th, .int .i64 at'] w fun e w' => e = .returned (.int .i64 (numI ths th at')) ∧ Below w.heap.size w w' := by
  have h1 : 1 ≤ n := by omega
  have HV := Lib.hid hv
  have HLL := Lib.hid hll
  obtain ⟨Ai, mi, ci, rfl⟩ := hvi
  obtain ⟨A, c, rfl, hc1, hc2, -⟩ := hv
  refine callsIn_of_wp_marks Try.func19 rfl h19 ?_ hro
  simp only [Try.ntmps19, List.size_toArray, List.length_cons, List.length_nil, Nat.reduceAdd, Nat.reduceSub, Array.replicate_succ, Array.replicate_zero, List.push_toArray, List.append_toArray, List.nil_append, List.cons_append]
  gi_wp2_with (gi_at_call 34; refine (alls_in F (n - 1) h34 hro _ _ _ _).mono ?_; rintro e w' ⟨rfl, rfl⟩)
  obtain ⟨W0, hW0⟩ : ∃ W0, W0 = (((w.alloc (.cells #[.slice Ai mi ci, .slice A ths.length c] 25)).alloc (.cells #[.int .i64 th] 3)).alloc (.cells #[.int .i64 at'] 3)).alloc (.cells #[.int .i64 0] 3) := ⟨_, rfl⟩
  have hs0 : W0.heap.size = w.heap.size + 1 + 1 + 1 + 1 := by rw [hW0]; simp
  have b1 : Boxed W0 (w.heap.size + 1) 3 (.int .i64 th) := by
    have := ((Boxed.new (w.alloc (.cells #[.slice Ai mi ci, .slice A ths.length c] 25)) 3 (.int .i64 th)).alloc (.cells #[.int .i64 at'] 3)).alloc (.cells #[.int .i64 0] 3)
    rw [World.size_alloc] at this; rw [hW0]; exact this
  have b2 : Boxed W0 (w.heap.size + 1 + 1) 3 (.int .i64 at') := by
    have := (Boxed.new ((w.alloc (.cells #[.slice Ai mi ci, .slice A ths.length c] 25)).alloc (.cells #[.int .i64 th] 3)) 3 (.int .i64 at')).alloc (.cells #[.int .i64 0] 3)
    rw [World.size_alloc, World.size_alloc] at this; rw [hW0]; exact this
  have b3 : Boxed W0 (w.heap.size + 1 + 1 + 1) 3 (.int .i64 0) := by
    have := Boxed.new (((w.alloc (.cells #[.slice Ai mi ci, .slice A ths.length c] 25)).alloc (.cells #[.int .i64 th] 3)).alloc (.cells #[.int .i64 at'] 3)) 3 (.int .i64 0)
    rw [World.size_alloc, World.size_alloc, World.size_alloc] at this; rw [hW0]; exact this
  have hB0 : Below w.heap.size w W0 := by rw [hW0]; exact below_al (below_al (below_al (below_al (Below.refl _ w) _) _) _) _
  rw [← hW0]
  obtain ⟨bt, bs, hb2⟩ := alls_boxes W0 (.slice A ths.length c) (.func (.func 35) #[] #[]) 23 69
  have b1' := (b1.alloc (.cells #[.slice A ths.length c] 23)).alloc (.cells #[.func (.func 35) #[] #[]] 69)
  have b2' := (b2.alloc (.cells #[.slice A ths.length c] 23)).alloc (.cells #[.func (.func 35) #[] #[]] 69)
  have b3' := (b3.alloc (.cells #[.slice A ths.length c] 23)).alloc (.cells #[.func (.func 35) #[] #[]] 69)
  have hB := hB0.trans (hb2.mono hB0.size)
  clear b1 b2 b3 hW0
  rw [← hs0]
  refine wpIn_rangeFunc_ownH hro h1 (gf := 59) (lb := #[.pointer (some ⟨W0.heap.size, 0, none⟩), .pointer (some ⟨W0.heap.size + 1, 0, none⟩)]) rfl h59 (enters_of Try.func59 (by kernel_rfl) rfl)
    (alls_stops F (n - 1) h59 h35 hro (by omega) w.heap.size _ _ _ ths _ (by simp; omega) bt bs ((HV.out.more hBB).below hB) hl HLL.out) KpS.t (KpS.b (by simp; omega)) (Below.refl _ _) (fun _ => rfl)
    (fun pre W => (Boxed W (w.heap.size + 1) 3 (.int .i64 th) ∧ Boxed W (w.heap.size + 1 + 1) 3 (.int .i64 at') ∧ Boxed W (w.heap.size + 1 + 1 + 1) 3 (.int .i64 0)) ∧ Below w.heap.size w W ∧ ∀ y ∈ pre, ¬ (((y : Sq).1.t : Int) = th ∧ (y.1.k : Int) = at'))
    (fun c pre W => c = .ret ∧ (∃ y ∈ pre, (((y : Sq).1.t : Int) = th ∧ (y.1.k : Int) = at') ∧ Boxed W (w.heap.size + 1 + 1 + 1) 3 (.int .i64 (y.1.n : Int))) ∧ Below w.heap.size w W)
    (OwnFrom.and (OwnFrom.and (Own.from (boxed_own _ _ (fun _ : List Sq => .int .i64 th)) _) (OwnFrom.and (Own.from (boxed_own _ _ (fun _ : List Sq => .int .i64 at')) _) (Own.from (boxed_own _ _ (fun _ : List Sq => .int .i64 0)) _))) (OwnFrom.and (ownFrom_below (Nat.le_refl _) (by simp; omega)) (ownFrom_pure _ _)))
    (fun c s A B row hs hg hr => ⟨hs.1, by obtain ⟨-, ⟨y, hy, he, hb⟩, -⟩ := hs; exact ⟨y, hy, he, (boxed_own _ _ (fun _ : Unit => .int .i64 (y.1.n : Int))) () A B row hb hg (fun r e => (hr r e).2)⟩, (ownFrom_below (β := Unit) (Nat.le_refl _) (by simp; omega)) () A B row hs.2.2 hg hr⟩)
    ⟨⟨b1', b2', b3'⟩, hB, by simp⟩
    (fun x a' W => ∃ Bx, w.heap.size + 1 + 1 + 1 < Bx ∧ Box2 W Bx 71 (.int .i64 (x.1.t : Int)) (.int .i64 (x.1.k : Int)) ∧ a' = { tmps := #[.agg #[.slice Ai mi ci, .slice A ths.length c], .int .i64 th, .int .i64 at', .pointer (some ⟨w.heap.size, 0, none⟩), .pointer (some ⟨w.heap.size + 1, 0, none⟩), .pointer (some ⟨w.heap.size + 1 + 1, 0, none⟩), .pointer (some ⟨w.heap.size + 1 + 1 + 1, 0, none⟩), .int .i64 (x.1.n : Int), .pointer (some ⟨Bx, 0, none⟩), .pointer (some ⟨w.heap.size, 1, none⟩), .slice A ths.length c, .func (.func 59) #[] #[.pointer (some ⟨W0.heap.size, 0, none⟩), .pointer (some ⟨W0.heap.size + 1, 0, none⟩)], .int .i64 (x.1.n : Int), .agg #[.int .i64 (x.1.t : Int), .int .i64 (x.1.k : Int)], undef, undef, undef, undef, undef, undef], defers := [] })
    (fun x a' s A B row hs hg hr => by obtain ⟨Bx, h1, h2, h3⟩ := hs; exact ⟨Bx, h1, (box2_own (β := Unit) Bx _ _ _) () A B row h2 hg (fun r e => (hr r e).2), h3⟩)
    ?assign ?body ?done ?stop
  case assign =>
    rintro l pre x W K ⟨⟨h1, h2, h3⟩, hB, hno⟩ hK
    dsimp only [encs]
    gi_wp2
    exact hK _ _ ((KeepsOthers.alloc _ _).from _) (KpS.grown hB.size (World.grownBy_alloc _ _ none) (fun r e => by cases e)) ⟨⟨h1.alloc _, h2.alloc _, h3.alloc _⟩, hB.alloc hB.size _, hno⟩ ⟨W.heap.size, h3.lt, Box2.new W _ _ _, by simp⟩
  case body =>
    rintro l pre x a' W hll ⟨r, hr⟩ ⟨⟨h1, h2, h3⟩, hB, hno⟩ ⟨Bx, hBx, hx, rfl⟩ hlt
    have c1 := h1.cell
    have c2 := h2.cell
    have c3 := h3.cell
    have f3 := h3.frozen
    have x0 := hx.cell0
    have x1 := hx.cell1
    have hmiss : ¬ ((x.1.t : Int) = th ∧ (x.1.k : Int) = at') → ∀ y ∈ pre ++ [x], ¬ (((y : Sq).1.t : Int) = th ∧ (y.1.k : Int) = at') := fun h y hy => by
      rcases List.mem_append.1 hy with hy | hy
      · exact hno y hy
      · rw [List.mem_singleton.1 hy]; exact h
    by_cases e1 : (x.1.t : Int) = th
    · by_cases e2 : (x.1.k : Int) = at'
      · gi_wp2
        exact ⟨(KeepsOthers.setCell _ _ _).from _, rfl, ⟨x, by simp, ⟨e1, e2⟩, h3.set _⟩, hB.setCell (p := ⟨w.heap.size + 1 + 1 + 1, 0, none⟩) (by show _ ≤ w.heap.size + 1 + 1 + 1; omega) _⟩
      · gi_wp2
        exact ⟨KeepsFrom.refl _ _, ⟨Below.refl _ _, fun _ h _ => h⟩, ⟨h1, h2, h3⟩, hB, hmiss (fun h => e2 h.2)⟩
    · gi_wp2
      exact ⟨KeepsFrom.refl _ _, ⟨Below.refl _ _, fun _ h _ => h⟩, ⟨h1, h2, h3⟩, hB, hmiss (fun h => e1 h.1)⟩
  case done =>
    rintro D ys W hD hys ⟨⟨h1, h2, h3⟩, hB, hno⟩ hK
    have c3 := h3.cell
    have f3 := h3.frozen
    gi_wp2
    have hK' := (KeepsOthers.setCell W ⟨w.heap.size + 1 + 1 + 1, 0, none⟩ (.int .i64 (-1))).same D _ hK rfl
    refine ⟨by simp, .inl ⟨_, _, rfl, run_takeDeferred hK', ?_⟩⟩
    have hc5 := cell_kept (World.cell?_setCell_same' W ⟨w.heap.size + 1 + 1 + 1, 0, none⟩ (.int .i64 (-1)) (by rw [c3]; rfl)) (grownBy_putObj' _ D (.deferred none)) (fun r e => by cases e; exact ⟨_, hK', rfl⟩)
    refine ⟨.int .i64 (-1), ?_, ?_, ?_⟩
    · simp [results, Try.f19, go_sem, hc5]
    · rw [numI_no]
      intro u j hu hj he
      have hm : (⟨sl anyS ths u j, u, j⟩ : Sp) ∈ pls anyS ths := (mem_pls anyS ths _).2 ⟨u, j, hu, by rw [SlM.getD_at hu]; exact hj, isS_any ths hu hj, rfl⟩
      rw [← hys] at hm
      obtain ⟨y, hy, e⟩ := List.mem_map.1 hm
      exact hno y hy (by rw [e]; exact he)
    · exact (hB.setCell (p := ⟨w.heap.size + 1 + 1 + 1, 0, none⟩) (by show _ ≤ w.heap.size + 1 + 1 + 1; omega) _).trans (belowK_b (w := w) (Nat.le_refl _) _ D _ _ (by simp at hD; omega) hK' rfl rfl)
  case stop =>
    rintro D cc pre W hD hSp ⟨rfl, ⟨y, hy, ⟨rfl, rfl⟩, hb⟩, hB⟩ hK
    have hc := hb.cell
    obtain ⟨t, k, ht, hk, -, e⟩ := (mem_pls anyS ths y.1).1 (hSp.subset (List.mem_map_of_mem hy))
    rw [SlM.getD_at ht] at hk
    gi_wp2
    refine ⟨by simp, .inl ⟨_, _, rfl, run_takeDeferred hK, ?_⟩⟩
    have hc5 := cell_kept hc (grownBy_putObj' _ D (.deferred none)) (fun r e => by cases e; exact ⟨_, hK, rfl⟩)
    refine ⟨.int .i64 (y.1.n : Int), ?_, ?_, ?_⟩
    · simp [results, Try.f19, go_sem, hc5]
    · rw [e, numI_hit ht hk, sl_any ths ht (by omega)]
    · exact hB.trans (belowK_b (w := w) (Nat.le_refl _) _ D _ _ (by simp at hD; omega) hK rfl rfl)
end Go.Proofs.Ytaelfjphgdlbcaa
