/-
  THE ITERATOR OVER A PROGRAM's SLOTS: for every loop body that keeps what lay below n₀; and what it hands back to a loop.
  slots.keys; slots.chosen: the places of the steps whose slots are in a row.
  slots.chosen: of a program: the places of the steps whose slots are in a row.
  slots.with[fencepost/api.Line]: each thread's lines, with one more ahead of those that are told.
  slots.Fence.
  slots.laid: the places at which fences stand already.
-/
import Derived.RangeFuncNested
import Derived.RangeFuncBound
import Derived.RangeFuncCalls
import Derived.RangeFuncLeaves
import Derived.RangeFuncBox
import Derived.Shelf.Abstract
import Derived.WalkKit
import Derived.OwnWalkIn
import Derived.TacticsInMore
import Derived.LoopNIn
import Derived.LoopIn
import Derived.Maps.OwnIn
import Derived.Test.YtaelfjphgdlbcaaM07
import Derived.Test.YtaelfjphgdlbcaaM05
import Derived.Test.YtaelfjphgdlbcaaM06
import Derived.Deep.RegionHeld3
import Derived.Deep.DeepCutAuto
import Derived.Test.YtaelfjphgdlbcaaSlY
namespace Go.Proofs.Ytaelfjphgdlbcaa
open Go.RowKit Go.Shelf
set_option linter.unusedVariables false
set_option linter.unusedSimpArgs false
attribute [local go_sem] Oper.semAt_some
open CodM (hasS)
open OpsM (Ln)
open SlM

set_option maxHeartbeats 1000000 in
theorem hasstep_in (F : Fence) (n : Nat) (h : F.fn 40) (hro : F.round = none) (x : Ln) (w : World) :
    CallsIn F n Try.prog 40 #[.agg #[.int .i64 x.op, .string ⟨x.reg.toArray⟩, .string ⟨x.loc.toArray⟩, .string ⟨x.label.toArray⟩, .int .i64 x.n]] w fun e' w' => e' = .returned (.bool (hasS x)) ∧ w.grownBy w' none := by
  refine callsIn_of_wp Try.func40 rfl h ?_ hro
  simp only [Try.ntmps40, List.size_toArray, List.length_cons, List.length_nil, Nat.reduceAdd, Nat.reduceSub, Array.replicate_succ, Array.replicate_zero, List.push_toArray, List.append_toArray, List.nil_append, List.cons_append]
  gi_wp2
  go_ret
  exact ⟨by simp [hasS, bne], World.grownBy_alloc _ _ _⟩
def LI1Rel (ths : List (List Ln)) (J : List Sq → World → Prop) (n₀ gs : Nat) (W : World) (m i : Value) (wr : World) : Prop :=
  ∃ (j : Nat) (pre : List Sq), j ≤ ths.length ∧ i = .int .i64 j ∧ m = .int .i64 (ahd hasS ths j : Nat) ∧ pre.map Subtype.val = plA hasS ths j ∧ J pre wr ∧ Below n₀ W wr ∧ wr.cell? ⟨gs, 0, none⟩ = some (.func (.func 40) #[] #[])
def LI2Rel (ths : List (List Ln)) (t : Nat) (len : Nat) (J : List Sq → World → Prop) (n₀ gs : Nat) (W : World) (m i : Value) (wr : World) : Prop :=
  ∃ (k : Nat) (pre : List Sq), k ≤ len ∧ i = .int .i64 k ∧ m = .int .i64 (sl hasS ths t k : Nat) ∧ pre.map Subtype.val = plP hasS ths t k ∧ J pre wr ∧ Below n₀ W wr ∧ wr.cell? ⟨gs, 0, none⟩ = some (.func (.func 40) #[] #[])
set_option maxRecDepth 100000 in
set_option maxHeartbeats 4000000 in
theorem all1l_in (F : Fence) (n : Nat) (h59 : F.fn 73) (h35 : F.fn 40) (hro : F.round = none) (hn : 2 ≤ n) (l n₀ n₁ gt gs : Nat) (vt : Value) (ths : List (List Ln)) (J Jx : List Sq → World → Prop)
    (hJ : AbidesFrom n₁ J)
    (hY : ∀ pre x W, J pre W → pre.length < many hasS ths → YieldAt F (n - 1) Try.prog l (encs x) W fun e W' =>
      (e = .returned (.bool true) ∧ J (pre ++ [x]) W' ∧ KpS n₀ gs W W') ∨ (e = .returned (.bool false) ∧ Jx (pre ++ [x]) W'))
    (W : World) (hn₀ : n₀ ≤ W.heap.size) (ct : W.cell? ⟨gt, 0, none⟩ = some vt) (cs : W.cell? ⟨gs, 0, none⟩ = some (.func (.func 40) #[] #[])) (hth : Ths n₀ W vt ths)
    (hl : ths.length ≤ 1000000) (hll : ∀ ss ∈ ths, ss.length ≤ 1000000) (h0 : J [] W) :
    CallsIn F n Try.prog 73 #[.func (.yield l) #[] #[], .pointer (some ⟨gt, 0, none⟩), .pointer (some ⟨gs, 0, none⟩)] W fun e W' => (∃ v, e = .returned v) ∧
      ((∃ ys : List Sq, ys.map Subtype.val = pls hasS ths ∧ J ys W') ∨ (∃ pre : List Sq, pre.map Subtype.val <+: pls hasS ths ∧ Jx pre W')) := by
  have HLL := Lib.hid (fun (t : Nat) (ht : t < ths.length) => hll ths[t] (List.getElem_mem ht))
  have HJ := Lib.hid hJ
  have HY := Lib.hid hY
  have HMM := Lib.hid (many_le hasS (M := 1000000) ths (Nat.le_refl _) hll)
  have HTH := Lib.hid hth
  obtain ⟨A0, c0, rfl, hc1, hc2, hc3⟩ := hth
  unfold maxLen at hc2
  have h1 : 1 ≤ n := by omega
  have hgs0 : gs < W.heap.size := by obtain ⟨o, h, -⟩ := cells_of_cell cs; exact (Array.getElem?_eq_some_iff.1 h).1
  clear hll hJ hY
  refine callsIn_of_wp Try.func73 rfl h59 ?_ hro
  simp only [Try.ntmps73, List.size_toArray, List.length_cons, List.length_nil, Nat.reduceAdd, Nat.reduceSub, Array.replicate_succ, Array.replicate_zero, List.push_toArray, List.append_toArray, List.nil_append, List.cons_append]
  gi_wp2
  gi_loopw [4, 11] (fun m i wr => LI1Rel ths J n₀ gs W m i wr) (fun _ i _ => ths.length - (intOf i).toNat)
  case atStart => exact ⟨0, [], Nat.zero_le _, rfl, rfl, rfl, h0, Below.refl _ _, cs⟩
  case round =>
    obtain ⟨j, pre, hj, rfl, rfl, hp, hJs, hB, hG⟩ := hrel
    by_cases hlt : j < ths.length
    · obtain ⟨b1, f1, rfl, hb1, hcl⟩ := hc3 (by omega)
      obtain ⟨vs, hv, hsts⟩ := hcl j hlt
      have hv' := (hB.cell (p := ⟨b1, f1 + j, none⟩) hb1).trans hv
      obtain ⟨A1, c1, rfl, hd1, hd2, hd3⟩ := hsts
      have hlen := HLL.out j hlt
      unfold maxLen at hd2
      have HS0 := Lib.hid (sl_zero hasS ths j)
      have HP0 := Lib.hid (plP_zero hasS ths j)
      have HSN := Lib.hid (fun (k : Nat) (hk : k < ths[j].length) => sl_next hasS ths hlt hk)
      have HPN := Lib.hid (fun (k : Nat) (hk : k < ths[j].length) => show plP hasS ths j (k + 1) = plP hasS ths j k ++ (if hasS ths[j][k] then [⟨sl hasS ths j k, j, k⟩] else []) by rw [plP_next, isS_at hasS ths hlt hk])
      have HSL := Lib.hid (fun (k : Nat) (hk : k < ths[j].length) (hp : hasS ths[j][k] = true) => sl_lt hasS ths hlt hk hp)
      have HSM := Lib.hid (fun (k : Nat) (hk : k < ths[j].length) => sl_many hasS ths hlt (show k ≤ ths[j].length by omega))
      have HPL := Lib.hid (fun (k : Nat) (hk : k ≤ ths[j].length) => plP_len hasS ths hlt hk)
      have HPP := Lib.hid (fun (k : Nat) (hk : k ≤ ths[j].length) => plP_pre hasS ths hlt hk)
      have HSE := Lib.hid (sl_end hasS ths hlt)
      have HPE := Lib.hid (plP_end hasS ths hlt)
      generalize ths[j] = ss at *
      clear hcl hv hc3
      gi_wp2
      gi_loopw [4, 18] (fun m i wr => LI2Rel ths j ss.length J n₀ gs W m i wr) (fun _ i _ => ss.length - (intOf i).toNat)
      case atStart => exact ⟨0, pre, Nat.zero_le _, rfl, by rw [HS0.out], by rw [HP0.out]; exact hp, hJs, hB, hG⟩
      case round =>
        clear hp hJs hB hv' hG
        obtain ⟨k, pre, hk, rfl, rfl, hp, hJs, hB, hG⟩ := hrel
        by_cases hlt2 : k < ss.length
        · obtain ⟨b2, f2, rfl, hb2, hst⟩ := hd3 (by omega)
          obtain ⟨z0, z1, z2, z3, z4⟩ := (hst k hlt2).below hB hb2
          have hM := HMM.out
          have hsmy := HSM.out k hlt2
          have hsm : sl hasS ths j k < 1099511627776 ∧ j < 1099511627776 ∧ k < 1099511627776 := by
            have : ths.length * 1000000 ≤ 1000000 * 1000000 := Nat.mul_le_mul_right _ hl
            omega
          have hSn := Lib.hid (HSN.out k hlt2)
          have hPn := Lib.hid (HPN.out k hlt2)
          have hkl := Lib.hid (HSL.out k hlt2)
          have hpl := HPL.out k (by omega)
          have hst2 := HPP.out (k + 1) (by omega)
          generalize ss[k] = x at *
          generalize hs : sl hasS ths j k = q at *
          clear hst
          have hws := hB.size
          have hgs' : gs < wr.heap.size := by obtain ⟨o, h, -⟩ := cells_of_cell hG; exact (Array.getElem?_eq_some_iff.1 h).1
          have hb2' : b2 < wr.heap.size := by omega
          cases hx : hasS x
          · gi_wp2_with (gi_at_call 40; refine (hasstep_in F (n - 1) h35 hro x _).mono ?_; rw [hx]; rintro e w3 ⟨rfl, hg3⟩; have hg := (World.grownBy_alloc wr (.cells #[.int .i64 x.op, .string ⟨x.reg.toArray⟩, .string ⟨x.loc.toArray⟩, .string ⟨x.label.toArray⟩, .int .i64 x.n] 60) none).trans hg3; have hJ3 := HJ.out _ _ _ none hJs hg (fun r e => by cases e))
            go_roundw
            case rel =>
              refine ⟨k + 1, _, by omega, by go_num, ?_, ?_, hJ3, hB.grown hg (by omega) (fun r e => by cases e), hg.cell hG (fun e => by cases e)⟩
              · rw [hSn.out, hx]; simp
              · rw [hPn.out, hx, hp]; simp
            case measure => simp [intOf]; omega
          have hnl : pre.length < many hasS ths := by rw [sq_len hp, hpl]; exact hkl.out hx
          gi_wp2_with (gi_at_call 40; refine (hasstep_in F (n - 1) h35 hro x _).mono ?_; rw [hx]; rintro e w3 ⟨rfl, hg3⟩; have hg := (World.grownBy_alloc wr (.cells #[.int .i64 x.op, .string ⟨x.reg.toArray⟩, .string ⟨x.loc.toArray⟩, .string ⟨x.label.toArray⟩, .int .i64 x.n] 60) none).trans hg3; have hJ3 := HJ.out _ _ _ none hJs hg (fun r e => by cases e); obtain ⟨fn, tmps, assign, body, hy, hR⟩ := HY.out pre ⟨⟨q, j, k⟩, hsm⟩ w3 hJ3 hnl; dsimp only [encs] at hy)
          refine hR.mono ?_
          rintro e W4 (⟨rfl, hJ4, hk4⟩ | ⟨rfl, hJx4⟩)
          · have hB4 : Below n₀ W W4 := (hB.grown hg (by omega) (fun r e => by cases e)).trans hk4.1
            have hG4 := hk4.cell (hg.cell hG (fun e => by cases e))
            gi_wp2
            go_roundw
            case rel =>
              refine ⟨k + 1, _, by omega, by go_num, ?_, ?_, hJ4, hB4, hG4⟩
              · rw [hSn.out, hx]; simp
              · rw [hPn.out, hx]; exact sq_snoc hp hsm
            case measure => simp [intOf]; omega
          · gi_wp2
            refine bodyPost_ret (results_none rfl _ _ _) rfl ?_
            refine ⟨⟨_, rfl⟩, .inr ⟨_, ?_, hJx4⟩⟩
            rw [hPn.out, hx] at hst2
            rw [sq_snoc hp hsm]; exact hst2
        · obtain rfl : ss.length = k := by omega
          gi_wp2
          go_roundw
          case rel => exact ⟨j + 1, pre, by omega, by go_num, by rw [HSE.out], by rw [hp, HPE.out], hJs, hB, hG⟩
          case measure => simp [intOf]; omega
    · obtain rfl : ths.length = j := by omega
      gi_wp2
      go_end0
      exact ⟨⟨_, rfl⟩, .inl ⟨pre, hp, hJs⟩⟩
/-- What a loop over the slots is handed. -/
theorem alll_stops (F : Fence) (n : Nat) (h59 : F.fn 73) (h35 : F.fn 40) (hro : F.round = none) (hn : 2 ≤ n) (n₀ gt gs : Nat) (vt : Value) (ths : List (List Ln)) (w : World)
    (hn₀ : n₀ ≤ w.heap.size) (ct : w.cell? ⟨gt, 0, none⟩ = some vt) (cs : w.cell? ⟨gs, 0, none⟩ = some (.func (.func 40) #[] #[])) (hth : Ths n₀ w vt ths)
    (hl : ths.length ≤ 1000000) (hll : ∀ ss ∈ ths, ss.length ≤ 1000000) :
    SeqStopsK F n Try.prog 73 #[.pointer (some ⟨gt, 0, none⟩), .pointer (some ⟨gs, 0, none⟩)] encs (KpS n₀ gs) (fun ys : List Sq => ys.map Subtype.val = pls hasS ths) (fun pre => pre.map Subtype.val <+: pls hasS ths) (many hasS ths) w :=
  fun l J Jx W hW hJ _ hY h0 => all1l_in F n h59 h35 hro hn l n₀ W.heap.size gt gs vt ths J Jx hJ hY W (Nat.le_trans hn₀ hW.size) (kc hW ct) (kc hW cs) (hth.below (hW.mono hn₀)) hl hll h0
set_option maxHeartbeats 1000000 in
theorem alll_in (F : Fence) (n : Nat) (h : F.fn 64) (hro : F.round = none) (A : Option Addr) (m c : Nat) (w : World) :
    CallsIn F n Try.prog 64 #[.slice A m c, .func (.func 40) #[] #[]] w fun e w' => e = .returned (.func (.func 73) #[] #[.pointer (some ⟨w.heap.size, 0, none⟩), .pointer (some ⟨w.heap.size + 1, 0, none⟩)]) ∧
      w' = (w.alloc (.cells #[.slice A m c] 72)).alloc (.cells #[.func (.func 40) #[] #[]] 65) := by
  refine callsIn_of_wp Try.func64 rfl h ?_ hro
  simp only [Try.ntmps64, List.size_toArray, List.length_cons, List.length_nil, Nat.reduceAdd, Nat.reduceSub, Array.replicate_succ, Array.replicate_zero, List.push_toArray, List.append_toArray, List.nil_append, List.cons_append]
  gi_wp2
  go_ret
  exact ⟨rfl, rfl⟩
set_option maxRecDepth 100000 in
set_option maxHeartbeats 2000000 in
theorem countl_in (F : Fence) (n : Nat) (h44 : F.fn 63) (h34 : F.fn 64) (h59 : F.fn 73) (h35 : F.fn 40) (hro : F.round = none) (hn : 4 ≤ n) {B : Nat} {v : Value} {ths : List (List Ln)} (w : World)
    (hv : Ths B w v ths) (hBB : B ≤ w.heap.size) (hl : ths.length ≤ 1000000) (hll : ∀ ss ∈ ths, ss.length ≤ 1000000) :
    CallsIn F n Try.prog 63 #[v, .func (.func 40) #[] #[]] w fun e w' => e = .returned (.int .i64 (many hasS ths : Nat)) ∧ Below w.heap.size w w' := by
  have h1 : 1 ≤ n := by omega
  have HV := Lib.hid hv
  have HLL := Lib.hid hll
  obtain ⟨A, c, rfl, hc1, hc2, -⟩ := hv
  have hM : many hasS ths ≤ 1000000 * 1000000 := many_le hasS ths hl hll
  refine callsIn_of_wp_marks Try.func63 rfl h44 ?_ hro
  simp only [Try.ntmps63, List.size_toArray, List.length_cons, List.length_nil, Nat.reduceAdd, Nat.reduceSub, Array.replicate_succ, Array.replicate_zero, List.push_toArray, List.append_toArray, List.nil_append, List.cons_append]
  gi_wp2_with (gi_at_call 64; refine (alll_in F (n - 1) h34 hro _ _ _ _).mono ?_; rintro e w' ⟨rfl, rfl⟩)
  obtain ⟨bt, bs, hb2⟩ := alls_boxes (w.alloc (.cells #[.int .i64 0] 3)) (.slice A ths.length c) (.func (.func 40) #[] #[]) 72 65
  have bm := ((Boxed.new w 3 (.int .i64 0)).alloc (.cells #[.slice A ths.length c] 72)).alloc (.cells #[.func (.func 40) #[] #[]] 65)
  have hB := ((Below.refl _ w).alloc (Nat.le_refl _) (.cells #[.int .i64 0] 3)).trans (hb2.mono (by simp))
  rw [World.size_alloc] at bt bs
  refine wpIn_rangeFunc_ownG hro h1 (gf := 73) (lb := #[.pointer (some ⟨w.heap.size + 1, 0, none⟩), .pointer (some ⟨w.heap.size + 1 + 1, 0, none⟩)]) rfl h59 (enters_of Try.func73 (by kernel_rfl) rfl)
    (alll_stops F (n - 1) h59 h35 hro (by omega) w.heap.size _ _ _ ths _ (by simp; omega) bt bs ((HV.out.more hBB).below hB) hl HLL.out) KpS.t (KpS.b (by simp; omega)) (Below.refl _ _) (fun _ => rfl)
    (fun pre W => Boxed W w.heap.size 3 (.int .i64 (pre.length : Nat)) ∧ Below w.heap.size w W)
    (fun _ _ _ => False)
    (OwnFrom.and (Own.from (boxed_own _ _ (fun pre : List Sq => .int .i64 (pre.length : Nat))) _) (ownFrom_below (Nat.le_refl _) (by simp; omega)))
    (fun _ _ _ _ _ hs _ _ => hs)
    ⟨bm, hB⟩
    (fun x => { tmps := #[.slice A ths.length c, .func (.func 40) #[] #[], undef, undef, .int .i64 0, .pointer (some ⟨w.heap.size, 0, none⟩), .slice A ths.length c, .func (.func 40) #[] #[], .func (.func 73) #[] #[.pointer (some ⟨w.heap.size + 1, 0, none⟩), .pointer (some ⟨w.heap.size + 1 + 1, 0, none⟩)], .int .i64 (x.1.n : Int), .agg #[.int .i64 (x.1.t : Int), .int .i64 (x.1.k : Int)], undef, undef, undef], defers := [] }) ?assign ?body ?done ?stop
  case assign =>
    intro l x W K hK
    dsimp only [encs]
    gi_wp2
    simpa using hK
  case body =>
    rintro l pre x W ⟨hb, hB⟩ hlt
    have hc := hb.cell
    have hf := hb.frozen
    gi_wp2
    exact ⟨(KeepsOthers.setCell _ _ _).from _, KpS.grown hB.size (grownBy_setCell' W w.heap.size _) (fun r e => by cases e; exact ⟨Nat.le_refl _, by omega⟩), by have := hb.set (.int .i64 ((pre.length : Int) + 1)); simpa using this, hB.setCell (p := ⟨w.heap.size, 0, none⟩) (Nat.le_refl _) _⟩
  case done =>
    rintro D ys W hD hys ⟨hb, hB⟩ hK
    rw [sq_len hys, pls_len] at hb
    have hc := hb.cell
    gi_wp2
    refine ⟨by simp, .inl ⟨_, _, rfl, run_takeDeferred hK, ?_⟩⟩
    exact ⟨_, results_tmp rfl _ _ _, rfl, hB.trans (belowK_b (w := w) (Nat.le_refl _) W D _ _ (by simp at hD; omega) hK rfl rfl)⟩
  case stop =>
    rintro D cc pre W _ _ h _
    exact h.elim
end Go.Proofs.Ytaelfjphgdlbcaa
namespace Go.Proofs.Ytaelfjphgdlbcaa
open Go.RowKit Go.Shelf
set_option linter.unusedVariables false
set_option linter.unusedSimpArgs false
attribute [local go_sem] Oper.semAt_some
open CodM (St Pg)
open SlM

theorem keyB_snoc (g : List Int) (m : Nat) (k : Nat) (hk : k < g.length) : keyB (g.take (k + 1)) m = fun j => keyB (g.take k) m j || (decide (j = g[k]) && (decide (0 ≤ g[k]) && decide (g[k] < (m : Int)))) := by
  funext j
  unfold keyB
  rw [has_take g k hk]
  by_cases e : j = g[k]
  · subst e; simp [Bool.or_and_distrib_right]; try (intro a b; exact .inr ⟨a, b⟩)
  · have : (g[k] == j) = false := by simpa using fun c => e c.symm
    simp [this, e]
set_option maxRecDepth 100000 in
set_option maxHeartbeats 2000000 in
theorem keys_in (F : Fence) (n : Nat) (h62 : F.fn 62) (hro : F.round = none) {B : Nat} {v : Value} {g : List Int} (m : Nat) (w : World) (hv : Ints B w v g) (hBB : B ≤ w.heap.size) (hm : m ≤ 1000000000000) (hl : g.length ≤ 1000000) :
    CallsIn F n Try.prog 62 #[v, .int .i64 (m : Int)] w fun e w' => e = .returned (.map (some w.heap.size)) ∧ MapI w' w.heap.size g.length (keyB g m) ∧ Below w.heap.size w w' := by
  have hmm := @run_makeMap Try.prog
  have HKS := Lib.hid (fun k hk => keyB_snoc g m k hk)
  obtain ⟨A, c, rfl, hc1, hc2, hc3⟩ := hv
  unfold maxLen at hc2
  refine callsIn_of_wp Try.func62 rfl h62 ?_ hro
  simp only [Try.ntmps62, List.size_toArray, List.length_cons, List.length_nil, Nat.reduceAdd, Nat.reduceSub, Array.replicate_succ, Array.replicate_zero, List.push_toArray, List.append_toArray, List.nil_append, List.cons_append]
  gi_wp2
  gi_loopw [11] (fun i wr => ∃ k : Nat, k ≤ g.length ∧ i = .int .i64 k ∧ MapI wr w.heap.size k (keyB (g.take k) m) ∧ Below w.heap.size w wr) (fun i _ => g.length - (intOf i).toNat)
  case atStart =>
    refine ⟨0, Nat.zero_le _, rfl, ?_, (Below.refl _ _).alloc (Nat.le_refl _) _⟩
    have : keyB (g.take 0) m = fun _ => false := by funext j; simp [keyB, has]
    rw [this]; exact MapI.made w
  case round =>
    obtain ⟨k, hk, rfl, hM, hB⟩ := hrel
    by_cases hlt : k < g.length
    · obtain ⟨b1, f1, rfl, hb1, hcl⟩ := hc3 (by omega)
      have hcc : wr.cell? ⟨b1, f1 + k, none⟩ = some (.int .i64 g[k]) := (hB.cell (p := ⟨b1, f1 + k, none⟩) (show b1 < _ by omega)).trans (hcl k hlt)
      have hks := Lib.hid (HKS.out k hlt)
      generalize g[k] = x at *
      by_cases h0 : 0 ≤ x
      · by_cases h1 : x < (m : Int)
        · have hwx : (Lit.int .i64 x).wf = true := WalkArith.wf_i64 (by omega)
          gi_wp2_with (gi_at_mapUpdate; refine in_putI _ rfl _ _ _ rfl w.heap.size k _ rfl hM (by unfold maxLen; omega) x rfl rfl hwx ?_; intro w1 hM1 hg1)
          go_roundw
          case rel =>
            refine ⟨k + 1, by omega, by go_num, ?_, hB.grown hg1 hB.size (fun r e => by cases e; exact Nat.le_refl _)⟩
            rw [hks.out]; simpa [h0, h1] using hM1
          case measure => simp [intOf]; omega
        · gi_wp2
          go_roundw
          case rel =>
            refine ⟨k + 1, by omega, by go_num, ?_, hB⟩
            rw [hks.out]; simpa [h0, h1] using hM.mono (Nat.le_succ k)
          case measure => simp [intOf]; omega
      · gi_wp2
        go_roundw
        case rel =>
          refine ⟨k + 1, by omega, by go_num, ?_, hB⟩
          rw [hks.out]; simpa [h0] using hM.mono (Nat.le_succ k)
        case measure => simp [intOf]; omega
    · obtain rfl : g.length = k := by omega
      rw [List.take_length] at hM
      gi_wp2
      go_ret
      exact ⟨rfl, hM, hB⟩
/-- Which places are chosen by these slots. -/
def chI (g : List Int) (M : Nat) (pre : List Sq) (i j : Int) : Bool := pre.any fun x => (decide (i = (x.1.t : Int)) && decide (j = (x.1.k : Int))) && keyB g M (x.1.n : Int)
theorem chI_snoc (g : List Int) (M : Nat) (pre : List Sq) (x : Sq) : chI g M (pre ++ [x]) = fun i j => chI g M pre i j || ((decide (i = (x.1.t : Int)) && decide (j = (x.1.k : Int))) && keyB g M (x.1.n : Int)) := by
  funext i j; unfold chI; rw [List.any_append]; simp
theorem chI_yes {g : List Int} {M : Nat} {pre : List Sq} {x : Sq} (h : keyB g M (x.1.n : Int) = true) : (fun i j => chI g M pre i j || (decide (i = (x.1.t : Int)) && decide (j = (x.1.k : Int)))) = chI g M (pre ++ [x]) := by
  rw [chI_snoc, h]; simp
theorem chI_no {g : List Int} {M : Nat} {pre : List Sq} {x : Sq} (h : keyB g M (x.1.n : Int) = false) : chI g M pre = chI g M (pre ++ [x]) := by
  rw [chI_snoc, h]; simp
theorem chI_nil (g : List Int) (M : Nat) : chI g M [] = fun _ _ => false := rfl
theorem chI_end {A : Type} (p : A → Bool) (ths : List (List A)) (g : List Int) {ys : List Sq} (hys : ys.map Subtype.val = pls p ths) {t k : Nat} (ht : t < ths.length) (hk : k < ths[t].length) : chI g (many p ths) ys (t : Int) (k : Int) = ch p ths g t k := by
  rw [← chP_end p g ths ht hk, ← hys, Bool.eq_iff_iff]
  unfold chI chP
  rw [List.any_eq_true, List.any_eq_true]
  constructor
  · rintro ⟨x, hx, h⟩
    refine ⟨x.1, List.mem_map_of_mem hx, ?_⟩
    simp only [Bool.and_eq_true, decide_eq_true_eq] at h ⊢
    obtain ⟨⟨e1, e2⟩, h3⟩ := h
    refine ⟨⟨by omega, by omega⟩, ?_⟩
    unfold keyB at h3
    rw [Bool.and_eq_true] at h3; exact h3.1
  · rintro ⟨y, hy, h⟩
    obtain ⟨x, hx, rfl⟩ := List.mem_map.1 hy
    refine ⟨x, hx, ?_⟩
    simp only [Bool.and_eq_true, decide_eq_true_eq] at h ⊢
    obtain ⟨⟨e1, e2⟩, h3⟩ := h
    refine ⟨⟨by omega, by omega⟩, ?_⟩
    rw [hys] at hy
    obtain ⟨u, j, hu, hj, hs, e⟩ := (mem_pls p ths x.1).1 hy
    rw [SlM.getD_at hu] at hj
    have hlt := sl_lt p ths hu hj (by rw [← isS_at p ths hu hj]; exact hs)
    unfold keyB
    rw [h3, e]
    simp; omega
end Go.Proofs.Ytaelfjphgdlbcaa
namespace Go.Proofs.Ytaelfjphgdlbcaa
open Go.RowKit Go.Shelf
set_option linter.unusedVariables false
set_option linter.unusedSimpArgs false
attribute [local go_sem] Oper.semAt_some
open CodM (hasS)
open OpsM (Ln)
open SlM

set_option maxRecDepth 100000 in
set_option maxHeartbeats 2000000 in
theorem chosenl_in (F : Fence) (n : Nat) (h46 : F.fn 53) (h44 : F.fn 63) (h62 : F.fn 62) (h34 : F.fn 64) (h59 : F.fn 73) (h35 : F.fn 40) (hro : F.round = none) (hn : 6 ≤ n) {B : Nat} {v vg : Value} {ths : List (List Ln)} {g : List Int} (w : World)
    (hv : Ths B w v ths) (hg : Ints B w vg g) (hBB : B ≤ w.heap.size) (hl : ths.length ≤ 1000000) (hll : ∀ ss ∈ ths, ss.length ≤ 1000000) (hgl : g.length ≤ 1000000) :
    CallsIn F n Try.prog 53 #[v, .func (.func 40) #[] #[], vg] w fun e w' => ∃ b f, e = .returned (.map (some b)) ∧ b < w'.heap.size ∧ w.heap.size ≤ b ∧ MapP w' b (many hasS ths) f ∧ (∀ t k (ht : t < ths.length), k < ths[t].length → f (t : Nat) (k : Nat) = ch hasS ths g t k) ∧ Below w.heap.size w w' := by
  have h1 : 1 ≤ n := by omega
  have hmm := @run_makeMap Try.prog
  have HV := Lib.hid hv
  have HLL := Lib.hid hll
  have HG := Lib.hid hg
  have hM : many hasS ths ≤ 1000000000000 := many_le hasS (M := 1000000) (N := 1000000) ths hl hll
  obtain ⟨A, c, rfl, hc1, hc2, -⟩ := hv
  obtain ⟨A', c', rfl, hc1', hc2', -⟩ := hg
  refine callsIn_of_wp_marks Try.func53 rfl h46 ?_ hro
  simp only [Try.ntmps53, List.size_toArray, List.length_cons, List.length_nil, Nat.reduceAdd, Nat.reduceSub, Array.replicate_succ, Array.replicate_zero, List.push_toArray, List.append_toArray, List.nil_append, List.cons_append]
  gi_wp2_with (first
    | (gi_at_call 63; refine (countl_in F (n - 1) h44 h34 h59 h35 hro (by omega) _ HV.out hBB hl HLL.out).mono ?_; rintro e w1 ⟨rfl, hB1⟩; have hz1 := hB1.size)
    | (gi_at_call 62; refine (keys_in F (n - 1) h62 hro (many hasS ths) _ (HG.out.below (hB1.mono hBB)) (Nat.le_trans hBB hB1.size) hM hgl).mono ?_; rintro e w2 ⟨rfl, hK2, hB2⟩; have hz2 := hB2.size)
    | (gi_at_call 64; refine (alll_in F (n - 1) h34 hro _ _ _ _).mono ?_; rintro e w' ⟨rfl, rfl⟩))
  obtain ⟨M, hMe⟩ : ∃ M, M = many hasS ths := ⟨_, rfl⟩
  obtain ⟨W0, hW0⟩ : ∃ W0, W0 = ((w2.alloc (.map #[] 0)).alloc (.cells #[.map (some w1.heap.size)] 101)).alloc (.cells #[.map (some w2.heap.size)] 76) := ⟨_, rfl⟩
  have hs0 : W0.heap.size = w2.heap.size + 1 + 1 + 1 := by rw [hW0]; simp
  have b7 : Boxed W0 (w2.heap.size + 1) 101 (.map (some w1.heap.size)) := by
    have := (Boxed.new (w2.alloc (.map #[] 0)) 101 (.map (some w1.heap.size))).alloc (.cells #[.map (some w2.heap.size)] 76)
    rw [World.size_alloc] at this; rw [hW0]; exact this
  have b8 : Boxed W0 (w2.heap.size + 1 + 1) 76 (.map (some w2.heap.size)) := by
    have := Boxed.new ((w2.alloc (.map #[] 0)).alloc (.cells #[.map (some w1.heap.size)] 101)) 76 (.map (some w2.heap.size))
    rw [World.size_alloc, World.size_alloc] at this; rw [hW0]; exact this
  have hbk := hK2.lt
  have hI0 : MapI W0 w1.heap.size g.length (keyB g M) := by
    rw [hW0, hMe]
    exact ((hK2.kept (World.grownBy_alloc _ _ none) (by simp)).kept (World.grownBy_alloc _ _ none) (by simp)).kept (World.grownBy_alloc _ _ none) (by simp)
  have hP0 : MapP W0 w2.heap.size 0 (chI g M []) := by
    rw [hW0, chI_nil]
    exact ((MapP.made w2).kept (World.grownBy_alloc _ _ none) (by simp)).kept (World.grownBy_alloc _ _ none) (by simp)
  have hB0 : Below w.heap.size w W0 := by
    rw [hW0]
    exact ((((hB1.trans (hB2.mono hz1)).alloc (by omega) _).alloc (by simp; omega) _).alloc (by simp; omega) _)
  rw [← hW0]
  obtain ⟨bt, bs, hb2⟩ := alls_boxes W0 (.slice A ths.length c) (.func (.func 40) #[] #[]) 72 65
  have b7' := (b7.alloc (.cells #[.slice A ths.length c] 72)).alloc (.cells #[.func (.func 40) #[] #[]] 65)
  have b8' := (b8.alloc (.cells #[.slice A ths.length c] 72)).alloc (.cells #[.func (.func 40) #[] #[]] 65)
  have hI0' := (hI0.kept (World.grownBy_alloc _ (.cells #[.slice A ths.length c] 72) none) (by simp)).kept (World.grownBy_alloc _ (.cells #[.func (.func 40) #[] #[]] 65) none) (by simp)
  have hP0' := (hP0.kept (World.grownBy_alloc _ (.cells #[.slice A ths.length c] 72) none) (by simp)).kept (World.grownBy_alloc _ (.cells #[.func (.func 40) #[] #[]] 65) none) (by simp)
  have hB := hB0.trans (hb2.mono hB0.size)
  clear b7 b8 hW0 hI0 hP0
  rw [← hs0]
  refine wpIn_rangeFunc_ownH hro h1 (gf := 73) (lb := #[.pointer (some ⟨W0.heap.size, 0, none⟩), .pointer (some ⟨W0.heap.size + 1, 0, none⟩)]) rfl h59 (enters_of Try.func73 (by kernel_rfl) rfl)
    (alll_stops F (n - 1) h59 h35 hro (by omega) w.heap.size _ _ _ ths _ (by simp; omega) bt bs ((HV.out.more hBB).below hB) hl HLL.out) KpS.t (KpS.b (by simp; omega)) (Below.refl _ _) (fun _ => rfl)
    (fun pre W => (Boxed W (w2.heap.size + 1) 101 (.map (some w1.heap.size)) ∧ Boxed W (w2.heap.size + 1 + 1) 76 (.map (some w2.heap.size))) ∧ (MapI W w1.heap.size g.length (keyB g M) ∧ MapP W w2.heap.size pre.length (chI g M pre)) ∧ Below w.heap.size w W)
    (fun _ _ _ => False)
    (OwnFrom.and (OwnFrom.and (Own.from (boxed_own _ _ (fun _ : List Sq => .map (some w1.heap.size))) _) (Own.from (boxed_own _ _ (fun _ : List Sq => .map (some w2.heap.size))) _)) (OwnFrom.and (fun s A B row hs hg hr => ⟨hs.1.kept hg (fun e => by have := (hr _ e.symm).1; simp at this; omega), hs.2.kept hg (fun e => by have := (hr _ e.symm).1; simp at this; omega)⟩) (ownFrom_below (Nat.le_refl _) (by simp; omega))))
    (fun _ _ _ _ _ hs _ _ => hs)
    ⟨⟨b7', b8'⟩, ⟨hI0', hP0'⟩, hB⟩
    (fun x a' W => ∃ Bx, w2.heap.size + 1 + 1 < Bx ∧ Box2 W Bx 71 (.int .i64 (x.1.t : Int)) (.int .i64 (x.1.k : Int)) ∧ a' = { tmps := #[.slice A ths.length c, .func (.func 40) #[] #[], .slice A' g.length c', undef, undef, undef, .map none, .pointer (some ⟨w2.heap.size + 1, 0, none⟩), .pointer (some ⟨w2.heap.size + 1 + 1, 0, none⟩), .int .i64 (x.1.n : Int), .pointer (some ⟨Bx, 0, none⟩), .slice A' g.length c', .slice A ths.length c, .func (.func 40) #[] #[], .int .i64 (many hasS ths : Nat), .map (some w1.heap.size), .map (some w2.heap.size), .slice A ths.length c, .func (.func 40) #[] #[], .func (.func 73) #[] #[.pointer (some ⟨W0.heap.size, 0, none⟩), .pointer (some ⟨W0.heap.size + 1, 0, none⟩)], .int .i64 (x.1.n : Int), .agg #[.int .i64 (x.1.t : Int), .int .i64 (x.1.k : Int)], undef, undef, undef, undef, undef, undef], defers := [] })
    (fun x a' s A B row hs hg hr => by obtain ⟨Bx, h1, h2, h3⟩ := hs; exact ⟨Bx, h1, (box2_own (β := Unit) Bx _ _ _) () A B row h2 hg (fun r e => (hr r e).2), h3⟩)
    ?assign ?body ?done ?stop
  case assign =>
    rintro l pre x W K ⟨⟨h1, h2⟩, ⟨h3, h4⟩, hB⟩ hK
    dsimp only [encs]
    gi_wp2
    exact hK _ _ ((KeepsOthers.alloc _ _).from _) (KpS.grown hB.size (World.grownBy_alloc _ _ none) (fun r e => by cases e)) ⟨⟨h1.alloc _, h2.alloc _⟩, ⟨h3.kept (World.grownBy_alloc _ _ none) (by simp), h4.kept (World.grownBy_alloc _ _ none) (by simp)⟩, hB.alloc hB.size _⟩ ⟨W.heap.size, h2.lt, Box2.new W _ _ _, by simp⟩
  case body =>
    rintro l pre x a' W hll ⟨r, hr⟩ ⟨⟨h1, h2⟩, ⟨h3, h4⟩, hB⟩ ⟨Bx, hBx, hx, rfl⟩ hlt
    have c1 := h1.cell
    have c2 := h2.cell
    have x0 := hx.cell0
    have x1 := hx.cell1
    have wn := wf_small x.2.1
    have wt := wf_small x.2.2.1
    have wk := wf_small x.2.2.2
    have hlt' : pre.length < maxLen := by unfold maxLen; omega
    cases hkb : keyB g M (x.1.n : Int)
    · have hno := chI_no (pre := pre) hkb
      gi_wp2_with (gi_at_lookup; refine in_mapI _ rfl _ _ rfl w1.heap.size g.length _ rfl h3 (x.1.n : Int) rfl wn ?_; rw [hkb])
      exact ⟨KeepsFrom.refl _ _, ⟨Below.refl _ _, fun _ h _ => h⟩, ⟨h1, h2⟩, ⟨h3, by rw [← hno]; exact h4.mono (by simp)⟩, hB⟩
    · have hyes := chI_yes (pre := pre) hkb
      gi_wp2_with (first
        | (gi_at_lookup; refine in_mapI _ rfl _ _ rfl w1.heap.size g.length _ rfl h3 (x.1.n : Int) rfl wn ?_; rw [hkb])
        | (gi_at_mapUpdate; refine in_putP _ rfl _ _ _ rfl w2.heap.size pre.length _ rfl h4 hlt' (x.1.t : Int) (x.1.k : Int) rfl rfl wt wk ?_; intro w3 hP3 hg3))
      exact ⟨KeepsFrom.of_grownBy hg3 (fun j e => by cases e; simp; omega), KpS.grown hB.size hg3 (fun r e => by cases e; exact ⟨by omega, by omega⟩), ⟨h1.kept hg3 (fun e => by injection e with e; omega), h2.kept hg3 (fun e => by injection e with e; omega)⟩, ⟨h3.kept hg3 (fun e => by injection e with e; omega), by rw [← hyes, List.length_append]; exact hP3⟩, hB.grown hg3 hB.size (fun r e => by cases e; omega)⟩
  case done =>
    rintro D ys W hD hys ⟨⟨h1, h2⟩, ⟨h3, h4⟩, hB⟩ hK
    have c2 := h2.cell
    have hbp := h4.lt
    have hDs : W0.heap.size ≤ D := by simp at hD; omega
    gi_wp2
    refine ⟨by simp, .inl ⟨_, _, rfl, run_takeDeferred hK, ?_⟩⟩
    refine ⟨_, results_tmp rfl _ _ _, w2.heap.size, chI g M ys, rfl, ?_, by omega, ?_, ?_, ?_⟩
    · exact Nat.lt_of_lt_of_le hbp (grownBy_putObj' W D (.deferred none)).size
    · have := h4.kept (grownBy_putObj' W D (.deferred none)) (fun e => by injection e with e; omega)
      rw [sq_len hys, pls_len] at this; exact this
    · intro t k ht hk
      rw [hMe]; exact chI_end hasS ths g hys ht hk
    · exact hB.trans (belowK_b (w := w) (Nat.le_refl _) W D _ _ (by omega) hK rfl rfl)
  case stop =>
    rintro D cc pre W _ _ h _
    exact h.elim
end Go.Proofs.Ytaelfjphgdlbcaa
namespace Go.Proofs.Ytaelfjphgdlbcaa
open Go.RowKit
set_option linter.unusedVariables false
set_option linter.unusedSimpArgs false
open CodM (St Pg)
open SlM
def WLRel (w1 : World) (gm : Nat) (f : Int → Int → Bool) (x : OpsM.Ln) (ths : List (List OpsM.Ln)) (i : Value) (wr : World) : Prop :=
  ∃ (j : Nat) (vs : List Value) (gy : Nat) (yv : List Value), j ≤ ths.length ∧ i = .int .i64 j ∧ WS w1 60 56 lnsCs gm ths.length gy yv vs vs (rowsAt (fun (t : Nat) => wthN (fun q => f (t : Int) (q : Int)) x (ths.getD t []) (ths.getD t []).length) [] ths.length j) wr
def VLRel (w1 : World) (gm : Nat) (f : Int → Int → Bool) (x : OpsM.Ln) (ths : List (List OpsM.Ln)) (ss : List OpsM.Ln) (j : Nat) (i : Value) (wr : World) : Prop :=
  ∃ (k : Nat) (vs : List Value) (gy : Nat) (yv : List Value), k ≤ ss.length ∧ i = .int .i64 k ∧ WS w1 60 56 lnsCs gm ths.length gy yv vs vs (rowsAt (fun (t : Nat) => wthN (fun q => f (t : Int) (q : Int)) x (ths.getD t []) (ths.getD t []).length) (wthN (fun q => f (j : Int) (q : Int)) x ss k) ths.length j) wr
set_option maxHeartbeats 8000000 in
set_option maxRecDepth 100000 in
theorem withl_any {B bp N : Nat} {v : Value} {ths : List (List OpsM.Ln)} {f : Int → Int → Bool} (x : OpsM.Ln) (w : World) (hv : Ths B w v ths) (hBB : B ≤ w.heap.size) (hm : MapP w bp N f) (hbp : bp < w.heap.size) (hl : ths.length ≤ 1000000) (hll : ∀ ss ∈ ths, ss.length ≤ 1000000) :
    Calls Try.prog 52 #[v, .map (some bp), .agg #[.int .i64 x.op, .string ⟨x.reg.toArray⟩, .string ⟨x.loc.toArray⟩, .string ⟨x.label.toArray⟩, .int .i64 x.n]] w fun e w' => ∃ b vs, e = .returned (.slice (some ⟨b, 0, none⟩) ths.length ths.length) ∧ w'.ownsRow w.heap.size 56 1 (.slice (some ⟨b, 0, none⟩) ths.length ths.length) ths.length vs ∧
      RowsA w' w.heap.size 60 lnsCs vs ((List.range ths.length).map (fun (t : Nat) => wthN (fun q => f (t : Int) (q : Int)) x (ths.getD t []) (ths.getD t []).length)) ∧ Below w.heap.size w w' := by
  have HLL := Lib.hid (fun (t : Nat) (ht : t < ths.length) => hll ths[t] (List.getElem_mem ht))
  obtain ⟨w1, hw1⟩ : ∃ W, W = w.alloc (.cells #[.int .i64 x.op, .string ⟨x.reg.toArray⟩, .string ⟨x.loc.toArray⟩, .string ⟨x.label.toArray⟩, .int .i64 x.n] 60) := ⟨_, rfl⟩
  have hb1 : Below w.heap.size w w1 := by rw [hw1]; exact below_al (Below.refl _ w) _
  have HV := Lib.hid (hv.below (hb1.mono hBB))
  have HM1 := Lib.hid (hm.below hb1 hbp)
  have hbp1 : bp < w1.heap.size := Nat.lt_of_lt_of_le hbp hb1.size
  have hB1 : B ≤ w1.heap.size := Nat.le_trans hBB hb1.size
  have HX1 := Lib.hid (show LnAt w1 w.heap.size 0 x from by
    rw [hw1]
    refine ⟨?_, ?_, ?_, ?_, ?_⟩ <;> (rw [World.cell?_alloc_at _ _ _ _ rfl]; rfl))
  obtain ⟨A0, c0, rfl, hc1, hc2, -⟩ := hv
  obtain ⟨A', c', e', -, -, hc3⟩ := HV.out
  simp only [Value.slice.injEq, true_and] at e'
  obtain ⟨rfl, rfl⟩ := e'
  unfold maxLen at hc2
  obtain ⟨ii, hii, hiz, his, hib⟩ := info_parts info_lrow
  obtain ⟨i0, hi0, hz0, hz1, hz2⟩ := info_parts info_lne
  obtain ⟨w2, hmk, hown2, hgr2⟩ := run_makeSlice_full (P := Try.prog) (w := w1) w1.heap.size 72 56 ii (.slice none 0 0) 1 Try.underlying72 hii hiz his .i64 .i64 ths.length (by omega) (by rw [hib]; omega) (by unfold maxLen; omega) (Nat.le_refl _)
  rw [made_rows] at hown2
  have hB2 : Below w1.heap.size w1 w2 := ⟨hgr2.os, hgr2.tape, hgr2.output, hgr2.size, fun k hk => hgr2.block k hk (by simp)⟩
  obtain ⟨gm, hgm⟩ : ∃ g, g = w1.heap.size := ⟨_, rfl⟩
  rw [← hgm] at hmk
  have HST := Lib.hid (show WS w1 60 56 lnsCs gm ths.length bp [] (List.replicate ths.length (.slice none 0 0)) (List.replicate ths.length (.slice none 0 0)) (rowsAt (fun (t : Nat) => wthN (fun q => f (t : Int) (q : Int)) x (ths.getD t []) (ths.getD t []).length) [] ths.length 0) w2 from by
    rw [rowsAt_zero, hgm]
    exact ⟨hown2, RowsA.made _ _ _ _ rfl _, fun i v h => (by cases h), ⟨(by omega), fun j u h => by
      rw [List.getElem?_replicate] at h
      split at h
      · injection h with h; subst h; simp [Value.ownBlock]
      · cases h⟩, Nat.lt_of_lt_of_le hbp1 hB2.size, hB2⟩)
  have HBS := Lib.hid hb1
  rw [hw1] at hmk
  have HW1 := Lib.hid hw1
  clear hw1 hb1 hown2 hgr2 hB2 hgm
  go_enter Try.func52, Try.ntmps52
  go_wp2
  go_loopw [17] (fun i wr => WLRel w1 gm f x ths i wr) (fun i _ => ths.length - (intOf i).toNat)
  case atStart => exact ⟨0, _, bp, [], Nat.zero_le _, rfl, HST.out⟩
  case round =>
    obtain ⟨j, vs, gy0, yv, hj, rfl, hW⟩ := hrel
    by_cases hlt : j < ths.length
    · obtain ⟨b1, f1, rfl, hb1, hcl⟩ := hc3 (by omega)
      obtain ⟨vv, hvs, hsts⟩ := hcl j hlt
      have hvs' := (hW.below.cell (p := ⟨b1, f1 + j, none⟩) (show b1 < _ by omega)).trans hvs
      obtain ⟨A1, c1, rfl, hd1, hd2, hd3⟩ := hsts
      have hlen := HLL.out j hlt
      unfold maxLen at hd2
      have HFU := Lib.hid (show rowsAt (fun (t : Nat) => wthN (fun q => f (t : Int) (q : Int)) x (ths.getD t []) (ths.getD t []).length) (wthN (fun q => f (j : Int) (q : Int)) x ths[j] ths[j].length) ths.length j = rowsAt (fun (t : Nat) => wthN (fun q => f (t : Int) (q : Int)) x (ths.getD t []) (ths.getD t []).length) [] ths.length (j + 1) by rw [← rowsAt_next]; simp only [SlM.getD_at hlt])
      generalize ths[j] = ss at *
      clear hcl hvs
      go_wp2
      go_loopw [24] (fun i wr => VLRel w1 gm f x ths ss j i wr) (fun i _ => ss.length - (intOf i).toNat)
      case atStart => exact ⟨0, vs, gy0, yv, Nat.zero_le _, rfl, hW⟩
      case round =>
        clear hW hvs'
        obtain ⟨k, vs, gy0, yv, hk, rfl, hW⟩ := hrel
        by_cases hlt2 : k < ss.length
        · obtain ⟨b2, f2, rfl, hb2, hst⟩ := hd3 (by omega)
          obtain ⟨z0, z1, z2, z3, z4⟩ := (hst k hlt2).below hW.below (by omega)
          have HPN := Lib.hid ((show wthN (fun q => f (j : Int) (q : Int)) x ss (k + 1) = wthN (fun q => f (j : Int) (q : Int)) x ss k ++ ((if f (j : Int) (k : Int) then [x] else []) ++ [ss[k]]) from wthN_next _ x ss k hlt2))
          generalize ss[k] = y at *
          clear hst
          have hws := hW.below.size
          have hb2' : b2 < wr.heap.size := by omega
          have wj : (Lit.int .i64 (j : Int)).wf = true := WalkArith.wf_i64 (by omega)
          have wk : (Lit.int .i64 (k : Int)).wf = true := WalkArith.wf_i64 (by omega)
          have HMw := Lib.hid ((HM1.out.below hW.below (by omega)).kept (World.grownBy_alloc wr (.cells #[.int .i64 y.op, .string ⟨y.reg.toArray⟩, .string ⟨y.loc.toArray⟩, .string ⟨y.label.toArray⟩, .int .i64 y.n] 60) none) (by simp))
          have HW0 := Lib.hid (hW.box [.int .i64 y.op, .string ⟨y.reg.toArray⟩, .string ⟨y.loc.toArray⟩, .string ⟨y.label.toArray⟩, .int .i64 y.n] 60)
          obtain ⟨fk, hfk⟩ : ∃ b, f (j : Int) (k : Int) = b := ⟨_, rfl⟩
          go_upto_if 33 with (at_lookup; refine at_mapP _ rfl _ _ rfl bp N _ rfl HMw.out (j : Int) (k : Int) rfl wj wk ?_; rw [hfk]; try go_frame)
          have hlk : (wthN (fun q => f (j : Int) (q : Int)) x ss k).length ≤ 2000000 := by have := wthN_len (fun q => f (j : Int) (q : Int)) x ss k; omega
          generalize wthN (fun q => f (j : Int) (q : Int)) x ss k = pt at *
          obtain ⟨gy, hgy⟩ : ∃ g, g = wr.heap.size := ⟨_, rfl⟩
          obtain ⟨WW, hWW⟩ : ∃ W, W = wr.alloc (.cells #[.int .i64 y.op, .string ⟨y.reg.toArray⟩, .string ⟨y.loc.toArray⟩, .string ⟨y.label.toArray⟩, .int .i64 y.n] 60) := ⟨_, rfl⟩
          have HW0 := Lib.hid (show WS w1 60 56 lnsCs gm ths.length gy (lnCs y) vs vs (rowsAt (fun (t : Nat) => wthN (fun q => f (t : Int) (q : Int)) x (ths.getD t []) (ths.getD t []).length) pt ths.length j) WW from by rw [hgy, hWW]; exact HW0.out)
          rw [← hWW, ← hgy]
          rw [hfk] at HPN
          clear hWW hgy HMw hW z0 z1 z2 z3 z4 hws hb2' wj wk hfk
          go_cut [] (fun wx => ∃ vs', WS w1 60 56 lnsCs gm ths.length gy (lnCs y) vs' vs' (rowsAt (fun (t : Nat) => wthN (fun q => f (t : Int) (q : Int)) x (ths.getD t []) (ths.getD t []).length) (pt ++ (if fk then [x] else [])) ths.length j) wx)
          case first =>
            cases fk
            · go_wp2_with fail
              go_meet
              exact ⟨vs, by simpa using HW0.out⟩
            · go_upto_region 9 with fail
              obtain ⟨Au, cu, huM, hOW⟩ := HW0.out.row hlt
              generalize hN : pt.length = N at huM hOW
              have HNL := Lib.hid (show (pt ++ [x]).length = N + 1 by simp [hN])
              have HCS := Lib.hid (show lnsCs (pt ++ [x]) = lnsCs pt ++ lnCs x by rw [lnsCs_app]; rfl)
              have hNb : N ≤ 3000000 := by omega
              have HRS := Lib.hid (fun q => rowsAt_set (fun (t : Nat) => wthN (fun q => f (t : Int) (q : Int)) x (ths.getD t []) (ths.getD t []).length) pt q hlt)
              have HOW := Lib.hid hOW
              have HON := Lib.hid (show ∀ u ∈ lnCs x, u.oneCell' = true from fun u hu => lnsCs_one [x] u (by simpa [lnsCs] using hu))
              have HP := Lib.hid (fun (vm vr : List Value) (xss : List (List OpsM.Ln)) (W : World) (h : WS w1 60 56 lnsCs gm ths.length gy (lnCs y) vm vr xss W) => (show ((W.cell? ⟨w.heap.size, 0, none⟩ = some (.int .i64 x.op) ∧ W.cell? ⟨w.heap.size, 1, none⟩ = some (.string ⟨x.reg.toArray⟩) ∧ W.cell? ⟨w.heap.size, 2, none⟩ = some (.string ⟨x.loc.toArray⟩) ∧ W.cell? ⟨w.heap.size, 3, none⟩ = some (.string ⟨x.label.toArray⟩) ∧ W.cell? ⟨w.heap.size, 4, none⟩ = some (.int .i64 x.n)) ∧ Below w1.heap.size w1 W) from ⟨⟨kc h.below HX1.out.1, kc h.below HX1.out.2.1, kc h.below HX1.out.2.2.1, kc h.below HX1.out.2.2.2.1, kc h.below HX1.out.2.2.2.2⟩, h.below⟩))
              have hzt : (0 : Int) ≤ (j : Int) := by omega
              have hzt2 : (j : Int) < (ths.length : Int) := by omega
              have hjn := hlt
              obtain ⟨RS, hRS⟩ : ∃ r, r = rowsAt (fun (t : Nat) => wthN (fun q => f (t : Int) (q : Int)) x (ths.getD t []) (ths.getD t []).length) pt ths.length j := ⟨_, rfl⟩
              rw [← hRS] at HW0 HRS HOW
              clear hOW hN hRS
              refine wp_region_held_drew (S := (fun w' => (w'.cell? ⟨w.heap.size, 0, none⟩ = some (.int .i64 x.op) ∧ w'.cell? ⟨w.heap.size, 1, none⟩ = some (.string ⟨x.reg.toArray⟩) ∧ w'.cell? ⟨w.heap.size, 2, none⟩ = some (.string ⟨x.loc.toArray⟩) ∧ w'.cell? ⟨w.heap.size, 3, none⟩ = some (.string ⟨x.label.toArray⟩) ∧ w'.cell? ⟨w.heap.size, 4, none⟩ = some (.int .i64 x.n)) ∧ Below w1.heap.size w1 w')) (by kernel_rfl) (HP.out _ _ _ _ HW0.out.drew) (fun hHeld => ?_)
              obtain ⟨X0, hX0⟩ : ∃ W, W = WW.drew := ⟨_, rfl⟩
              have HWX0 := Lib.hid (show WS w1 60 56 lnsCs gm ths.length gy (lnCs y) vs vs RS X0 from by rw [hX0]; exact HW0.out.drew)
              rw [← hX0] at hHeld ⊢
              clear hX0
              refine wpAnyH_take (i := 0) (v := ?_) rfl (by kernel_rfl) (by kernel_rfl) (by kernel_rfl) (fun _ _ _ h => h) (Or.inl ⟨by rfl, ?_⟩) (by assumption) ?_
              rotate_left
              · intro w hSw; (try dsimp only at hSw); go_simp; (try with_reducible rfl)
              (try simp only [Act.put, List.getElem_toArray, List.getElem_cons_zero, List.getElem_cons_succ, Array.getInternal_eq_getElem, List.setIfInBounds_toArray, List.set_cons_zero, List.set_cons_succ])
              refine wpAnyH_take (i := 1) (v := ?_) rfl (by kernel_rfl) (by kernel_rfl) (by kernel_rfl) (fun _ _ _ h => h) (Or.inl ⟨by rfl, ?_⟩) (by assumption) ?_
              rotate_left
              · intro w hSw; (try dsimp only at hSw); go_simp; (try with_reducible rfl)
              (try simp only [Act.put, List.getElem_toArray, List.getElem_cons_zero, List.getElem_cons_succ, Array.getInternal_eq_getElem, List.setIfInBounds_toArray, List.set_cons_zero, List.set_cons_succ])
              refine wpAnyH_take (i := 2) (v := ?_) rfl (by kernel_rfl) (by kernel_rfl) (by kernel_rfl) (fun _ _ _ h => h) (Or.inl ⟨by rfl, ?_⟩) (by assumption) ?_
              rotate_left
              · intro w hSw; (try dsimp only at hSw); go_simp; (try with_reducible rfl)
              (try simp only [Act.put, List.getElem_toArray, List.getElem_cons_zero, List.getElem_cons_succ, Array.getInternal_eq_getElem, List.setIfInBounds_toArray, List.set_cons_zero, List.set_cons_succ])
              refine wpAnyH_take (i := 3) (v := ?_) rfl (by kernel_rfl) (by kernel_rfl) (by kernel_rfl) (fun _ _ _ h => h) (Or.inl ⟨by rfl, ?_⟩) (by assumption) ?_
              rotate_left
              · intro w hSw; (try dsimp only at hSw); go_simp; (try with_reducible rfl)
              (try simp only [Act.put, List.getElem_toArray, List.getElem_cons_zero, List.getElem_cons_succ, Array.getInternal_eq_getElem, List.setIfInBounds_toArray, List.set_cons_zero, List.set_cons_succ])
              refine wpAnyH_take (i := 4) (v := ?_) rfl (by kernel_rfl) (by kernel_rfl) (by kernel_rfl) (fun _ _ _ h => h) (Or.inl ⟨by rfl, ?_⟩) (by assumption) ?_
              rotate_left
              · intro w hSw; (try dsimp only at hSw); go_simp; (try with_reducible rfl)
              (try simp only [Act.put, List.getElem_toArray, List.getElem_cons_zero, List.getElem_cons_succ, Array.getInternal_eq_getElem, List.setIfInBounds_toArray, List.set_cons_zero, List.set_cons_succ])
              refine wpAnyH_take (i := 6) (v := ?_) rfl (by kernel_rfl) (by kernel_rfl) (by kernel_rfl) (fun _ _ _ h => h) (Or.inl ⟨by rfl, ?_⟩) (by assumption) ?_
              rotate_left
              · intro w hSw; (try dsimp only at hSw); go_simp; (try with_reducible rfl)
              (try simp only [Act.put, List.getElem_toArray, List.getElem_cons_zero, List.getElem_cons_succ, Array.getInternal_eq_getElem, List.setIfInBounds_toArray, List.set_cons_zero, List.set_cons_succ])
              refine wpAnyH_ready (rs := [5, 7]) (by kernel_rfl) (by simp) ?_
              refine AllReadyH.cons rfl (fun K hK => ?_) (AllReadyH.cons rfl (fun K hK => ?_) (AllReadyH.nil))
              · -- 5 first
                have c39 := HWX0.out.load hjn huM
                go_simp
                refine hK.out _ _ (HP.out _ _ _ _ HWX0.out) (fun hHeld => ?_)
                clear hK K
                (try simp only [Act.put, List.getElem_toArray, List.getElem_cons_zero, List.getElem_cons_succ, Array.getInternal_eq_getElem, List.setIfInBounds_toArray, List.set_cons_zero, List.set_cons_succ])
                clear c39
                refine wpAnyH_ready (rs := [7]) (by kernel_rfl) (by simp) ?_
                refine AllReadyH.cons rfl (fun K hK => ?_) AllReadyH.nil
                go_simp
                refine hK.out _ _ (HP.out _ _ _ _ (HWX0.out.alloc (.cells #[.int .i64 x.op, .string ⟨x.reg.toArray⟩, .string ⟨x.loc.toArray⟩, .string ⟨x.label.toArray⟩, .int .i64 x.n] 60))) (fun hHeld => ?_)
                clear hK K
                (try simp only [Act.put, List.getElem_toArray, List.getElem_cons_zero, List.getElem_cons_succ, Array.getInternal_eq_getElem, List.setIfInBounds_toArray, List.set_cons_zero, List.set_cons_succ])
                obtain ⟨X7, hX7⟩ : ∃ W, W = X0.alloc (.cells #[.int .i64 x.op, .string ⟨x.reg.toArray⟩, .string ⟨x.loc.toArray⟩, .string ⟨x.label.toArray⟩, .int .i64 x.n] 60) := ⟨_, rfl⟩
                have HWX7 := Lib.hid (show WS w1 60 56 lnsCs gm ths.length gy (lnCs y) vs vs RS X7 from by rw [hX7]; exact HWX0.out.alloc _)
                have HF := Lib.hid (fun (i : Nat) (u : Value) (h : (lnCs x)[i]? = some u) => (show X7.cell? ⟨X0.heap.size, i, none⟩ = some u from by
                  have e := World.news_of_block (heap_alloc_new X0 (.cells #[.int .i64 x.op, .string ⟨x.reg.toArray⟩, .string ⟨x.loc.toArray⟩, .string ⟨x.label.toArray⟩, .int .i64 x.n] 60)) i u h
                  rw [Addr.add_lit, Nat.zero_add] at e
                  rw [hX7]; exact e))
                rw [← hX7] at hHeld ⊢
                clear hX7
                refine wpAnyH_ready (rs := [8]) (by kernel_rfl) (by simp) ?_
                refine AllReadyH.cons rfl (fun K hK => ?_) AllReadyH.nil
                refine step_append_at (by rfl) _ _ _ (by rfl) w1.heap.size 60 i0 (.agg #[.int .i64 0, .string ⟨#[]⟩, .string ⟨#[]⟩, .string ⟨#[]⟩, .int .i64 0]) 5 64 Try.underlying56 hi0 hz0 hz1 hz2 (by rfl) (by decide) _ N (lnsCs pt) (by rfl) (HOW.out _ _ _ _ HWX7.out) ⟨X0.heap.size, 0, none⟩ 1 1 (lnCs x) (by rfl) (by rfl) (fun i u h => by rw [Addr.add_lit, Nat.zero_add]; exact HF.out i u h) (HON.out) (by unfold maxLen; omega) (by omega) HWX7.out.below.size (fun v8 w8 hown8 hg8 hat8 => ?_)
                obtain ⟨A8, c8, rfl⟩ := own_slice hown8
                have HWw8 := Lib.hid (show WS w1 60 56 lnsCs gm ths.length gy (lnCs y) vs (vs.set j (.slice A8 (N + 1) c8)) (RS.set j (pt ++ [x])) w8 from HWX7.out.append (by decide) huM (by rw [HNL.out, HCS.out]; exact hown8) hg8 hat8)
                clear hown8 hg8 hat8 HF
                refine hK.out _ _ (HP.out _ _ _ _ HWw8.out) (fun hHeld => ?_)
                clear hK K
                (try simp only [Act.put, List.getElem_toArray, List.getElem_cons_zero, List.getElem_cons_succ, Array.getInternal_eq_getElem, List.setIfInBounds_toArray, List.set_cons_zero, List.set_cons_succ])
                refine wpAnyH_take (i := 9) (v := ?_) rfl (by kernel_rfl) (by kernel_rfl) (by kernel_rfl) (fun _ _ _ h => h) (Or.inl ⟨by rfl, ?_⟩) (by assumption) ?_
                rotate_left
                · intro w hSw; (try dsimp only at hSw); go_simp; (try with_reducible rfl)
                (try simp only [Act.put, List.getElem_toArray, List.getElem_cons_zero, List.getElem_cons_succ, Array.getInternal_eq_getElem, List.setIfInBounds_toArray, List.set_cons_zero, List.set_cons_succ])
                refine wpAnyH_ready (rs := [10]) (by kernel_rfl) (by simp) ?_
                refine AllReadyH.cons rfl (fun K hK => ?_) AllReadyH.nil
                have c9 := HWw8.out.load hjn huM
                have f9 := HWw8.out.frz j
                go_simp
                have HW9 := Lib.hid (HWw8.out.store (by decide) rfl)
                refine hK.out _ _ (HP.out _ _ _ _ HW9.out) (fun hHeld => ?_)
                clear hK K
                (try simp only [Act.put, List.getElem_toArray, List.getElem_cons_zero, List.getElem_cons_succ, Array.getInternal_eq_getElem, List.setIfInBounds_toArray, List.set_cons_zero, List.set_cons_succ])
                refine wpAnyH_done (by kernel_rfl) ?_ _
                clear c9 f9 hHeld
                go_wp2_with fail
                go_meet
                exact ⟨_, by simp only [if_true]; rw [← HRS.out]; exact HW9.out⟩
              · -- 7 first
                go_simp
                refine hK.out _ _ (HP.out _ _ _ _ (HWX0.out.alloc (.cells #[.int .i64 x.op, .string ⟨x.reg.toArray⟩, .string ⟨x.loc.toArray⟩, .string ⟨x.label.toArray⟩, .int .i64 x.n] 60))) (fun hHeld => ?_)
                clear hK K
                (try simp only [Act.put, List.getElem_toArray, List.getElem_cons_zero, List.getElem_cons_succ, Array.getInternal_eq_getElem, List.setIfInBounds_toArray, List.set_cons_zero, List.set_cons_succ])
                obtain ⟨X7, hX7⟩ : ∃ W, W = X0.alloc (.cells #[.int .i64 x.op, .string ⟨x.reg.toArray⟩, .string ⟨x.loc.toArray⟩, .string ⟨x.label.toArray⟩, .int .i64 x.n] 60) := ⟨_, rfl⟩
                have HWX7 := Lib.hid (show WS w1 60 56 lnsCs gm ths.length gy (lnCs y) vs vs RS X7 from by rw [hX7]; exact HWX0.out.alloc _)
                have HF := Lib.hid (fun (i : Nat) (u : Value) (h : (lnCs x)[i]? = some u) => (show X7.cell? ⟨X0.heap.size, i, none⟩ = some u from by
                  have e := World.news_of_block (heap_alloc_new X0 (.cells #[.int .i64 x.op, .string ⟨x.reg.toArray⟩, .string ⟨x.loc.toArray⟩, .string ⟨x.label.toArray⟩, .int .i64 x.n] 60)) i u h
                  rw [Addr.add_lit, Nat.zero_add] at e
                  rw [hX7]; exact e))
                rw [← hX7] at hHeld ⊢
                clear hX7
                refine wpAnyH_ready (rs := [5]) (by kernel_rfl) (by simp) ?_
                refine AllReadyH.cons rfl (fun K hK => ?_) AllReadyH.nil
                have c39 := HWX7.out.load hjn huM
                go_simp
                refine hK.out _ _ (HP.out _ _ _ _ HWX7.out) (fun hHeld => ?_)
                clear hK K
                (try simp only [Act.put, List.getElem_toArray, List.getElem_cons_zero, List.getElem_cons_succ, Array.getInternal_eq_getElem, List.setIfInBounds_toArray, List.set_cons_zero, List.set_cons_succ])
                clear c39
                refine wpAnyH_ready (rs := [8]) (by kernel_rfl) (by simp) ?_
                refine AllReadyH.cons rfl (fun K hK => ?_) AllReadyH.nil
                refine step_append_at (by rfl) _ _ _ (by rfl) w1.heap.size 60 i0 (.agg #[.int .i64 0, .string ⟨#[]⟩, .string ⟨#[]⟩, .string ⟨#[]⟩, .int .i64 0]) 5 64 Try.underlying56 hi0 hz0 hz1 hz2 (by rfl) (by decide) _ N (lnsCs pt) (by rfl) (HOW.out _ _ _ _ HWX7.out) ⟨X0.heap.size, 0, none⟩ 1 1 (lnCs x) (by rfl) (by rfl) (fun i u h => by rw [Addr.add_lit, Nat.zero_add]; exact HF.out i u h) (HON.out) (by unfold maxLen; omega) (by omega) HWX7.out.below.size (fun v8 w8 hown8 hg8 hat8 => ?_)
                obtain ⟨A8, c8, rfl⟩ := own_slice hown8
                have HWw8 := Lib.hid (show WS w1 60 56 lnsCs gm ths.length gy (lnCs y) vs (vs.set j (.slice A8 (N + 1) c8)) (RS.set j (pt ++ [x])) w8 from HWX7.out.append (by decide) huM (by rw [HNL.out, HCS.out]; exact hown8) hg8 hat8)
                clear hown8 hg8 hat8 HF
                refine hK.out _ _ (HP.out _ _ _ _ HWw8.out) (fun hHeld => ?_)
                clear hK K
                (try simp only [Act.put, List.getElem_toArray, List.getElem_cons_zero, List.getElem_cons_succ, Array.getInternal_eq_getElem, List.setIfInBounds_toArray, List.set_cons_zero, List.set_cons_succ])
                refine wpAnyH_take (i := 9) (v := ?_) rfl (by kernel_rfl) (by kernel_rfl) (by kernel_rfl) (fun _ _ _ h => h) (Or.inl ⟨by rfl, ?_⟩) (by assumption) ?_
                rotate_left
                · intro w hSw; (try dsimp only at hSw); go_simp; (try with_reducible rfl)
                (try simp only [Act.put, List.getElem_toArray, List.getElem_cons_zero, List.getElem_cons_succ, Array.getInternal_eq_getElem, List.setIfInBounds_toArray, List.set_cons_zero, List.set_cons_succ])
                refine wpAnyH_ready (rs := [10]) (by kernel_rfl) (by simp) ?_
                refine AllReadyH.cons rfl (fun K hK => ?_) AllReadyH.nil
                have c9 := HWw8.out.load hjn huM
                have f9 := HWw8.out.frz j
                go_simp
                have HW9 := Lib.hid (HWw8.out.store (by decide) rfl)
                refine hK.out _ _ (HP.out _ _ _ _ HW9.out) (fun hHeld => ?_)
                clear hK K
                (try simp only [Act.put, List.getElem_toArray, List.getElem_cons_zero, List.getElem_cons_succ, Array.getInternal_eq_getElem, List.setIfInBounds_toArray, List.set_cons_zero, List.set_cons_succ])
                refine wpAnyH_done (by kernel_rfl) ?_ _
                clear c9 f9 hHeld
                go_wp2_with fail
                go_meet
                exact ⟨_, by simp only [if_true]; rw [← HRS.out]; exact HW9.out⟩
          case rest =>
            obtain ⟨vs1, hcut1⟩ := hcut
            clear HW0
            have HW0 := Lib.hid hcut1
            have HPN2 := Lib.hid (show wthN (fun q => f (j : Int) (q : Int)) x ss (k + 1) = (pt ++ (if fk then [x] else [])) ++ [y] by rw [HPN.out, List.append_assoc])
            have hlk2 : (pt ++ (if fk then [x] else [])).length ≤ 2000001 := by rw [List.length_append]; split <;> simp <;> omega
            generalize pt ++ (if fk then [x] else []) = pt at *
            generalize vs1 = vs at *
            generalize wc = WW at *
            clear hcut1 hlk HPN
            go_upto_region 10 with fail
            obtain ⟨Au, cu, huM, hOW⟩ := HW0.out.row hlt
            generalize hN : pt.length = N at huM hOW
            have HNL := Lib.hid (show (pt ++ [y]).length = N + 1 by simp [hN])
            have HCS := Lib.hid (show lnsCs (pt ++ [y]) = lnsCs pt ++ lnCs y by rw [lnsCs_app]; rfl)
            have hNb : N ≤ 3000000 := by omega
            have HRS := Lib.hid (fun q => rowsAt_set (fun (t : Nat) => wthN (fun q => f (t : Int) (q : Int)) x (ths.getD t []) (ths.getD t []).length) pt q hlt)
            have HOW := Lib.hid hOW
            have HON := Lib.hid (show ∀ u ∈ lnCs y, u.oneCell' = true from fun u hu => lnsCs_one [y] u (by simpa [lnsCs] using hu))
            have HP := Lib.hid (fun (vm vr : List Value) (xss : List (List OpsM.Ln)) (W : World) (h : WS w1 60 56 lnsCs gm ths.length gy (lnCs y) vm vr xss W) => (show ((W.cell? ⟨gy, 0, none⟩ = some (.int .i64 y.op) ∧ W.cell? ⟨gy, 1, none⟩ = some (.string ⟨y.reg.toArray⟩) ∧ W.cell? ⟨gy, 2, none⟩ = some (.string ⟨y.loc.toArray⟩) ∧ W.cell? ⟨gy, 3, none⟩ = some (.string ⟨y.label.toArray⟩) ∧ W.cell? ⟨gy, 4, none⟩ = some (.int .i64 y.n)) ∧ Below w1.heap.size w1 W) from ⟨⟨h.y 0 _ rfl, h.y 1 _ rfl, h.y 2 _ rfl, h.y 3 _ rfl, h.y 4 _ rfl⟩, h.below⟩))
            have hzt : (0 : Int) ≤ (j : Int) := by omega
            have hzt2 : (j : Int) < (ths.length : Int) := by omega
            have hjn := hlt
            obtain ⟨RS, hRS⟩ : ∃ r, r = rowsAt (fun (t : Nat) => wthN (fun q => f (t : Int) (q : Int)) x (ths.getD t []) (ths.getD t []).length) pt ths.length j := ⟨_, rfl⟩
            rw [← hRS] at HW0 HRS HOW
            clear hOW hN hRS
            refine wp_region_held_drew (S := (fun w' => (w'.cell? ⟨gy, 0, none⟩ = some (.int .i64 y.op) ∧ w'.cell? ⟨gy, 1, none⟩ = some (.string ⟨y.reg.toArray⟩) ∧ w'.cell? ⟨gy, 2, none⟩ = some (.string ⟨y.loc.toArray⟩) ∧ w'.cell? ⟨gy, 3, none⟩ = some (.string ⟨y.label.toArray⟩) ∧ w'.cell? ⟨gy, 4, none⟩ = some (.int .i64 y.n)) ∧ Below w1.heap.size w1 w')) (by kernel_rfl) (HP.out _ _ _ _ HW0.out.drew) (fun hHeld => ?_)
            obtain ⟨X0, hX0⟩ : ∃ W, W = WW.drew := ⟨_, rfl⟩
            have HWX0 := Lib.hid (show WS w1 60 56 lnsCs gm ths.length gy (lnCs y) vs vs RS X0 from by rw [hX0]; exact HW0.out.drew)
            rw [← hX0] at hHeld ⊢
            clear hX0
            refine wpAnyH_take (i := 0) (v := ?_) rfl (by kernel_rfl) (by kernel_rfl) (by kernel_rfl) (fun _ _ _ h => h) (Or.inl ⟨by rfl, ?_⟩) (by assumption) ?_
            rotate_left
            · intro w hSw; (try dsimp only at hSw); go_simp; (try with_reducible rfl)
            (try simp only [Act.put, List.getElem_toArray, List.getElem_cons_zero, List.getElem_cons_succ, Array.getInternal_eq_getElem, List.setIfInBounds_toArray, List.set_cons_zero, List.set_cons_succ])
            refine wpAnyH_take (i := 1) (v := ?_) rfl (by kernel_rfl) (by kernel_rfl) (by kernel_rfl) (fun _ _ _ h => h) (Or.inl ⟨by rfl, ?_⟩) (by assumption) ?_
            rotate_left
            · intro w hSw; (try dsimp only at hSw); go_simp; (try with_reducible rfl)
            (try simp only [Act.put, List.getElem_toArray, List.getElem_cons_zero, List.getElem_cons_succ, Array.getInternal_eq_getElem, List.setIfInBounds_toArray, List.set_cons_zero, List.set_cons_succ])
            refine wpAnyH_take (i := 2) (v := ?_) rfl (by kernel_rfl) (by kernel_rfl) (by kernel_rfl) (fun _ _ _ h => h) (Or.inl ⟨by rfl, ?_⟩) (by assumption) ?_
            rotate_left
            · intro w hSw; (try dsimp only at hSw); go_simp; (try with_reducible rfl)
            (try simp only [Act.put, List.getElem_toArray, List.getElem_cons_zero, List.getElem_cons_succ, Array.getInternal_eq_getElem, List.setIfInBounds_toArray, List.set_cons_zero, List.set_cons_succ])
            refine wpAnyH_take (i := 3) (v := ?_) rfl (by kernel_rfl) (by kernel_rfl) (by kernel_rfl) (fun _ _ _ h => h) (Or.inl ⟨by rfl, ?_⟩) (by assumption) ?_
            rotate_left
            · intro w hSw; (try dsimp only at hSw); go_simp; (try with_reducible rfl)
            (try simp only [Act.put, List.getElem_toArray, List.getElem_cons_zero, List.getElem_cons_succ, Array.getInternal_eq_getElem, List.setIfInBounds_toArray, List.set_cons_zero, List.set_cons_succ])
            refine wpAnyH_take (i := 4) (v := ?_) rfl (by kernel_rfl) (by kernel_rfl) (by kernel_rfl) (fun _ _ _ h => h) (Or.inl ⟨by rfl, ?_⟩) (by assumption) ?_
            rotate_left
            · intro w hSw; (try dsimp only at hSw); go_simp; (try with_reducible rfl)
            (try simp only [Act.put, List.getElem_toArray, List.getElem_cons_zero, List.getElem_cons_succ, Array.getInternal_eq_getElem, List.setIfInBounds_toArray, List.set_cons_zero, List.set_cons_succ])
            refine wpAnyH_take (i := 6) (v := ?_) rfl (by kernel_rfl) (by kernel_rfl) (by kernel_rfl) (fun _ _ _ h => h) (Or.inl ⟨by rfl, ?_⟩) (by assumption) ?_
            rotate_left
            · intro w hSw; (try dsimp only at hSw); go_simp; (try with_reducible rfl)
            (try simp only [Act.put, List.getElem_toArray, List.getElem_cons_zero, List.getElem_cons_succ, Array.getInternal_eq_getElem, List.setIfInBounds_toArray, List.set_cons_zero, List.set_cons_succ])
            refine wpAnyH_ready (rs := [5, 7]) (by kernel_rfl) (by simp) ?_
            refine AllReadyH.cons rfl (fun K hK => ?_) (AllReadyH.cons rfl (fun K hK => ?_) (AllReadyH.nil))
            · -- 5 first
              have c39 := HWX0.out.load hjn huM
              go_simp
              refine hK.out _ _ (HP.out _ _ _ _ HWX0.out) (fun hHeld => ?_)
              clear hK K
              (try simp only [Act.put, List.getElem_toArray, List.getElem_cons_zero, List.getElem_cons_succ, Array.getInternal_eq_getElem, List.setIfInBounds_toArray, List.set_cons_zero, List.set_cons_succ])
              clear c39
              refine wpAnyH_ready (rs := [7]) (by kernel_rfl) (by simp) ?_
              refine AllReadyH.cons rfl (fun K hK => ?_) AllReadyH.nil
              go_simp
              refine hK.out _ _ (HP.out _ _ _ _ (HWX0.out.alloc (.cells #[.int .i64 y.op, .string ⟨y.reg.toArray⟩, .string ⟨y.loc.toArray⟩, .string ⟨y.label.toArray⟩, .int .i64 y.n] 60))) (fun hHeld => ?_)
              clear hK K
              (try simp only [Act.put, List.getElem_toArray, List.getElem_cons_zero, List.getElem_cons_succ, Array.getInternal_eq_getElem, List.setIfInBounds_toArray, List.set_cons_zero, List.set_cons_succ])
              obtain ⟨X7, hX7⟩ : ∃ W, W = X0.alloc (.cells #[.int .i64 y.op, .string ⟨y.reg.toArray⟩, .string ⟨y.loc.toArray⟩, .string ⟨y.label.toArray⟩, .int .i64 y.n] 60) := ⟨_, rfl⟩
              have HWX7 := Lib.hid (show WS w1 60 56 lnsCs gm ths.length gy (lnCs y) vs vs RS X7 from by rw [hX7]; exact HWX0.out.alloc _)
              have HF := Lib.hid (fun (i : Nat) (u : Value) (h : (lnCs y)[i]? = some u) => (show X7.cell? ⟨X0.heap.size, i, none⟩ = some u from by
                have e := World.news_of_block (heap_alloc_new X0 (.cells #[.int .i64 y.op, .string ⟨y.reg.toArray⟩, .string ⟨y.loc.toArray⟩, .string ⟨y.label.toArray⟩, .int .i64 y.n] 60)) i u h
                rw [Addr.add_lit, Nat.zero_add] at e
                rw [hX7]; exact e))
              rw [← hX7] at hHeld ⊢
              clear hX7
              refine wpAnyH_ready (rs := [8]) (by kernel_rfl) (by simp) ?_
              refine AllReadyH.cons rfl (fun K hK => ?_) AllReadyH.nil
              refine step_append_at (by rfl) _ _ _ (by rfl) w1.heap.size 60 i0 (.agg #[.int .i64 0, .string ⟨#[]⟩, .string ⟨#[]⟩, .string ⟨#[]⟩, .int .i64 0]) 5 64 Try.underlying56 hi0 hz0 hz1 hz2 (by rfl) (by decide) _ N (lnsCs pt) (by rfl) (HOW.out _ _ _ _ HWX7.out) ⟨X0.heap.size, 0, none⟩ 1 1 (lnCs y) (by rfl) (by rfl) (fun i u h => by rw [Addr.add_lit, Nat.zero_add]; exact HF.out i u h) (HON.out) (by unfold maxLen; omega) (by omega) HWX7.out.below.size (fun v8 w8 hown8 hg8 hat8 => ?_)
              obtain ⟨A8, c8, rfl⟩ := own_slice hown8
              have HWw8 := Lib.hid (show WS w1 60 56 lnsCs gm ths.length gy (lnCs y) vs (vs.set j (.slice A8 (N + 1) c8)) (RS.set j (pt ++ [y])) w8 from HWX7.out.append (by decide) huM (by rw [HNL.out, HCS.out]; exact hown8) hg8 hat8)
              clear hown8 hg8 hat8 HF
              refine hK.out _ _ (HP.out _ _ _ _ HWw8.out) (fun hHeld => ?_)
              clear hK K
              (try simp only [Act.put, List.getElem_toArray, List.getElem_cons_zero, List.getElem_cons_succ, Array.getInternal_eq_getElem, List.setIfInBounds_toArray, List.set_cons_zero, List.set_cons_succ])
              refine wpAnyH_take (i := 9) (v := ?_) rfl (by kernel_rfl) (by kernel_rfl) (by kernel_rfl) (fun _ _ _ h => h) (Or.inl ⟨by rfl, ?_⟩) (by assumption) ?_
              rotate_left
              · intro w hSw; (try dsimp only at hSw); go_simp; (try with_reducible rfl)
              (try simp only [Act.put, List.getElem_toArray, List.getElem_cons_zero, List.getElem_cons_succ, Array.getInternal_eq_getElem, List.setIfInBounds_toArray, List.set_cons_zero, List.set_cons_succ])
              refine wpAnyH_ready (rs := [10]) (by kernel_rfl) (by simp) ?_
              refine AllReadyH.cons rfl (fun K hK => ?_) AllReadyH.nil
              have c9 := HWw8.out.load hjn huM
              have f9 := HWw8.out.frz j
              go_simp
              have HW9 := Lib.hid (HWw8.out.store (by decide) rfl)
              refine hK.out _ _ (HP.out _ _ _ _ HW9.out) (fun hHeld => ?_)
              clear hK K
              (try simp only [Act.put, List.getElem_toArray, List.getElem_cons_zero, List.getElem_cons_succ, Array.getInternal_eq_getElem, List.setIfInBounds_toArray, List.set_cons_zero, List.set_cons_succ])
              refine wpAnyH_done (by kernel_rfl) ?_ _
              clear c9 f9 hHeld
              go_wp2_with fail
              go_roundw
              case rel => exact ⟨k + 1, _, gy, _, by omega, by go_num, by rw [HPN2.out, ← HRS.out]; exact HW9.out⟩
              case measure => simp [intOf]; omega
            · -- 7 first
              go_simp
              refine hK.out _ _ (HP.out _ _ _ _ (HWX0.out.alloc (.cells #[.int .i64 y.op, .string ⟨y.reg.toArray⟩, .string ⟨y.loc.toArray⟩, .string ⟨y.label.toArray⟩, .int .i64 y.n] 60))) (fun hHeld => ?_)
              clear hK K
              (try simp only [Act.put, List.getElem_toArray, List.getElem_cons_zero, List.getElem_cons_succ, Array.getInternal_eq_getElem, List.setIfInBounds_toArray, List.set_cons_zero, List.set_cons_succ])
              obtain ⟨X7, hX7⟩ : ∃ W, W = X0.alloc (.cells #[.int .i64 y.op, .string ⟨y.reg.toArray⟩, .string ⟨y.loc.toArray⟩, .string ⟨y.label.toArray⟩, .int .i64 y.n] 60) := ⟨_, rfl⟩
              have HWX7 := Lib.hid (show WS w1 60 56 lnsCs gm ths.length gy (lnCs y) vs vs RS X7 from by rw [hX7]; exact HWX0.out.alloc _)
              have HF := Lib.hid (fun (i : Nat) (u : Value) (h : (lnCs y)[i]? = some u) => (show X7.cell? ⟨X0.heap.size, i, none⟩ = some u from by
                have e := World.news_of_block (heap_alloc_new X0 (.cells #[.int .i64 y.op, .string ⟨y.reg.toArray⟩, .string ⟨y.loc.toArray⟩, .string ⟨y.label.toArray⟩, .int .i64 y.n] 60)) i u h
                rw [Addr.add_lit, Nat.zero_add] at e
                rw [hX7]; exact e))
              rw [← hX7] at hHeld ⊢
              clear hX7
              refine wpAnyH_ready (rs := [5]) (by kernel_rfl) (by simp) ?_
              refine AllReadyH.cons rfl (fun K hK => ?_) AllReadyH.nil
              have c39 := HWX7.out.load hjn huM
              go_simp
              refine hK.out _ _ (HP.out _ _ _ _ HWX7.out) (fun hHeld => ?_)
              clear hK K
              (try simp only [Act.put, List.getElem_toArray, List.getElem_cons_zero, List.getElem_cons_succ, Array.getInternal_eq_getElem, List.setIfInBounds_toArray, List.set_cons_zero, List.set_cons_succ])
              clear c39
              refine wpAnyH_ready (rs := [8]) (by kernel_rfl) (by simp) ?_
              refine AllReadyH.cons rfl (fun K hK => ?_) AllReadyH.nil
              refine step_append_at (by rfl) _ _ _ (by rfl) w1.heap.size 60 i0 (.agg #[.int .i64 0, .string ⟨#[]⟩, .string ⟨#[]⟩, .string ⟨#[]⟩, .int .i64 0]) 5 64 Try.underlying56 hi0 hz0 hz1 hz2 (by rfl) (by decide) _ N (lnsCs pt) (by rfl) (HOW.out _ _ _ _ HWX7.out) ⟨X0.heap.size, 0, none⟩ 1 1 (lnCs y) (by rfl) (by rfl) (fun i u h => by rw [Addr.add_lit, Nat.zero_add]; exact HF.out i u h) (HON.out) (by unfold maxLen; omega) (by omega) HWX7.out.below.size (fun v8 w8 hown8 hg8 hat8 => ?_)
              obtain ⟨A8, c8, rfl⟩ := own_slice hown8
              have HWw8 := Lib.hid (show WS w1 60 56 lnsCs gm ths.length gy (lnCs y) vs (vs.set j (.slice A8 (N + 1) c8)) (RS.set j (pt ++ [y])) w8 from HWX7.out.append (by decide) huM (by rw [HNL.out, HCS.out]; exact hown8) hg8 hat8)
              clear hown8 hg8 hat8 HF
              refine hK.out _ _ (HP.out _ _ _ _ HWw8.out) (fun hHeld => ?_)
              clear hK K
              (try simp only [Act.put, List.getElem_toArray, List.getElem_cons_zero, List.getElem_cons_succ, Array.getInternal_eq_getElem, List.setIfInBounds_toArray, List.set_cons_zero, List.set_cons_succ])
              refine wpAnyH_take (i := 9) (v := ?_) rfl (by kernel_rfl) (by kernel_rfl) (by kernel_rfl) (fun _ _ _ h => h) (Or.inl ⟨by rfl, ?_⟩) (by assumption) ?_
              rotate_left
              · intro w hSw; (try dsimp only at hSw); go_simp; (try with_reducible rfl)
              (try simp only [Act.put, List.getElem_toArray, List.getElem_cons_zero, List.getElem_cons_succ, Array.getInternal_eq_getElem, List.setIfInBounds_toArray, List.set_cons_zero, List.set_cons_succ])
              refine wpAnyH_ready (rs := [10]) (by kernel_rfl) (by simp) ?_
              refine AllReadyH.cons rfl (fun K hK => ?_) AllReadyH.nil
              have c9 := HWw8.out.load hjn huM
              have f9 := HWw8.out.frz j
              go_simp
              have HW9 := Lib.hid (HWw8.out.store (by decide) rfl)
              refine hK.out _ _ (HP.out _ _ _ _ HW9.out) (fun hHeld => ?_)
              clear hK K
              (try simp only [Act.put, List.getElem_toArray, List.getElem_cons_zero, List.getElem_cons_succ, Array.getInternal_eq_getElem, List.setIfInBounds_toArray, List.set_cons_zero, List.set_cons_succ])
              refine wpAnyH_done (by kernel_rfl) ?_ _
              clear c9 f9 hHeld
              go_wp2_with fail
              go_roundw
              case rel => exact ⟨k + 1, _, gy, _, by omega, by go_num, by rw [HPN2.out, ← HRS.out]; exact HW9.out⟩
              case measure => simp [intOf]; omega
        · obtain rfl : ss.length = k := by omega
          go_wp2
          go_roundw
          case rel => exact ⟨j + 1, vs, gy0, yv, by omega, by go_num, by rw [← HFU.out]; exact hW⟩
          case measure => simp [intOf]; omega
    · obtain rfl : ths.length = j := by omega
      rw [rowsAt_end] at hW
      go_wp2
      go_ret
      exact ⟨gm, vs, rfl, own_base hW.more HBS.out.size, ⟨hW.rows.len, fun i hi => by obtain ⟨u, h1, h2⟩ := hW.rows.own i hi; exact ⟨u, h1, own_base h2 HBS.out.size⟩, hW.rows.apart⟩, HBS.out.trans (hW.below.mono HBS.out.size)⟩
end Go.Proofs.Ytaelfjphgdlbcaa
namespace Go.Proofs.Ytaelfjphgdlbcaa
open Go.RowKit
set_option linter.unusedVariables false
set_option linter.unusedSimpArgs false
open CodM (St Pg hasS)
open VM (Fl)
open SlM

theorem rows_fen {ths : List (List OpsM.Ln)} {g : List Int} {f : Int → Int → Bool} (hf : ∀ t k (ht : t < ths.length), k < ths[t].length → f (t : Nat) (k : Nat) = ch hasS ths g t k) :
    (List.range ths.length).map (fun (t : Nat) => wthN (fun q => f (t : Int) (q : Int)) fenL (ths.getD t []) (ths.getD t []).length) = fzs hasS fenL g ths := by
  unfold fzs
  refine List.map_congr_left (fun t ht => ?_)
  have ht := List.mem_range.1 ht
  rw [SlM.getD_at ht, wthN_congr (c' := ch hasS ths g t) fenL ths[t] _ (fun k hk => hf t k ht hk), wth_fz hasS fenL g ths ht _ (Nat.le_refl _), List.take_length]
/-- Rows of the call's own are threads. -/
theorem ths_rows {W : World} {base b n : Nat} {vs : List Value} {ts : List (List OpsM.Ln)} (ho : W.ownsRow base 56 1 (.slice (some ⟨b, 0, none⟩) n n) n vs) (hr : RowsA W base 60 lnsCs vs ts) (hn : ts.length = n) : Ths W.heap.size W (.slice (some ⟨b, 0, none⟩) n n) ts := by
  subst hn
  exact ths_of_own ho (Nat.le_refl _) (fun j hj => by obtain ⟨u, h1, h2⟩ := hr.own j hj; exact ⟨u, h1, lns_of_own h2 (Nat.le_refl _)⟩)
theorem rows_off {H : Nat → Prop} {W : World} {base b n : Nat} {vs : List Value} {ts : List (List OpsM.Ln)} (ho : W.ownsRow base 56 1 (.slice (some ⟨b, 0, none⟩) n n) n vs) (hr : RowsA W base 60 lnsCs vs ts) (hn : ts.length = n) (hH : ∀ k, H k → k < base) :
    ∀ (b' f : Nat) (c : Nat) (q : Nat) (hq : q < ts.length) (u : Value), Value.slice (some ⟨b, 0, none⟩) n n = .slice (some ⟨b', f, none⟩) ts.length c → W.cell? ⟨b', f + q, none⟩ = some u → ∀ W', Off H W W' → Lns W'.heap.size W' u ts[q] := by
  intro b' f c q hq u e hc W' hO
  injection e with e1 e2 e3
  injection e1 with e1
  injection e1 with e1 e4
  subst e1; subst e4
  rw [Nat.zero_add, ho.cellAt q (by omega)] at hc
  obtain ⟨hq', h2⟩ := hr.of hc
  exact lns_of_own (own_off h2 hO hH) (Nat.le_refl _)
theorem BoxC.other5 {W : World} {b g : Nat} {T : TypeId} {cs : Array Value} (h : BoxC W b T cs) (hne : b ≠ g) (v0 v1 v2 v3 v4 : Value) :
    BoxC (((((W.setCell ⟨g, 0, none⟩ v0).setCell ⟨g, 1, none⟩ v1).setCell ⟨g, 2, none⟩ v2).setCell ⟨g, 3, none⟩ v3).setCell ⟨g, 4, none⟩ v4) b T cs := ((((h.other hne 0 v0).other hne 1 v1).other hne 2 v2).other hne 3 v3).other hne 4 v4
theorem BoxC.set5 {W : World} {g : Nat} {T : TypeId} {a0 a1 a2 a3 a4 : Value} (h : BoxC W g T #[a0, a1, a2, a3, a4]) (v0 v1 v2 v3 v4 : Value) :
    BoxC (((((W.setCell ⟨g, 0, none⟩ v0).setCell ⟨g, 1, none⟩ v1).setCell ⟨g, 2, none⟩ v2).setCell ⟨g, 3, none⟩ v3).setCell ⟨g, 4, none⟩ v4) g T #[v0, v1, v2, v3, v4] := ((((h.set 0 v0).set 1 v1).set 2 v2).set 3 v3).set 4 v4
theorem Off.set5 {H : Nat → Prop} {W W' : World} (h : Off H W W') {g : Nat} (hg : H g) (v0 v1 v2 v3 v4 : Value) :
    Off H W (((((W'.setCell ⟨g, 0, none⟩ v0).setCell ⟨g, 1, none⟩ v1).setCell ⟨g, 2, none⟩ v2).setCell ⟨g, 3, none⟩ v3).setCell ⟨g, 4, none⟩ v4) := ((((h.set hg 0 v0).set hg 1 v1).set hg 2 v2).set hg 3 v3).set hg 4 v4
set_option maxHeartbeats 8000000 in
set_option maxRecDepth 100000 in
theorem fence_any {B : Nat} {v vg : Value} {F : Fl} {g : List Int} (w : World) (hv : FlV B w v F) (hg : Ints B w vg g) (hBB : B ≤ w.heap.size) (hl : F.ths.length ≤ 1000000) (hll : ∀ ss ∈ F.ths, ss.length ≤ 1000000) (hgl : g.length ≤ 1000000) (hl1 : F.init.length ≤ 1000000) (hl2 : F.cond.length ≤ 1000000) :
    Calls Try.prog 25 #[v, vg] w fun e w' => ∃ u, e = .returned u ∧ FlV w'.heap.size w' u (fenF F g) ∧ Below w.heap.size w w' := by
  obtain ⟨vi, vt, vc, rfl, hm⟩ := hv
  have HM := Lib.hid hm
  have HG := Lib.hid hg
  have HN0 := Lib.hid hl
  have HN1 := Lib.hid hl1
  have HN2 := Lib.hid hl2
  have HLL := Lib.hid hll
  have HNG := Lib.hid hgl
  obtain ⟨⟨P0, d0, rfl, -⟩, ⟨P1, d1, rfl, -⟩, ⟨P2, d2, rfl, -⟩⟩ := hm
  obtain ⟨PG, cg, rfl, -⟩ := hg
  obtain ⟨W1, hW1⟩ : ∃ W, W = (w.alloc (.cells #[.string ⟨F.name.toArray⟩, .slice P0 F.init.length d0, .slice P1 F.ths.length d1, .bool F.all, .slice P2 F.cond.length d2] 30)).alloc (.cells #[.string ⟨#[]⟩, .slice none 0 0, .slice none 0 0, .bool false, .slice none 0 0] 30) := ⟨_, rfl⟩
  have HB1 := Lib.hid (show Below w.heap.size w W1 from by rw [hW1]; exact below_al (below_al (Below.refl _ w) _) _)
  have HY1 := Lib.hid (show BoxC W1 w.heap.size 30 #[.string ⟨F.name.toArray⟩, .slice P0 F.init.length d0, .slice P1 F.ths.length d1, .bool F.all, .slice P2 F.cond.length d2] from by rw [hW1]; exact (BoxC.new w _ _).alloc _)
  have HZ1 := Lib.hid (show BoxC W1 (w.heap.size + 1) 30 #[.string ⟨#[]⟩, .slice none 0 0, .slice none 0 0, .bool false, .slice none 0 0] from by
    rw [hW1]; have := BoxC.new (w.alloc (.cells #[.string ⟨F.name.toArray⟩, .slice P0 F.init.length d0, .slice P1 F.ths.length d1, .bool F.all, .slice P2 F.cond.length d2] 30)) 30 #[.string ⟨#[]⟩, .slice none 0 0, .slice none 0 0, .bool false, .slice none 0 0]
    rw [World.size_alloc] at this; exact this)
  have HLO := Lib.hid (linesof_any (B := B) (F := F) (v := .agg #[.string ⟨F.name.toArray⟩, .slice P0 F.init.length d0, .slice P1 F.ths.length d1, .bool F.all, .slice P2 F.cond.length d2]) W1 ⟨_, _, _, rfl, HM.out.below (HB1.out.mono hBB)⟩ (Nat.le_trans hBB HB1.out.size) hl)
  rw [hW1] at HLO
  unfold flv
  clear hl hll hgl hl1 hl2
  go_enter Try.func25, Try.ntmps25
  go_wp2_with fail
  refine HLO.out.mono ?_
  rintro e WW ⟨gm, vs, rfl, hown, hall, hba⟩
  rw [← hW1] at hown hba hall
  have HBA := Lib.hid (hba.mono (Nat.le_trans hBB HB1.out.size))
  have HYW := Lib.hid (HY1.out.below hba HY1.out.lt)
  have HZW := Lib.hid (HZ1.out.below hba HZ1.out.lt)
  have HBW := Lib.hid (chain HB1.out hba)
  have hBWW : B ≤ WW.heap.size := Nat.le_trans hBB HBW.out.size
  have HOW := Lib.hid hown
  have HAL := Lib.hid hall
  have HTH := Lib.hid (fun X (hX : Below WW.heap.size WW X) => show Ths X.heap.size X (.slice (some ⟨gm, 0, none⟩) F.ths.length F.ths.length) F.ths from ths_of_own (own_below HOW.out hX) (Nat.le_refl _) (fun j hj => by
    obtain ⟨u, h1, h2⟩ := HAL.out j hj
    exact ⟨u, h1, ((h2.below HBA.out).below (hX.mono hBWW)).more (Nat.le_trans hBWW hX.size)⟩))
  have HGX := Lib.hid (fun X (hX : Below WW.heap.size WW X) => show Ints X.heap.size X (.slice PG g.length cg) g from ((HG.out.below (HBW.out.mono hBB)).below (hX.mono hBWW)).more (Nat.le_trans hBWW hX.size))
  have HFX := Lib.hid (fun X (hX : Below WW.heap.size WW X) => show FlV X.heap.size X (.agg #[.string ⟨F.name.toArray⟩, .slice P0 F.init.length d0, .slice P1 F.ths.length d1, .bool F.all, .slice P2 F.cond.length d2]) F from ⟨_, _, _, rfl, ((HM.out.below (HBW.out.mono hBB)).below (hX.mono hBWW)).more (Nat.le_trans hBWW hX.size)⟩)
  have HS := Lib.hid (fun X (hX : Below WW.heap.size WW X) => (show X.cell? ⟨w.heap.size, 0, none⟩ = some (.string ⟨F.name.toArray⟩) ∧ X.cell? ⟨w.heap.size, 1, none⟩ = some (.slice P0 F.init.length d0) ∧ X.cell? ⟨w.heap.size, 2, none⟩ = some (.slice P1 F.ths.length d1) ∧ X.cell? ⟨w.heap.size, 3, none⟩ = some (.bool F.all) ∧ X.cell? ⟨w.heap.size, 4, none⟩ = some (.slice P2 F.cond.length d2) from ⟨(HYW.out.below hX HYW.out.lt).cell 0 _ rfl, (HYW.out.below hX HYW.out.lt).cell 1 _ rfl, (HYW.out.below hX HYW.out.lt).cell 2 _ rfl, (HYW.out.below hX HYW.out.lt).cell 3 _ rfl, (HYW.out.below hX HYW.out.lt).cell 4 _ rfl⟩))
  clear hown hall hba HLO hW1
  go_upto_region 2 with fail
  refine wp_region_held_drew (S := (fun w' => w'.cell? ⟨w.heap.size, 0, none⟩ = some (.string ⟨F.name.toArray⟩) ∧ w'.cell? ⟨w.heap.size, 1, none⟩ = some (.slice P0 F.init.length d0) ∧ w'.cell? ⟨w.heap.size, 2, none⟩ = some (.slice P1 F.ths.length d1) ∧ w'.cell? ⟨w.heap.size, 3, none⟩ = some (.bool F.all) ∧ w'.cell? ⟨w.heap.size, 4, none⟩ = some (.slice P2 F.cond.length d2))) (by kernel_rfl) (HS.out _ (below_drewN (Below.refl _ _) 1)) (fun hHeld => ?_)
  obtain ⟨X0, hX0⟩ : ∃ W, W = WW.drew := ⟨_, rfl⟩
  have HLX0 := Lib.hid (show Below WW.heap.size WW X0 from by rw [hX0]; exact below_drewN (Below.refl _ _) 1)
  rw [← hX0] at hHeld ⊢
  clear hX0
  refine wpAnyH_take (i := 0) (v := ?_) rfl (by kernel_rfl) (by kernel_rfl) (by kernel_rfl) (fun _ _ _ h => h) (Or.inl ⟨by rfl, ?_⟩) (by assumption) ?_
  rotate_left
  · intro w hSw; (try dsimp only at hSw); go_simp; (try with_reducible rfl)
  (try simp only [Act.put, List.getElem_toArray, List.getElem_cons_zero, List.getElem_cons_succ, Array.getInternal_eq_getElem, List.setIfInBounds_toArray, List.set_cons_zero, List.set_cons_succ])
  refine wpAnyH_take (i := 1) (v := ?_) rfl (by kernel_rfl) (by kernel_rfl) (by kernel_rfl) (fun _ _ _ h => h) (Or.inl ⟨by rfl, ?_⟩) (by assumption) ?_
  rotate_left
  · intro w hSw; (try dsimp only at hSw); go_simp; (try with_reducible rfl)
  (try simp only [Act.put, List.getElem_toArray, List.getElem_cons_zero, List.getElem_cons_succ, Array.getInternal_eq_getElem, List.setIfInBounds_toArray, List.set_cons_zero, List.set_cons_succ])
  refine wpAnyH_take (i := 2) (v := ?_) rfl (by kernel_rfl) (by kernel_rfl) (by kernel_rfl) (fun _ _ _ h => h) (Or.inl ⟨by rfl, ?_⟩) (by assumption) ?_
  rotate_left
  · intro w hSw; (try dsimp only at hSw); go_simp; (try with_reducible rfl)
  (try simp only [Act.put, List.getElem_toArray, List.getElem_cons_zero, List.getElem_cons_succ, Array.getInternal_eq_getElem, List.setIfInBounds_toArray, List.set_cons_zero, List.set_cons_succ])
  refine wpAnyH_take (i := 3) (v := ?_) rfl (by kernel_rfl) (by kernel_rfl) (by kernel_rfl) (fun _ _ _ h => h) (Or.inl ⟨by rfl, ?_⟩) (by assumption) ?_
  rotate_left
  · intro w hSw; (try dsimp only at hSw); go_simp; (try with_reducible rfl)
  (try simp only [Act.put, List.getElem_toArray, List.getElem_cons_zero, List.getElem_cons_succ, Array.getInternal_eq_getElem, List.setIfInBounds_toArray, List.set_cons_zero, List.set_cons_succ])
  refine wpAnyH_take (i := 5) (v := ?_) rfl (by kernel_rfl) (by kernel_rfl) (by kernel_rfl) (fun _ _ _ h => h) (Or.inl ⟨by rfl, ?_⟩) (by assumption) ?_
  rotate_left
  · intro w hSw; (try dsimp only at hSw); go_simp; (try with_reducible rfl)
  (try simp only [Act.put, List.getElem_toArray, List.getElem_cons_zero, List.getElem_cons_succ, Array.getInternal_eq_getElem, List.setIfInBounds_toArray, List.set_cons_zero, List.set_cons_succ])
  refine wpAnyH_ready (rs := [4]) (by kernel_rfl) (by simp) ?_
  refine AllReadyH.cons rfl (fun K hK => ?_) AllReadyH.nil
  go_simp
  refine (callsIn_wide.1 (chosenl_in Fence.wide 10 trivial trivial trivial trivial trivial trivial rfl (by omega) (g := g) X0 (HTH.out _ HLX0.out) (HGX.out _ HLX0.out) (Nat.le_refl _) HN0.out HLL.out HNG.out)).mono ?_
  rintro e wa ⟨bp, f, rfl, hbp1, hbp2, hmp, hf, hba⟩
  have HLwa := Lib.hid (chain HLX0.out hba)
  have HF := Lib.hid hf
  clear hba hf
  refine hK.out _ _ (HS.out _ HLwa.out) (fun hHeld => ?_)
  clear hK K
  (try simp only [Act.put, List.getElem_toArray, List.getElem_cons_zero, List.getElem_cons_succ, Array.getInternal_eq_getElem, List.setIfInBounds_toArray, List.set_cons_zero, List.set_cons_succ])
  refine wpAnyH_ready (rs := [6]) (by kernel_rfl) (by simp) ?_
  refine AllReadyH.cons rfl (fun K hK => ?_) AllReadyH.nil
  go_simp
  refine (withl_any fenL wa (HTH.out _ HLwa.out) (Nat.le_refl _) hmp hbp1 HN0.out HLL.out).mono ?_
  rintro e wb ⟨gb, vb, rfl, hob, hrb, hba⟩
  rw [rows_fen HF.out] at hrb
  have HLwb := Lib.hid (chain HLwa.out hba)
  have HOB := Lib.hid hob
  have HRB := Lib.hid hrb
  have hszb : w.heap.size + 1 < wa.heap.size := Nat.lt_of_lt_of_le HZW.out.lt HLwa.out.size
  clear hba hob hrb hmp hbp1 hbp2 HF
  refine hK.out _ _ (HS.out _ HLwb.out) (fun hHeld => ?_)
  clear hK K
  (try simp only [Act.put, List.getElem_toArray, List.getElem_cons_zero, List.getElem_cons_succ, Array.getInternal_eq_getElem, List.setIfInBounds_toArray, List.set_cons_zero, List.set_cons_succ])
  refine wpAnyH_ready (rs := [7]) (by kernel_rfl) (by simp) ?_
  refine AllReadyH.cons rfl (fun K hK => ?_) AllReadyH.nil
  go_simp
  refine (having_any (H := fun k => k = w.heap.size + 1) (F := F) (ts := fzs hasS fenL g F.ths) wb (HFX.out _ HLwb.out) (ths_rows HOB.out HRB.out (fzs_len hasS fenL g F.ths)) (Nat.le_refl _) (by rw [fzs_len]; exact HN0.out) HN1.out HN2.out (fun k hk => by subst hk; exact Nat.lt_of_lt_of_le HZW.out.lt HLwb.out.size) (rows_off HOB.out HRB.out (fzs_len hasS fenL g F.ths) (fun k hk => by subst hk; exact hszb))).mono ?_
  rintro e wc ⟨uc, rfl, hfu, hba⟩
  have HLwc := Lib.hid (chain HLwb.out hba)
  have HFU := Lib.hid hfu
  clear hba hfu hszb
  refine hK.out _ _ (HS.out _ HLwc.out) (fun hHeld => ?_)
  clear hK K
  (try simp only [Act.put, List.getElem_toArray, List.getElem_cons_zero, List.getElem_cons_succ, Array.getInternal_eq_getElem, List.setIfInBounds_toArray, List.set_cons_zero, List.set_cons_succ])
  refine wpAnyH_ready (rs := [8]) (by kernel_rfl) (by simp) ?_
  refine AllReadyH.cons rfl (fun K hK => ?_) AllReadyH.nil
  obtain ⟨E, hE⟩ : ∃ E, E = withT F (fzs hasS fenL g F.ths) := ⟨_, rfl⟩
  rw [← hE] at HFU
  have HE := Lib.hid hE
  clear hE
  obtain ⟨vi3, vt3, vc3, rfl, ⟨A3, c3, rfl, -⟩, ⟨A4, c4, rfl, -⟩, ⟨A5, c5, rfl, -⟩⟩ := HFU.out _ (Off.refl _ _)
  unfold flv
  have z0 := (HZW.out.below HLwc.out HZW.out.lt).cell 0 _ rfl
  have z1 := (HZW.out.below HLwc.out HZW.out.lt).cell 1 _ rfl
  have z2 := (HZW.out.below HLwc.out HZW.out.lt).cell 2 _ rfl
  have z3 := (HZW.out.below HLwc.out HZW.out.lt).cell 3 _ rfl
  have z4 := (HZW.out.below HLwc.out HZW.out.lt).cell 4 _ rfl
  have g0 := (HZW.out.below HLwc.out HZW.out.lt).frozen 0
  have g1 := (HZW.out.below HLwc.out HZW.out.lt).frozen 1
  have g2 := (HZW.out.below HLwc.out HZW.out.lt).frozen 2
  have g3 := (HZW.out.below HLwc.out HZW.out.lt).frozen 3
  have g4 := (HZW.out.below HLwc.out HZW.out.lt).frozen 4
  go_simp
  have HY9 := Lib.hid ((HYW.out.below HLwc.out HYW.out.lt).other5 (g := w.heap.size + 1) (by omega) (.string ⟨E.name.toArray⟩) (.slice A3 E.init.length c3) (.slice A4 E.ths.length c4) (.bool E.all) (.slice A5 E.cond.length c5))
  have HZ9 := Lib.hid ((HZW.out.below HLwc.out HZW.out.lt).set5 (.string ⟨E.name.toArray⟩) (.slice A3 E.init.length c3) (.slice A4 E.ths.length c4) (.bool E.all) (.slice A5 E.cond.length c5))
  have HB9 := Lib.hid (below5 (g := w.heap.size + 1) (chain HBW.out HLwc.out) (by omega) (.string ⟨E.name.toArray⟩) (.slice A3 E.init.length c3) (.slice A4 E.ths.length c4) (.bool E.all) (.slice A5 E.cond.length c5))
  have HF9 := Lib.hid (HFU.out _ (Off.set5 (H := fun k => k = w.heap.size + 1) (Off.refl _ wc) (g := w.heap.size + 1) rfl (.string ⟨E.name.toArray⟩) (.slice A3 E.init.length c3) (.slice A4 E.ths.length c4) (.bool E.all) (.slice A5 E.cond.length c5)))
  refine hK.out _ _ ⟨HY9.out.cell 0 _ rfl, HY9.out.cell 1 _ rfl, HY9.out.cell 2 _ rfl, HY9.out.cell 3 _ rfl, HY9.out.cell 4 _ rfl⟩ (fun hHeld => ?_)
  clear hK K
  (try simp only [Act.put, List.getElem_toArray, List.getElem_cons_zero, List.getElem_cons_succ, Array.getInternal_eq_getElem, List.setIfInBounds_toArray, List.set_cons_zero, List.set_cons_succ])
  clear z0 z1 z2 z3 z4 g0 g1 g2 g3 g4
  refine wpAnyH_done (by kernel_rfl) ?_ _
  have hz : Try.prog.cellsOf 30 = 5 := by kernel_rfl
  have e0 := HZ9.out.cell 0 _ rfl
  have e1 := HZ9.out.cell 1 _ rfl
  have e2 := HZ9.out.cell 2 _ rfl
  have e3 := HZ9.out.cell 3 _ rfl
  have e4 := HZ9.out.cell 4 _ rfl
  clear hHeld
  go_wp2_with fail
  refine bodyPost_ret (v := .agg #[.string ⟨E.name.toArray⟩, .slice A3 E.init.length c3, .slice A4 E.ths.length c4, .bool E.all, .slice A5 E.cond.length c5]) (by simp [results, Try.results25, go_sem, e0, e1, e2, e3, e4, hz]) rfl ?_
  exact ⟨_, rfl, by have := HF9.out; rw [HE.out] at this ⊢; exact this, HB9.out⟩

end Go.Proofs.Ytaelfjphgdlbcaa
namespace Go.Proofs.Ytaelfjphgdlbcaa
open Go.RowKit Go.Shelf
set_option linter.unusedVariables false
set_option linter.unusedSimpArgs false
attribute [local go_sem] Oper.semAt_some
open CodM (hasS)
open OpsM (Ln)
open SlM

def fI (f : List (Nat × Nat)) (i j : Int) : Bool := f.any fun y => decide (i = (y.1 : Int)) && decide (j = (y.2 : Int))
theorem fI_snoc (f : List (Nat × Nat)) (t k : Nat) : (fun i j => fI f i j || (decide (i = (t : Int)) && decide (j = (k : Int)))) = fI (f ++ [(t, k)]) := by
  funext i j; unfold fI; rw [List.any_append]; simp
theorem fI_mem (f : List (Nat × Nat)) (t k : Nat) : fI f (t : Int) (k : Int) = decide ((t, k) ∈ f) := by
  rw [Bool.eq_iff_iff, decide_eq_true_eq]
  unfold fI
  rw [List.any_eq_true]
  constructor
  · rintro ⟨⟨a, b⟩, h, e⟩
    simp only [Bool.and_eq_true, decide_eq_true_eq] at e
    have e1 : t = a := by omega
    have e2 : k = b := by omega
    subst e1; subst e2; exact h
  · intro h; exact ⟨_, h, by simp⟩
set_option maxRecDepth 100000 in
set_option maxHeartbeats 2000000 in
theorem laidl_in (F : Fence) (n : Nat) (h39 : F.fn 39) (h44 : F.fn 63) (h62 : F.fn 62) (h34 : F.fn 64) (h59 : F.fn 73) (h35 : F.fn 40) (hro : F.round = none) (hn : 6 ≤ n) {B : Nat} {v vg : Value} {ths : List (List Ln)} {g : List Int} (w : World)
    (hv : Ths B w v ths) (hg : Ints B w vg g) (hBB : B ≤ w.heap.size) (hl : ths.length ≤ 1000000) (hll : ∀ ss ∈ ths, ss.length ≤ 1000000) (hgl : g.length ≤ 1000000) :
    CallsIn F n Try.prog 39 #[v, .func (.func 40) #[] #[], vg] w fun e w' => ∃ b f, e = .returned (.map (some b)) ∧ b < w'.heap.size ∧ w.heap.size ≤ b ∧ MapP w' b (many hasS ths) f ∧ (∀ t k (ht : t < ths.length), k < ths[t].length → f (t : Nat) (k : Nat) = lc hasS g ths t k) ∧ Below w.heap.size w w' := by
  have h1 : 1 ≤ n := by omega
  have hmm := @run_makeMap Try.prog
  have HV := Lib.hid hv
  have HLL := Lib.hid hll
  have HG := Lib.hid hg
  have hM : many hasS ths ≤ 1000000000000 := many_le hasS (M := 1000000) (N := 1000000) ths hl hll
  obtain ⟨A, c, rfl, hc1, hc2, -⟩ := hv
  obtain ⟨A', c', rfl, hc1', hc2', -⟩ := hg
  refine callsIn_of_wp_marks Try.func39 rfl h39 ?_ hro
  simp only [Try.ntmps39, List.size_toArray, List.length_cons, List.length_nil, Nat.reduceAdd, Nat.reduceSub, Array.replicate_succ, Array.replicate_zero, List.push_toArray, List.append_toArray, List.nil_append, List.cons_append]
  gi_wp2_with (first
    | (gi_at_call 63; refine (countl_in F (n - 1) h44 h34 h59 h35 hro (by omega) _ HV.out hBB hl HLL.out).mono ?_; rintro e w1 ⟨rfl, hB1⟩; have hz1 := hB1.size)
    | (gi_at_call 62; refine (keys_in F (n - 1) h62 hro (many hasS ths) _ (HG.out.below (hB1.mono hBB)) (Nat.le_trans hBB hB1.size) hM hgl).mono ?_; rintro e w2 ⟨rfl, hK2, hB2⟩; have hz2 := hB2.size)
    | (gi_at_call 64; refine (alll_in F (n - 1) h34 hro _ _ _ _).mono ?_; rintro e w' ⟨rfl, rfl⟩))
  obtain ⟨M, hMe⟩ : ∃ M, M = many hasS ths := ⟨_, rfl⟩
  obtain ⟨W0, hW0⟩ : ∃ W0, W0 = ((((w2.alloc (.map #[] 0)).alloc (.cells #[.map (some w1.heap.size)] 101)).alloc (.cells #[.map (some w2.heap.size)] 76)).alloc (.cells #[.int .i64 0] 3)).alloc (.cells #[.bool false] 4) := ⟨_, rfl⟩
  have hs0 : W0.heap.size = w2.heap.size + 1 + 1 + 1 + 1 + 1 := by rw [hW0]; simp
  have b7 : Boxed W0 (w2.heap.size + 1) 101 (.map (some w1.heap.size)) := by
    have := (((Boxed.new (w2.alloc (.map #[] 0)) 101 (.map (some w1.heap.size))).alloc (.cells #[.map (some w2.heap.size)] 76)).alloc (.cells #[.int .i64 0] 3)).alloc (.cells #[.bool false] 4)
    rw [World.size_alloc] at this; rw [hW0]; exact this
  have b8 : Boxed W0 (w2.heap.size + 1 + 1) 76 (.map (some w2.heap.size)) := by
    have := ((Boxed.new ((w2.alloc (.map #[] 0)).alloc (.cells #[.map (some w1.heap.size)] 101)) 76 (.map (some w2.heap.size))).alloc (.cells #[.int .i64 0] 3)).alloc (.cells #[.bool false] 4)
    rw [World.size_alloc, World.size_alloc] at this; rw [hW0]; exact this
  have b9 : Boxed W0 (w2.heap.size + 1 + 1 + 1) 3 (.int .i64 0) := by
    have := (Boxed.new (((w2.alloc (.map #[] 0)).alloc (.cells #[.map (some w1.heap.size)] 101)).alloc (.cells #[.map (some w2.heap.size)] 76)) 3 (.int .i64 0)).alloc (.cells #[.bool false] 4)
    rw [World.size_alloc, World.size_alloc, World.size_alloc] at this; rw [hW0]; exact this
  have b10 : Boxed W0 (w2.heap.size + 1 + 1 + 1 + 1) 4 (.bool false) := by
    have := Boxed.new ((((w2.alloc (.map #[] 0)).alloc (.cells #[.map (some w1.heap.size)] 101)).alloc (.cells #[.map (some w2.heap.size)] 76)).alloc (.cells #[.int .i64 0] 3)) 4 (.bool false)
    rw [World.size_alloc, World.size_alloc, World.size_alloc, World.size_alloc] at this; rw [hW0]; exact this
  have hbk := hK2.lt
  have hI0 : MapI W0 w1.heap.size g.length (keyB g M) := by
    rw [hW0, hMe]
    exact ((((hK2.kept (World.grownBy_alloc _ _ none) (by simp)).kept (World.grownBy_alloc _ _ none) (by simp)).kept (World.grownBy_alloc _ _ none) (by simp)).kept (World.grownBy_alloc _ _ none) (by simp)).kept (World.grownBy_alloc _ _ none) (by simp)
  have hP0 : MapP W0 w2.heap.size 0 (fI []) := by
    rw [hW0]
    exact ((((MapP.made w2).kept (World.grownBy_alloc _ _ none) (by simp)).kept (World.grownBy_alloc _ _ none) (by simp)).kept (World.grownBy_alloc _ _ none) (by simp)).kept (World.grownBy_alloc _ _ none) (by simp)
  have hB0 : Below w.heap.size w W0 := by
    rw [hW0]
    exact (((((hB1.trans (hB2.mono hz1)).alloc (by omega) _).alloc (by simp; omega) _).alloc (by simp; omega) _).alloc (by simp; omega) _).alloc (by simp; omega) _
  rw [← hW0]
  obtain ⟨bt, bs, hb2⟩ := alls_boxes W0 (.slice A ths.length c) (.func (.func 40) #[] #[]) 72 65
  have b7' := (b7.alloc (.cells #[.slice A ths.length c] 72)).alloc (.cells #[.func (.func 40) #[] #[]] 65)
  have b8' := (b8.alloc (.cells #[.slice A ths.length c] 72)).alloc (.cells #[.func (.func 40) #[] #[]] 65)
  have b9' := (b9.alloc (.cells #[.slice A ths.length c] 72)).alloc (.cells #[.func (.func 40) #[] #[]] 65)
  have b10' := (b10.alloc (.cells #[.slice A ths.length c] 72)).alloc (.cells #[.func (.func 40) #[] #[]] 65)
  have hI0' := (hI0.kept (World.grownBy_alloc _ (.cells #[.slice A ths.length c] 72) none) (by simp)).kept (World.grownBy_alloc _ (.cells #[.func (.func 40) #[] #[]] 65) none) (by simp)
  have hP0' := (hP0.kept (World.grownBy_alloc _ (.cells #[.slice A ths.length c] 72) none) (by simp)).kept (World.grownBy_alloc _ (.cells #[.func (.func 40) #[] #[]] 65) none) (by simp)
  have hB := hB0.trans (hb2.mono hB0.size)
  clear b7 b8 b9 b10 hW0 hI0 hP0
  rw [← hs0]
  refine wpIn_rangeFunc_ownH hro h1 (gf := 73) (lb := #[.pointer (some ⟨W0.heap.size, 0, none⟩), .pointer (some ⟨W0.heap.size + 1, 0, none⟩)]) rfl h59 (enters_of Try.func73 (by kernel_rfl) rfl)
    (alll_stops F (n - 1) h59 h35 hro (by omega) w.heap.size _ _ _ ths _ (by simp; omega) bt bs ((HV.out.more hBB).below hB) hl HLL.out) KpS.t (KpS.b (by simp; omega)) (Below.refl _ _) (fun _ => rfl)
    (fun pre W => (Boxed W (w2.heap.size + 1) 101 (.map (some w1.heap.size)) ∧ Boxed W (w2.heap.size + 1 + 1) 76 (.map (some w2.heap.size)) ∧ Boxed W (w2.heap.size + 1 + 1 + 1) 3 (.int .i64 ((ldP g (pre.map Subtype.val)).next : Nat)) ∧ Boxed W (w2.heap.size + 1 + 1 + 1 + 1) 4 (.bool (ldP g (pre.map Subtype.val)).beh)) ∧ (MapI W w1.heap.size g.length (keyB g M) ∧ MapP W w2.heap.size pre.length (fI (ldP g (pre.map Subtype.val)).f)) ∧ Below w.heap.size w W)
    (fun _ _ _ => False)
    (OwnFrom.and (OwnFrom.and (Own.from (boxed_own _ _ (fun _ : List Sq => .map (some w1.heap.size))) _) (OwnFrom.and (Own.from (boxed_own _ _ (fun _ : List Sq => .map (some w2.heap.size))) _) (OwnFrom.and (Own.from (boxed_own _ _ (fun pre : List Sq => .int .i64 ((ldP g (pre.map Subtype.val)).next : Nat))) _) (Own.from (boxed_own _ _ (fun pre : List Sq => .bool (ldP g (pre.map Subtype.val)).beh)) _)))) (OwnFrom.and (fun s A B row hs hg hr => ⟨hs.1.kept hg (fun e => by have := (hr _ e.symm).1; simp at this; omega), hs.2.kept hg (fun e => by have := (hr _ e.symm).1; simp at this; omega)⟩) (ownFrom_below (Nat.le_refl _) (by simp; omega))))
    (fun _ _ _ _ _ hs _ _ => hs)
    ⟨⟨b7', b8', b9', b10'⟩, ⟨hI0', hP0'⟩, hB⟩
    (fun x a' W => ∃ Bx, w2.heap.size + 1 + 1 + 1 + 1 < Bx ∧ Box2 W Bx 71 (.int .i64 (x.1.t : Int)) (.int .i64 (x.1.k : Int)) ∧ a' = { tmps := #[.slice A ths.length c, .func (.func 40) #[] #[], .slice A' g.length c', undef, undef, undef, .map none, .pointer (some ⟨w2.heap.size + 1, 0, none⟩), .pointer (some ⟨w2.heap.size + 1 + 1, 0, none⟩), .pointer (some ⟨w2.heap.size + 1 + 1 + 1, 0, none⟩), .pointer (some ⟨w2.heap.size + 1 + 1 + 1 + 1, 0, none⟩), undef, .pointer (some ⟨Bx, 0, none⟩), .slice A' g.length c', .slice A ths.length c, .func (.func 40) #[] #[], .int .i64 (many hasS ths : Nat), .map (some w1.heap.size), .map (some w2.heap.size), .slice A ths.length c, .func (.func 40) #[] #[], .func (.func 73) #[] #[.pointer (some ⟨W0.heap.size, 0, none⟩), .pointer (some ⟨W0.heap.size + 1, 0, none⟩)], .int .i64 (x.1.n : Int), .agg #[.int .i64 (x.1.t : Int), .int .i64 (x.1.k : Int)], undef, undef, undef, undef, undef, undef, undef, undef, undef, undef, undef, undef, undef], defers := [] })
    (fun x a' s A B row hs hg hr => by obtain ⟨Bx, h1, h2, h3⟩ := hs; exact ⟨Bx, h1, (box2_own (β := Unit) Bx _ _ _) () A B row h2 hg (fun r e => (hr r e).2), h3⟩)
    ?assign ?body ?done ?stop
  case assign =>
    rintro l pre x W K ⟨⟨h1, h2, h5, h6⟩, ⟨h3, h4⟩, hB⟩ hK
    dsimp only [encs]
    gi_wp2
    exact hK _ _ ((KeepsOthers.alloc _ _).from _) (KpS.grown hB.size (World.grownBy_alloc _ _ none) (fun r e => by cases e)) ⟨⟨h1.alloc _, h2.alloc _, h5.alloc _, h6.alloc _⟩, ⟨h3.kept (World.grownBy_alloc _ _ none) (by simp), h4.kept (World.grownBy_alloc _ _ none) (by simp)⟩, hB.alloc hB.size _⟩ ⟨W.heap.size, h6.lt, Box2.new W _ _ _, by simp⟩
  case body =>
    rintro l pre x a' W hll ⟨r, hr⟩ ⟨⟨h1, h2, h5, h6⟩, ⟨h3, h4⟩, hB⟩ ⟨Bx, hBx, hx, rfl⟩ hlt
    have c1 := h1.cell
    have c2 := h2.cell
    have hnext : ldP g ((pre ++ [x]).map Subtype.val) = ldS g (ldP g (pre.map Subtype.val)) x.1 := by rw [List.map_append]; exact ldP_snoc g _ x.1
    have hnx : (ldP g (pre.map Subtype.val)).next < M := by have := ldP_le g (pre.map Subtype.val); rw [List.length_map] at this; omega
    have HN := Lib.hid hnext
    generalize ldP g (pre.map Subtype.val) = s at *
    obtain ⟨nx, bh, f⟩ := s
    simp only at h5 h6 h4 hnx
    have c5 := h5.cell
    have c6 := h6.cell
    have f5 := h5.frozen
    have f6 := h6.frozen
    have x0 := hx.cell0
    have x1 := hx.cell1
    have wn : (Lit.int .i64 (nx : Int)).wf = true := wf_small (by omega)
    have wt := wf_small x.2.2.1
    have wk := wf_small x.2.2.2
    have hlt' : pre.length < maxLen := by unfold maxLen; omega
    have hkb : keyB g M (nx : Int) = has g (nx : Int) := by unfold keyB; simp; omega
    clear hnext
    have HS0 := Lib.hid hs0
    clear hs0
    have hbb : w2.heap.size + 1 + 1 + 1 + 1 < W0.heap.size := by have := HS0.out; omega
    have g5 := (h5.other (B' := w2.heap.size + 1 + 1 + 1 + 1) (by omega) (.bool false)).set (.int .i64 ((nx : Int) + 1))
    have g6 := (h6.set (.bool false)).other (B' := w2.heap.size + 1 + 1 + 1) (by omega) (.int .i64 ((nx : Int) + 1))
    have g1 := (h1.other (B' := w2.heap.size + 1 + 1 + 1 + 1) (by omega) (.bool false)).other (B' := w2.heap.size + 1 + 1 + 1) (by omega) (.int .i64 ((nx : Int) + 1))
    have g2 := (h2.other (B' := w2.heap.size + 1 + 1 + 1 + 1) (by omega) (.bool false)).other (B' := w2.heap.size + 1 + 1 + 1) (by omega) (.int .i64 ((nx : Int) + 1))
    have gS : ∀ v, W.grownBy (W.setCell ⟨w2.heap.size + 1 + 1 + 1 + 1, 0, none⟩ v) (some (w2.heap.size + 1 + 1 + 1 + 1)) := fun v => grownBy_setCell' W _ v
    have gT : ∀ v u, (W.setCell ⟨w2.heap.size + 1 + 1 + 1 + 1, 0, none⟩ v).grownBy ((W.setCell ⟨w2.heap.size + 1 + 1 + 1 + 1, 0, none⟩ v).setCell ⟨w2.heap.size + 1 + 1 + 1, 0, none⟩ u) (some (w2.heap.size + 1 + 1 + 1)) := fun v u => grownBy_setCell' _ _ u
    have hbk' := h3.lt
    have g3 := (h3.kept (gS (.bool false)) (fun e => by injection e with e; omega)).kept (gT (.bool false) (.int .i64 ((nx : Int) + 1))) (fun e => by injection e with e; omega)
    have g4 := ((h4.kept (gS (.bool false)) (fun e => by injection e with e; omega)).kept (gT (.bool false) (.int .i64 ((nx : Int) + 1))) (fun e => by injection e with e; omega)).mono (Nat.le_succ _)
    have hBg := (hB.grown (gS (.bool false)) hB.size (fun r e => by cases e; omega)).grown (gT (.bool false) (.int .i64 ((nx : Int) + 1))) (Nat.le_trans hB.size (gS _).size) (fun r e => by cases e; omega)
    have hKg : KpS w.heap.size (W0.heap.size + 1) W ((W.setCell ⟨w2.heap.size + 1 + 1 + 1 + 1, 0, none⟩ (.bool false)).setCell ⟨w2.heap.size + 1 + 1 + 1, 0, none⟩ (.int .i64 ((nx : Int) + 1))) :=
      (KpS.grown hB.size (gS _) (fun r e => by cases e; exact ⟨by omega, by omega⟩)).t (KpS.grown (Nat.le_trans hB.size (gS _).size) (gT _ _) (fun r e => by cases e; exact ⟨by omega, by omega⟩))
    have hlen : (pre ++ [x]).length = pre.length + 1 := by simp
    cases hh : has g (nx : Int)
    · have e1 := Lib.hid (HN.out.trans (show ldS g ⟨nx, bh, f⟩ x.1 = ⟨nx + 1, false, f⟩ by simp [ldS, hh]))
      gi_wp2_with (gi_at_lookup; refine in_mapI _ rfl _ _ rfl w1.heap.size g.length _ rfl h3 (nx : Int) rfl wn ?_; rw [hkb, hh])
      exact ⟨((KeepsOthers.setCell _ _ _).trans (KeepsOthers.setCell _ _ _)).from _, hKg, ⟨g1, g2, by rw [e1.out]; exact g5, by rw [e1.out]; exact g6⟩, ⟨g3, by rw [e1.out, hlen]; exact g4⟩, hBg⟩
    · cases bh
      · have e1 := Lib.hid (HN.out.trans (show ldS g ⟨nx, false, f⟩ x.1 = ⟨nx, true, f ++ [(x.1.t, x.1.k)]⟩ by simp [ldS, hh]))
        gi_wp2_with (first
          | (gi_at_lookup; refine in_mapI _ rfl _ _ rfl w1.heap.size g.length _ rfl h3 (nx : Int) rfl wn ?_; rw [hkb, hh])
          | (gi_at_mapUpdate; refine in_putP _ rfl _ _ _ rfl w2.heap.size pre.length _ rfl (h4.kept (gS (.bool true)) (fun e => by injection e with e; omega)) hlt' (x.1.t : Int) (x.1.k : Int) rfl rfl wt wk ?_; intro w3 hP3 hg3))
        have hS6 := h6.set (.bool true)
        have hS5 := h5.other (B' := w2.heap.size + 1 + 1 + 1 + 1) (by omega) (.bool true)
        have hS1 := h1.other (B' := w2.heap.size + 1 + 1 + 1 + 1) (by omega) (.bool true)
        have hS2 := h2.other (B' := w2.heap.size + 1 + 1 + 1 + 1) (by omega) (.bool true)
        have hS3 := h3.kept (gS (.bool true)) (fun e => by injection e with e; omega)
        refine ⟨(KeepsOthers.setCell _ _ _).from _ |>.trans (KeepsFrom.of_grownBy hg3 (fun j e => by cases e; simp; omega)), (KpS.grown hB.size (gS _) (fun r e => by cases e; exact ⟨by omega, by omega⟩)).t (KpS.grown (Nat.le_trans hB.size (gS _).size) hg3 (fun r e => by cases e; exact ⟨by omega, by omega⟩)), ⟨hS1.kept hg3 (fun e => by injection e with e; omega), hS2.kept hg3 (fun e => by injection e with e; omega), by rw [e1.out]; exact hS5.kept hg3 (fun e => by injection e with e; omega), by rw [e1.out]; exact hS6.kept hg3 (fun e => by injection e with e; omega)⟩, ⟨hS3.kept hg3 (fun e => by injection e with e; omega), ?_⟩, (hB.grown (gS (.bool true)) hB.size (fun r e => by cases e; omega)).grown hg3 (Nat.le_trans hB.size (gS _).size) (fun r e => by cases e; omega)⟩
        rw [e1.out, hlen, ← fI_snoc]; exact hP3
      · have e1 := Lib.hid (HN.out.trans (show ldS g ⟨nx, true, f⟩ x.1 = ⟨nx + 1, false, f⟩ by simp [ldS, hh]))
        gi_wp2_with (gi_at_lookup; refine in_mapI _ rfl _ _ rfl w1.heap.size g.length _ rfl h3 (nx : Int) rfl wn ?_; rw [hkb, hh])
        exact ⟨((KeepsOthers.setCell _ _ _).trans (KeepsOthers.setCell _ _ _)).from _, hKg, ⟨g1, g2, by rw [e1.out]; exact g5, by rw [e1.out]; exact g6⟩, ⟨g3, by rw [e1.out, hlen]; exact g4⟩, hBg⟩
  case done =>
    rintro D ys W hD hys ⟨⟨h1, h2, h5, h6⟩, ⟨h3, h4⟩, hB⟩ hK
    have c2 := h2.cell
    have hbp := h4.lt
    have hDs : W0.heap.size ≤ D := by simp at hD; omega
    gi_wp2
    refine ⟨by simp, .inl ⟨_, _, rfl, run_takeDeferred hK, ?_⟩⟩
    refine ⟨_, results_tmp rfl _ _ _, w2.heap.size, fI (ldP g (ys.map Subtype.val)).f, rfl, ?_, by omega, ?_, ?_, ?_⟩
    · exact Nat.lt_of_lt_of_le hbp (grownBy_putObj' W D (.deferred none)).size
    · have := h4.kept (grownBy_putObj' W D (.deferred none)) (fun e => by injection e with e; omega)
      rw [sq_len hys, pls_len] at this; exact this
    · intro t k ht hk
      rw [fI_mem, hys]; exact ld_end hasS g ths ht hk
    · exact hB.trans (belowK_b (w := w) (Nat.le_refl _) W D _ _ (by omega) hK rfl rfl)
  case stop =>
    rintro D cc pre W _ _ h _
    exact h.elim
end Go.Proofs.Ytaelfjphgdlbcaa
