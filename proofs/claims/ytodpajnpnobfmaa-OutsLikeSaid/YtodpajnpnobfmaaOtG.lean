/-
  ENDS: slices.Insert of one end into a row that is full.
-/
import Derived.Test.YtodpajnpnobfmaaOtF
import Derived.Lib.AppendZerosOnto
import Derived.Laws.IdiomCopy
import Derived.Shelf.RegionOpenPlain
namespace Go.Proofs.Ytodpajnpnobfmaa
open Go Go.RowKit Go.Deep
set_option linter.unusedVariables false
set_option linter.unusedSimpArgs false
open OtM

theorem run_copy_at {P : Program} (w : World) (dT sT ty elem : TypeId) (b o dLen dCap : Nat) (a : Addr) (sLen sCap s : Nat) (cs : List Value)
    (hu : P.underlying dT = some (.slice elem)) (hs : (P.info? elem).map (·.size) = some s) (hn : cs.length = Nat.min sLen dLen * s)
    (hsrc : ∀ j v, cs[j]? = some v → w.cell? (a.add j) = some v) (hc : ∀ j, j < cs.length → (w.cell? ⟨b, o + j, none⟩).isSome = true) (hf : ∀ j, j < cs.length → w.frozen? ⟨b, o + j, none⟩ = false) (h1 : ∀ v ∈ cs, v.oneCell' = true) :
    (Builtin.copy_ #[dT, sT] ty #[.slice (some ⟨b, o, none⟩) dLen dCap, .slice (some a) sLen sCap]).run P w = .ok (goInt (Nat.min sLen dLen)) (w.setCells b o cs) := by
  have hl := run_loadCells_list (P := P) w a cs hsrc
  have hst := run_storeCells_cells (P := P) b o cs 0 w (by simpa using hc) (by simpa using hf) h1
  cases hq : P.info? elem with
  | none => simp [hq] at hs
  | some i =>
    have hi : i.size = s := by simpa [hq] using hs
    simp [Builtin.copy_, run_underlying hu, Builtin.lenOf, Builtin.firstCells, sizeOf, typeInfo, hq, hi, ← hn, hl, hst]
theorem wp_copy_run {P : Program} (w : World) {o : Oper} {a : Act} {K : Act → World → Prop} {Q : Exit → Act → World → Prop} (d s : Operand) (t t' : TypeId)
    (ho : o.op = .call { callee := .builtin .copy, args := #[d, s], argTypes := #[t, t'] }) (v u : Value) (hd : a.eval d = v) (hs : a.eval s = u) {v' : Value} {w' : World}
    (hr : (Builtin.copy_ #[t, t'] o.type #[v, u]).run P w = .ok v' w') (h : K (a.put o.dst v') w') : o.wp P a w K Q := by
  unfold Oper.wp
  simp [execOp, ho, resolve, invoke, builtin, hd, hs, hr, Result.andThen]
  exact h
theorem wpList_copy_run {P : Program} (w : World) {ops : Array Oper} {rest : List Oper} {o : Oper} {a : Act} {Q : Exit → Act → World → Prop} (hgd : o.guard = none) (d s : Operand) (t t' : TypeId)
    (ho : o.op = .call { callee := .builtin .copy, args := #[d, s], argTypes := #[t, t'] }) (v u : Value) (hd : a.eval d = v) (hs : a.eval s = u) {v' : Value} {w' : World}
    (hr : (Builtin.copy_ #[t, t'] o.type #[v, u]).run P w = .ok v' w') (h : wpList P ops Q rest (a.put o.dst v') w') : wpList P ops Q (o :: rest) a w :=
  wpList_plain hgd fun _ hK => wp_copy_run w d s t t' ho v u hd hs hr (hK _ _ h)
theorem step_copy_run {P : Program} {ops : Array Oper} {o : Oper} {a : Act} {w : World} {K : Act → World → Prop} {Q : Exit → Act → World → Prop} {E : Prop}
    (hg : o.guard = none) (d x : Operand) (dT sT : TypeId) (hop : o.op = Op.call { callee := Callee.builtin Builtin.copy, args := #[d, x], argTypes := #[dT, sT] })
    (v u : Value) (hd : a.eval d = v) (hx : a.eval x = u) {v' : Value} {w' : World} (hr : (Builtin.copy_ #[dT, sT] o.type #[v, u]).run P w = .ok v' w') (hK : K (a.put o.dst v') w') :
    if Region.wanted o (yielded ops a.tmps) = true then Oper.wp P o a w K Q else E := by
  have hw : Region.wanted o (yielded ops a.tmps) = true := by simp [Region.wanted, hg]
  rw [if_pos hw]
  exact wp_copy_run w d x dT sT hop v u hd hx hr hK
/-- A run of stores into a row of the call's own. -/
theorem own_setCells {base e size g n cap : Nat} : ∀ (vs a b : List Value) (w : World), w.ownsRow base e size (.slice (some ⟨g, 0, none⟩) n cap) n (a ++ b) → vs.length ≤ b.length →
    (w.setCells g a.length vs).ownsRow base e size (.slice (some ⟨g, 0, none⟩) n cap) n (a ++ (vs ++ b.drop vs.length))
  | [], a, b, w, h, _ => by simpa [World.setCells] using h
  | v :: r, a, [], w, h, hl => absurd hl (by simp)
  | v :: r, a, x :: b, w, h, hl => by
    have h1 := (h.stored a.length v).1
    rw [List.set_append_right _ _ (Nat.le_refl _), Nat.sub_self, List.set_cons_zero, show a ++ v :: b = (a ++ [v]) ++ b from by simp] at h1
    have h2 := own_setCells r (a ++ [v]) b _ h1 (by simpa using hl)
    rw [World.setCells]
    rw [List.length_append, List.length_singleton] at h2
    simpa using h2
theorem grownBy_setCells {g : Nat} : ∀ (vs : List Value) (o : Nat) (w : World), Below g w (w.setCells g o vs) ∧ (w.setCells g o vs).heap.size = w.heap.size
  | [], _, w => ⟨Below.refl _ _, rfl⟩
  | v :: r, o, w => by
    obtain ⟨h1, h2⟩ := grownBy_setCells (g := g) r (o + 1) (w.setCell ⟨g, o, none⟩ v)
    rw [World.setCells]
    refine ⟨((Below.refl _ _).setCell (p := ⟨g, o, none⟩) (Nat.le_refl _) v).trans h1, h2.trans ?_⟩
    simp [World.setCell]
theorem cap_63 (w : World) (n c : Nat) (e : TypeId) (h : n ≤ 2000000) : grownCap w n c e ≤ maxLen := grownCap_le_maxLen w n c e (by unfold maxLen; omega)
def InsRet (b g0 n : Nat) (zs : List OV) (w : World) (e : Ending) (w' : World) : Prop := ∃ u, e = .returned u ∧ w'.ownsRow b 24 2 u (n + 1) (zs.flatMap ovC) ∧ w.grownBy w' (some g0)
set_option maxHeartbeats 8000000 in
set_option maxRecDepth 100000 in
theorem insert_end {b g0 n gc : Nat} {ys : List OV} {x : OV} (w : World) (ho : w.ownsRow b 24 2 (.slice (some ⟨g0, 0, none⟩) n n) n (ys.flatMap ovC)) (hn : n ≤ 1000000) (hb : b ≤ w.heap.size)
    (hc : ∀ j u, [x.m, x.r][j]? = some u → w.cell? ((⟨gc, 0, none⟩ : Addr).add j) = some u) (h1 : ∀ u ∈ [x.m, x.r], u.oneCell' = true) :
    Calls Try.prog 34 #[.slice (some ⟨g0, 0, none⟩) n n, .int .i64 n, .slice (some ⟨gc, 0, none⟩) 1 1] w (InsRet b g0 n (ys ++ [x]) w) := by
  obtain ⟨i0, hi0, hz0, hz1, hz2⟩ := info_parts info_out
  have HO := Lib.hid ho
  have HCC := Lib.hid hc
  have H1 := Lib.hid h1
  clear ho hc h1
  go_enter Try.func34, Try.ntmps34
  go_wp2_with (at_builtin; refine wpList_append_own _ rfl _ _ 25 rfl b 24 i0 (.agg #[.slice none 0 0, .slice none 0 0]) 2 48 Try.underlying25 hi0 hz0 hz1 hz2 rfl (by decide) _ n (ys.flatMap ovC) rfl HO.out ⟨gc, 0, none⟩ 1 1 [x.m, x.r] rfl rfl HCC.out H1.out (by unfold maxLen; omega) (by omega) hb ?_; intro v1 w1 hown1 hg1 _; obtain ⟨A8, c8, rfl⟩ := own_slice hown1)
  go_ret
  exact ⟨_, rfl, by rw [List.flatMap_append]; exact hown1, hg1⟩
theorem ap_ins {i : Nat} {ys : List OV} (x : OV) (h : i ≤ ys.length) : (ys.flatMap ovC).take (i * 2) ++ ([x.m, x.r] ++ (ys.flatMap ovC).drop (i * 2)) = (ys.take i ++ x :: ys.drop i).flatMap ovC := by
  have e : ys.flatMap ovC = (ys.take i).flatMap ovC ++ (ys.drop i).flatMap ovC := by rw [← List.flatMap_append, List.take_append_drop]
  have l : ((ys.take i).flatMap ovC).length = i * 2 := by rw [fl_len ovC_len, List.length_take, Nat.min_eq_left h]
  rw [e, ← l, List.take_left', List.drop_left', List.flatMap_append, List.flatMap_cons]
  · rfl
  · rfl
  · rfl
theorem own_frozen {base e size g n cap : Nat} {w : World} {xs : List Value} (h : w.ownsRow base e size (.slice (some ⟨g, 0, none⟩) n cap) n xs) (j : Nat) : w.frozen? ⟨g, j, none⟩ = false := by
  rcases h.2 with ⟨h', _⟩ | ⟨g', cap', cur, h', hb, hg, _⟩
  · simp at h'
  · simp only [Value.slice.injEq, Option.some.injEq, Addr.mk.injEq, and_true, true_and] at h'
    obtain ⟨rfl, rfl⟩ := h'
    simp [World.frozen?, hg]
theorem own_some {base e size g n cap : Nat} {w : World} {xs : List Value} (h : w.ownsRow base e size (.slice (some ⟨g, 0, none⟩) n cap) n xs) (j : Nat) (hj : j < n * size) : (w.cell? ⟨g, j, none⟩).isSome = true := by
  rw [h.cellAt j hj, List.getElem?_eq_getElem (by rw [h.1]; exact hj)]; rfl
theorem gb_of {w w' : World} (hb : Below w.heap.size w w') (r : Option Nat) : w.grownBy w' r := ⟨hb.os, hb.tape, hb.output, hb.size, fun k hk _ => hb.block k hk⟩
set_option maxHeartbeats 8000000 in
set_option maxRecDepth 100000 in
theorem insert_mid {b g0 n gc i : Nat} {ys : List OV} {x : OV} (w : World) (hy : ys.length = n) (ho : w.ownsRow b 24 2 (.slice (some ⟨g0, 0, none⟩) n n) n (ys.flatMap ovC)) (hi : i < n) (hn : n ≤ 1000000) (hb : b ≤ w.heap.size)
    (hy1 : ∀ u ∈ ys.flatMap ovC, u.oneCell' = true) (hgc : gc < w.heap.size)
    (hc : ∀ j u, [x.m, x.r][j]? = some u → w.cell? ((⟨gc, 0, none⟩ : Addr).add j) = some u) (h1 : ∀ u ∈ [x.m, x.r], u.oneCell' = true) :
    Calls Try.prog 34 #[.slice (some ⟨g0, 0, none⟩) n n, .int .i64 i, .slice (some ⟨gc, 0, none⟩) 1 1] w (InsRet b g0 n (ys.take i ++ x :: ys.drop i) w) := by
  obtain ⟨i0, hi0, hz0, hz1, hz2⟩ := info_parts info_out
  have hsz : (Try.prog.info? 24).map (·.size) = some 2 := by rw [hi0]; simp [hz1]
  have hg0 : g0 < w.heap.size := (ho.lt g0 rfl).2
  obtain ⟨cs, hcs⟩ : ∃ cs, cs = ys.flatMap ovC := ⟨_, rfl⟩
  have hcl : cs.length = n * 2 := by rw [hcs, fl_len ovC_len, hy]
  have HAP := Lib.hid (ap_ins (i := i) (ys := ys) x (by omega))
  rw [← hcs] at ho hy1 HAP
  clear hcs
  have hold : (Builtin.firstCells i0.size i (.slice (some ⟨g0, 0, none⟩) i n)).run Try.prog w.drew = .ok (cs.take (i * 2)).toArray w.drew := by
    rw [hz1]
    exact run_firstCells_some w.drew 2 i ⟨g0, 0, none⟩ i n (cs.take (i * 2)) (by rw [List.length_take]; omega) (fun j v hj => by
      rw [Addr.add_lit, Nat.zero_add]
      rw [List.getElem?_take] at hj
      split at hj
      · rename_i hlt
        show w.cell? _ = _
        rw [ho.cellAt j (by omega)]; exact hj
      · cases hj)
  obtain ⟨G, hG⟩ : ∃ G, G = grownCap w (n + 1) n 24 := ⟨_, rfl⟩
  have hGn : n + 1 ≤ G := by rw [hG]; exact grownCap_ge w _ _ _
  have hG63 : G ≤ maxLen := by rw [hG]; exact cap_63 w _ _ _ (by omega)
  obtain ⟨Z, hZ⟩ : ∃ Z, Z = Builtin.zeroCells (Value.agg #[.slice none 0 0, .slice none 0 0]).cells (n + 1 - i) := ⟨_, rfl⟩
  obtain ⟨Y, hY⟩ : ∃ Z, Z = Builtin.zeroCells (Value.agg #[.slice none 0 0, .slice none 0 0]).cells (G - (n + 1)) := ⟨_, rfl⟩
  have hZl : Z.size = (n + 1 - i) * 2 := by rw [hZ]; simp [Builtin.zeroCells, Value.cells]
  have hZt : Z.toList.length = (n + 1 - i) * 2 := by rw [Array.length_toList, hZl]
  have hct : (cs.take (i * 2)).length = i * 2 := by rw [List.length_take]; omega
  have hYl : Y.size = (G - (n + 1)) * 2 := by rw [hY]; simp [Builtin.zeroCells, Value.cells]
  obtain ⟨W1, hW1⟩ : ∃ W1, W1 = w.drew.alloc (.cells ((cs.take (i * 2)).toArray ++ Z ++ Y) 24) := ⟨_, rfl⟩
  obtain ⟨g, hg⟩ : ∃ g, g = w.heap.size := ⟨_, rfl⟩
  have hrz : ∀ ty, (Builtin.append_ #[25, 3] ty #[.slice (some ⟨g0, 0, none⟩) i n, .int .i64 ((n : Int) + 1 - (i : Int))]).run Try.prog w = .ok (.slice (some ⟨g, 0, none⟩) (n + 1) G) W1 := fun ty => by
    have h := Lib.run_append_grow_zeros (P := Try.prog) w 25 3 ty 24 i0 _ .i64 .i64 Try.underlying25 Try.underlying3 hi0 hz0 (some ⟨g0, 0, none⟩) i n (cs.take (i * 2)) hold (n + 1 - i) (by omega) (by omega) (by omega) (by omega) (by rw [hz2]; omega) (by rw [hz2, show i + (n + 1 - i) = n + 1 by omega]; exact growslice_fits (by omega) (by omega))
    rw [show i + (n + 1 - i) = n + 1 by omega, ← hG, ← hZ, ← hY, ← hW1, ← hg] at h
    rw [show (n : Int) + 1 - (i : Int) = ((n + 1 - i : Nat) : Int) by omega]
    exact h
  have hB1 : Below w.heap.size w W1 := by rw [hW1]; exact ((below_drewN (Below.refl w.heap.size w) 1)).trans (below_al (Below.refl _ w.drew) _)
  have HO1 : W1.ownsRow g 24 2 (.slice (some ⟨g, 0, none⟩) (n + 1) G) (n + 1) (cs.take (i * 2) ++ Z.toList) := by
    refine ⟨by rw [List.length_append, hct, hZt]; omega, .inr ⟨g, G, _, rfl, Nat.le_refl _, by rw [hW1, hg]; exact World.alloc_heap_new w.drew _, hGn, hG63, by simp [hZl, hYl]; omega, ?_⟩⟩
    rw [Array.toList_append, Array.toList_append, List.take_left']
    rw [List.length_append, List.toList_toArray, hct, hZt]; omega
  have hcpA : ∀ (W : World), (∀ a, W.cell? a = W1.cell? a) → (∀ a, W.frozen? a = W1.frozen? a) → ∀ ty dc, (Builtin.copy_ #[25, 25] ty #[.slice (some ⟨g, i * 2, none⟩) (n + 1 - i) dc, .slice (some ⟨gc, 0, none⟩) 1 1]).run Try.prog W = .ok (goInt 1) (W.setCells g (i * 2) [x.m, x.r]) := fun W hWc hWf ty dc => by
    have := run_copy_at (P := Try.prog) W 25 25 ty 24 g (i * 2) (n + 1 - i) dc ⟨gc, 0, none⟩ 1 1 2 [x.m, x.r] Try.underlying25 hsz (by show 2 = _; rw [show Nat.min 1 (n + 1 - i) = 1 from Nat.min_eq_left (by omega)])
      (fun j v hj => by have hq := hc j v hj; rw [Addr.add_lit] at hq; rw [hWc, Addr.add_lit]; exact (hB1.cell (p := ⟨gc, 0 + j, none⟩) hgc).trans hq)
      (fun j hj => by rw [hWc]; exact own_some HO1 _ (by have : j < 2 := hj; omega)) (fun j hj => by rw [hWf]; exact own_frozen HO1 _) h1
    rwa [show Nat.min 1 (n + 1 - i) = 1 from Nat.min_eq_left (by omega)] at this
  obtain ⟨W2, hW2⟩ : ∃ W2, W2 = W1.setCells g (i * 2) [x.m, x.r] := ⟨_, rfl⟩
  have HO2 : W2.ownsRow g 24 2 (.slice (some ⟨g, 0, none⟩) (n + 1) G) (n + 1) ((cs.take (i * 2) ++ [x.m, x.r]) ++ Z.toList.drop 2) := by
    have := own_setCells [x.m, x.r] (cs.take (i * 2)) Z.toList W1 HO1 (by rw [hZt]; show 2 ≤ _; omega)
    rw [hct, ← hW2] at this
    simpa using this
  have hB2 : Below w.heap.size w W2 := by rw [hW2]; exact hB1.trans (by rw [← hg]; exact (grownBy_setCells _ _ _).1)
  have hdl : (cs.drop (i * 2)).length = (n - i) * 2 := by rw [List.length_drop, hcl]; omega
  have hg0g : g0 ≠ g := by omega
  have hcpB : ∀ (W : World), (∀ a, W.cell? a = W2.cell? a) → (∀ a, W.frozen? a = W2.frozen? a) → ∀ ty dc sc, (Builtin.copy_ #[25, 25] ty #[.slice (some ⟨g, (i + 1) * 2, none⟩) (n + 1 - (i + 1)) dc, .slice (some ⟨g0, i * 2, none⟩) (n - i) sc]).run Try.prog W = .ok (goInt ((n - i : Nat) : Int)) (W.setCells g ((i + 1) * 2) (cs.drop (i * 2))) := fun W hWc hWf ty dc sc => by
    have := run_copy_at (P := Try.prog) W 25 25 ty 24 g ((i + 1) * 2) (n + 1 - (i + 1)) dc ⟨g0, i * 2, none⟩ (n - i) sc 2 (cs.drop (i * 2)) Try.underlying25 hsz (by rw [hdl, show Nat.min (n - i) (n + 1 - (i + 1)) = n - i from Nat.min_eq_left (by omega)])
      (fun j v hj => by
        rw [hWc, Addr.add_lit]
        rw [List.getElem?_drop] at hj
        have hlt := (List.getElem?_eq_some_iff.1 hj).1
        exact (hB2.cell (p := ⟨g0, i * 2 + j, none⟩) hg0).trans ((ho.cellAt _ (by omega)).trans hj))
      (fun j hj => by rw [hWc]; exact own_some HO2 _ (by omega)) (fun j hj => by rw [hWf]; exact own_frozen HO2 _) (fun v hv => hy1 v (List.mem_of_mem_drop hv))
    rwa [show Nat.min (n - i) (n + 1 - (i + 1)) = n - i from Nat.min_eq_left (by omega)] at this
  obtain ⟨W3, hW3⟩ : ∃ W3, W3 = W2.drew.setCells g ((i + 1) * 2) (cs.drop (i * 2)) := ⟨_, rfl⟩
  have HO3 := Lib.hid (show W3.ownsRow g 24 2 (.slice (some ⟨g, 0, none⟩) (n + 1) G) (n + 1) ((ys.take i ++ x :: ys.drop i).flatMap ovC) from by
    have h := own_setCells (cs.drop (i * 2)) (cs.take (i * 2) ++ [x.m, x.r]) (Z.toList.drop 2) W2.drew HO2 (by rw [hdl, List.length_drop, hZt]; omega)
    rw [show (cs.take (i * 2) ++ [x.m, x.r]).length = (i + 1) * 2 from by rw [List.length_append, hct]; show i * 2 + 2 = _; omega, ← hW3] at h
    rw [List.drop_of_length_le (l := Z.toList.drop 2) (by rw [hdl, List.length_drop, hZt]; omega), List.append_nil, List.append_assoc, HAP.out] at h
    exact h)
  have HB3 := Lib.hid (show Below w.heap.size w W3 from by rw [hW3]; exact (hB2.trans (below_drewN (Below.refl w.heap.size W2) 1)).trans (by rw [← hg]; exact (grownBy_setCells _ _ W2.drew).1))
  have HRZ := Lib.hid hrz
  have HCA := Lib.hid (hcpA W1 (fun _ => rfl) (fun _ => rfl))
  rw [← hW2] at HCA
  have HCB := Lib.hid (hcpB W2.drew (fun _ => rfl) (fun _ => rfl))
  rw [← hW3] at HCB
  have HBG := Lib.hid (show b ≤ g from by omega)
  have hci : ¬ (n = i) := by omega
  have hGi : ¬ (G = i) := by omega
  have hGi2 : ¬ (G = i + 1) := by omega
  have hin : ¬ ((i : Int) = (n : Int)) := by omega
  unfold maxLen at hG63
  have mixed : Try.prog.follows .mixedOrders = true := by kernel_rfl
  have hw1 : IntKind.i64.wrap ((i : Int) + 1) = (i : Int) + 1 := IntWalk.i64_in _ (by omega)
  have hb1 : (0 : Int) ≤ (i : Int) + 1 := by omega
  have htn : ((i : Int) + 1).toNat = i + 1 := by omega
  have hin1 : i ≤ n := by omega
  have hin2 : i + 1 ≤ n + 1 := by omega
  have hb3 : (i : Int) ≤ (n : Int) := by omega
  have hb4 : (i : Int) + 1 ≤ (n : Int) + 1 := by omega
  clear hcpA hcpB hrz HO1 HO2 hB1 hB2 hdl hg0g hW1 hW2 hW3 hZ hY hZl hYl hZt hct hold hG ho hc h1 hy1 HAP hsz hg0 hgc hy hcl hg
  go_enter Try.func34, Try.ntmps34
  go_upto_region 10 with (at_builtin; refine Lib.wpList_append_run _ rfl _ _ _ _ rfl _ _ rfl rfl _ _ (HRZ.out _) ?_)
  go_upto_region 11 with (refine wpList_copy_run _ rfl (.tmp 43) (.tmp 44) 25 25 rfl _ _ rfl rfl (HCA.out _ _) ?_)
  go_region_law_o (refine step_copy_run rfl _ _ 25 25 rfl (.slice (some ⟨g, (i + 1) * 2, none⟩) (n + 1 - (i + 1)) (G - (i + 1))) (.slice (some ⟨g0, i * 2, none⟩) (n - i) (n - i)) (by simp [Act.eval, Act.put]) (by simp [Act.eval, Act.put]) (HCB.out 3 (G - (i + 1)) (n - i)) ?_)
  go_wp2
  go_ret
  exact ⟨_, rfl, own_base HO3.out HBG.out, gb_of HB3.out _⟩
end Go.Proofs.Ytodpajnpnobfmaa
