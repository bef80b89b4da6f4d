/-
  slices.CompactFunc over ends with places that are sorted: of those alike the first one stays.
-/
import Derived.Test.YtbffjhdocicfoaaEyH
namespace Go.Proofs.Ytbffjhdocicfoaa
open Go.RowKit
set_option linter.unusedVariables false
set_option linter.unusedSimpArgs false
open OtM EyM

set_option maxHeartbeats 4000000 in
set_option maxRecDepth 100000 in
theorem ealike_any {B : Nat} {x y : EV} (w : World) (hx : EvOk B w x) (hy : EvOk B w y) (hBB : B ≤ w.heap.size) :
    Calls Try.prog 43 #[evV x, evV y] w fun e w' => e = .returned (.bool (decide (x.o = y.o))) ∧ Bg w w' := by
  have HC := Lib.hid (fun W (hW : Bg w W) => eorder_any W (hx.below (hW.1.mono hBB)) (hy.below (hW.1.mono hBB)) (Nat.le_trans hBB hW.1.size))
  have HZ := cmpE_zero x y
  obtain ⟨A1, n1, c1, h1⟩ := hx.1.sl
  obtain ⟨A2, n2, c2, h2⟩ := hx.2.sl
  obtain ⟨D1, n3, e1, h3⟩ := hy.1.sl
  obtain ⟨D2, n4, e2, h4⟩ := hy.2.sl
  obtain ⟨r, hr⟩ : ∃ r, r = cmpE x y := ⟨_, rfl⟩
  obtain ⟨bb, hbb⟩ : ∃ b, b = decide (x.o = y.o) := ⟨_, rfl⟩
  rw [← hr] at HC HZ
  rw [← hbb] at HZ ⊢
  have HR := Lib.hid HZ
  clear hr hbb hx hy HZ
  obtain ⟨xm, xr, xo, xi⟩ := x
  obtain ⟨ym, yr, yo, yi⟩ := y
  dsimp only at h1 h2 h3 h4 HC
  subst h1 h2 h3 h4
  obtain ⟨W2, hW2⟩ : ∃ W, W = (w.alloc (.cells #[.slice A1 n1 c1, .slice A2 n2 c2, .int .i64 (xi : Int)] 85)).alloc (.cells #[.slice D1 n3 e1, .slice D2 n4 e2, .int .i64 (yi : Int)] 85) := ⟨_, rfl⟩
  obtain ⟨ga, hga⟩ : ∃ g, g = w.heap.size := ⟨_, rfl⟩
  obtain ⟨gb, hgb⟩ : ∃ g, g = w.heap.size + 1 := ⟨_, rfl⟩
  have HX := Lib.hid (show BoxC W2 ga 85 #[.slice A1 n1 c1, .slice A2 n2 c2, .int .i64 (xi : Int)] from by rw [hW2, hga]; exact (BoxC.new w _ _).alloc _)
  have HY := Lib.hid (show BoxC W2 gb 85 #[.slice D1 n3 e1, .slice D2 n4 e2, .int .i64 (yi : Int)] from by rw [hW2, hgb]; have := BoxC.new (w.alloc (.cells #[.slice A1 n1 c1, .slice A2 n2 c2, .int .i64 (xi : Int)] 85)) 85 #[.slice D1 n3 e1, .slice D2 n4 e2, .int .i64 (yi : Int)]; rw [World.size_alloc] at this; exact this)
  have HB2 := Lib.hid (show Bg w W2 from by rw [hW2]; exact (Bg.al _ _).trans (Bg.al _ _))
  go_enter Try.func43, Try.ntmps43
  go_upto_region 1 with fail
  rw [← hW2]
  (try rw [← hgb])
  (try rw [← hga])
  clear hW2 hga hgb
  have x0 := HX.out.cell 0 (.slice A1 n1 c1) rfl
  have x1 := HX.out.cell 1 (.slice A2 n2 c2) rfl
  have x2 := HX.out.cell 2 (.int .i64 (xi : Int)) rfl
  have y0 := HY.out.cell 0 (.slice D1 n3 e1) rfl
  have y1 := HY.out.cell 1 (.slice D2 n4 e2) rfl
  have y2 := HY.out.cell 2 (.int .i64 (yi : Int)) rfl
  go_wp2_with fail
  refine (HC.out _ HB2.out).mono ?_
  rintro e W3 ⟨rfl, hb3⟩
  have HB3 := Lib.hid (HB2.out.trans hb3)
  clear x0 x1 x2 y0 y1 y2 hb3
  go_wp2
  go_ret
  exact ⟨by rw [← HR.out]; exact congrArg (fun b => Ending.returned (.bool b)) (by by_cases h : r = 0 <;> simp [h]), HB3.out⟩
abbrev aF : Value := .func (.func 43) #[] #[]
/-- What is kept so far, and what is left. -/
structure CmK (zs : List EV) (n cap g b B : Nat) (w : World) (i m : Nat) (cur : List EV) (wr : World) : Prop where
  len : cur.length = n
  own : wr.ownsRow b 85 3 (.slice (some ⟨g, 0, none⟩) n cap) n (cur.flatMap evC)
  srt : (cur.take i).Pairwise fun x y => Lt x.o y.o
  fst : ∀ y ∈ cur.take i, y ∈ zs.take m ∧ ∀ z ∈ zs, z.o = y.o → y.i ≤ z.i
  all : ∀ z ∈ zs.take m, ∃ y ∈ cur.take i, y.o = z.o
  post : cur.drop (m - 1) = zs.drop (m - 1)
  im : i < m
  mn : m ≤ n
  kept : w.grownBy wr (some g)
theorem CmK.grown {zs cur : List EV} {n cap g b B i m : Nat} {w wr W : World} (h : CmK zs n cap g b B w i m cur wr) (hb : Below wr.heap.size wr W) : CmK zs n cap g b B w i m cur W :=
  { h with own := own_below h.own hb, kept := gb_trans h.kept (gb_of hb _) }
theorem CmK.at {zs cur : List EV} {n cap g b B i m : Nat} {w wr : World} (h : CmK zs n cap g b B w i m cur wr) (hz : zs.length = n) (q : Nat) (hq : q < zs.length) (hm : m ≤ q + 1) : wr.cell? ⟨g, q * 3, none⟩ = some zs[q].m ∧ wr.cell? ⟨g, q * 3 + 1, none⟩ = some zs[q].r ∧ wr.cell? ⟨g, q * 3 + 2, none⟩ = some (.int .i64 (zs[q].i : Int)) := by
  have hc : q < cur.length := by rw [h.len]; omega
  have e : cur[q] = zs[q] := by
    have := congrArg (fun l => l[q - (m - 1)]?) h.post
    simp only [List.getElem?_drop] at this
    have hi := h.im
    rw [show m - 1 + (q - (m - 1)) = q by omega, List.getElem?_eq_getElem hc, List.getElem?_eq_getElem hq] at this
    exact Option.some.inj this
  rw [← e]
  exact ev_at h.own h.len hc
theorem last_mem {zs : List EV} {p : Nat} (h : p < zs.length) : zs[p] ∈ zs.take (p + 1) := List.mem_iff_getElem.2 ⟨p, by rw [List.length_take]; omega, List.getElem_take⟩
/-- One that is unlike the one ahead is ahead of all alike. -/
theorem sx_fst {zs : List EV} (h : Sx zs) {p m : Nat} (hm : m < zs.length) (hp : m = p + 1) (hne : ¬ zs[m].o = (zs[p]'(by omega)).o) : (∀ x ∈ zs.take m, Lt x.o zs[m].o) ∧ ∀ z ∈ zs, z.o = zs[m].o → zs[m].i ≤ z.i := by
  have h0 := List.pairwise_iff_getElem.1 h
  have h1 : Lt (zs[p]'(by omega)).o zs[m].o := by
    rcases h0 p m (by omega) hm (by omega) with k | ⟨k, -⟩
    · exact k
    · exact absurd k.symm hne
  have h2 : ∀ q (hq : q < m), Lt (zs[q]'(by omega)).o zs[m].o := fun q hq => by
    rcases Nat.lt_or_ge q p with c | c
    · rcases h0 q p (by omega) (by omega) c with k | ⟨k, -⟩
      · exact k.trans h1
      · rw [k]; exact h1
    · obtain rfl : q = p := by omega
      exact h1
  refine ⟨fun x hx => ?_, fun z hz e => ?_⟩
  · obtain ⟨q, hq, rfl⟩ := List.mem_iff_getElem.1 hx
    rw [List.length_take] at hq
    rw [List.getElem_take]; exact h2 q (by omega)
  · obtain ⟨q, hq, rfl⟩ := List.mem_iff_getElem.1 hz
    rcases Nat.lt_trichotomy q m with c | c | c
    · have := h2 q c; rw [e] at this; exact absurd this (Lt.irrefl _)
    · subst c; exact Nat.le_refl _
    · rcases h0 m q hm hq c with k | ⟨-, k⟩
      · rw [e] at k; exact absurd k (Lt.irrefl _)
      · omega
theorem CmK.skip {zs cur : List EV} {n cap g b B i m p : Nat} {w wr : World} (h : CmK zs n cap g b B w i m cur wr) (hm : m < zs.length) (hz : zs.length = n) (hp : m = p + 1) (he : zs[m].o = (zs[p]'(by omega)).o) : CmK zs n cap g b B w i (m + 1) cur wr :=
  { h with
    fst := fun y hy => ⟨by rw [List.take_succ_eq_append_getElem hm]; exact List.mem_append_left _ (h.fst y hy).1, (h.fst y hy).2⟩
    all := fun z hz' => by
      rw [List.take_succ_eq_append_getElem hm] at hz'
      rcases List.mem_append.1 hz' with k | k
      · exact h.all z k
      · rw [List.mem_singleton.1 k, he]
        exact h.all _ (by
          subst hp
          exact last_mem (by omega))
    post := by rw [Nat.add_sub_cancel, show m = m - 1 + 1 by omega, ← List.tail_drop, ← List.tail_drop, h.post]
    im := by have := h.im; omega
    mn := by omega }
theorem CmK.put {zs cur : List EV} {n cap g b B i m p : Nat} {w wr : World} (h : CmK zs n cap g b B w i m cur wr) (hs : Sx zs) (hm : m < zs.length) (hz : zs.length = n) (hp : m = p + 1) (he : ¬ zs[m].o = (zs[p]'(by omega)).o) :
    CmK zs n cap g b B w (i + 1) (m + 1) (cur.set i zs[m]) (((wr.setCell ⟨g, i * 3, none⟩ zs[m].m).setCell ⟨g, i * 3 + 1, none⟩ zs[m].r).setCell ⟨g, i * 3 + 2, none⟩ (.int .i64 (zs[m].i : Int))) := by
  have hl := h.len
  have him := h.im
  have hic : i < cur.length := by omega
  obtain ⟨hn1, hn2⟩ := sx_fst hs hm hp he
  have et : (cur.set i zs[m]).take (i + 1) = cur.take i ++ [zs[m]] := by
    rw [List.take_succ_eq_append_getElem (by rw [List.length_set]; exact hic), List.getElem_set_self, List.take_set_of_le (Nat.le_refl _)]
  exact {
    len := by rw [List.length_set, hl]
    own := ev_set h.own hl hic zs[m]
    srt := by
      rw [et]
      refine List.pairwise_append.2 ⟨h.srt, List.pairwise_singleton _ _, fun x hx y hy => ?_⟩
      rw [List.mem_singleton.1 hy]
      exact hn1 x (h.fst x hx).1
    fst := fun y hy => by
      rw [et] at hy
      rw [List.take_succ_eq_append_getElem hm]
      rcases List.mem_append.1 hy with hy | hy
      · exact ⟨List.mem_append_left _ (h.fst y hy).1, (h.fst y hy).2⟩
      · rw [List.mem_singleton.1 hy]
        exact ⟨by rw [← List.take_succ_eq_append_getElem hm]; exact last_mem hm, hn2⟩
    all := fun z hz' => by
      rw [List.take_succ_eq_append_getElem hm] at hz'
      rw [et]
      rcases List.mem_append.1 hz' with k | k
      · obtain ⟨y, hy, e⟩ := h.all z k
        exact ⟨y, List.mem_append_left _ hy, e⟩
      · rw [List.mem_singleton.1 k]; exact ⟨_, by simp, rfl⟩
    post := by
      rw [Nat.add_sub_cancel, List.drop_set_of_lt him, show m = m - 1 + 1 by omega, ← List.tail_drop, ← List.tail_drop, h.post]
    im := by omega
    mn := by omega
    kept := gb_trans h.kept (gb_set3 _ _ _ _ _ _ _) }
/-- The tail of a row is cleared: the head stays. -/
theorem setCells_oth {g : Nat} : ∀ (vs : List Value) (o : Nat) (w : World) (k : Nat), k ≠ g → (w.setCells g o vs).heap[k]? = w.heap[k]?
  | [], _, _, _, _ => rfl
  | v :: r, o, w, k, h => by rw [World.setCells, setCells_oth r (o + 1) _ k h]; exact heap_setCell_other w ⟨g, o, none⟩ k v h
theorem setCells_size {g : Nat} : ∀ (vs : List Value) (o : Nat) (w : World), (w.setCells g o vs).heap.size = w.heap.size ∧ (w.setCells g o vs).os = w.os ∧ (w.setCells g o vs).tape = w.tape ∧ (w.setCells g o vs).output = w.output
  | [], _, _ => ⟨rfl, rfl, rfl, rfl⟩
  | v :: r, o, w => by
    rw [World.setCells]
    obtain ⟨a, b, c, d⟩ := setCells_size (g := g) r (o + 1) (w.setCell ⟨g, o, none⟩ v)
    exact ⟨by rw [a]; simp, b, c, d⟩
theorem run_clear_s {P : Program} (w : World) (t e ty : TypeId) (z : Value) (ht : P.underlying t = some (.slice e)) (hv : ∀ w, (zeroValue e).run P w = .ok z w) (b o n c : Nat) (hn : 0 < n)
    (hc : ∀ j, j < (Builtin.zeroCells z.cells n).toList.length → (w.cell? ⟨b, o + j, none⟩).isSome = true) (hf : ∀ j, j < (Builtin.zeroCells z.cells n).toList.length → w.frozen? ⟨b, o + j, none⟩ = false) (h1 : ∀ v ∈ (Builtin.zeroCells z.cells n).toList, v.oneCell' = true) :
    (Builtin.clear_ #[t] ty #[.slice (some ⟨b, o, none⟩) n c]).run P w = .ok (.tuple #[]) (w.setCells b o (Builtin.zeroCells z.cells n).toList) := by
  have hst := run_storeCells_cells (P := P) b o (Builtin.zeroCells z.cells n).toList 0 w (by simpa using hc) (by simpa using hf) h1
  simp only [Nat.add_zero] at hst
  obtain ⟨m, rfl⟩ : ∃ m, n = m + 1 := ⟨n - 1, by omega⟩
  simp [Builtin.clear_, run_underlying ht, hv, hst]
theorem zero_ev : ∀ w, (zeroValue 85).run Try.prog w = .ok (.agg #[.slice none 0 0, .slice none 0 0, .int .i64 0]) w := fun w => by
  obtain ⟨i0, hi0, hz0, hz1, hz2⟩ := info_parts info_ev
  simp [zeroValue, typeInfo, hi0, hz0]
theorem clear_tail3 {b g n i cap : Nat} {zs : List EV} {w : World} (ho : w.ownsRow b 85 3 (.slice (some ⟨g, 0, none⟩) n cap) n (zs.flatMap evC)) (hz : zs.length = n) (hi : i < n) :
    ∃ w', (∀ ty c, (Builtin.clear_ #[81] ty #[.slice (some ⟨g, i * 3, none⟩) (n - i) c]).run Try.prog w = .ok (.tuple #[]) w') ∧ w'.ownsRow b 85 3 (.slice (some ⟨g, 0, none⟩) i cap) i ((zs.take i).flatMap evC) ∧ w.grownBy w' (some g) := by
  obtain ⟨Z, hZ⟩ : ∃ Z, Z = (Builtin.zeroCells (Value.agg #[.slice none 0 0, .slice none 0 0, .int .i64 0]).cells (n - i)).toList := ⟨_, rfl⟩
  have hZl : Z.length = (n - i) * 3 := by rw [hZ, Array.length_toList]; simp [Builtin.zeroCells, Value.cells]
  have hZ1 : ∀ v ∈ Z, v.oneCell' = true := fun v hv => by
    rw [hZ] at hv
    simp only [Builtin.zeroCells, Value.cells] at hv
    simp at hv
    obtain ⟨k, hk, rfl⟩ := hv
    have : k % 3 = 0 ∨ k % 3 = 1 ∨ k % 3 = 2 := by omega
    rcases this with e | e | e <;> (simp [e]; rfl)
  have hr := fun ty c => run_clear_s (P := Try.prog) w 81 85 ty _ Try.underlying81 zero_ev g (i * 3) (n - i) c (by omega)
    (fun j hj => own_some ho _ (by rw [← hZ, hZl] at hj; omega)) (fun j hj => own_frozen ho _) (by rw [← hZ]; exact hZ1)
  rw [← hZ] at hr
  obtain ⟨h1, h2, h3, h4⟩ := setCells_size (g := g) Z (i * 3) w
  have el : ((zs.take i).flatMap evC).length = i * 3 := by rw [fl_len evC_len, List.length_take]; omega
  have e : zs.flatMap evC = (zs.take i).flatMap evC ++ (zs.drop i).flatMap evC := by rw [← List.flatMap_append, List.take_append_drop]
  have el2 : ((zs.drop i).flatMap evC).length = (n - i) * 3 := by rw [fl_len evC_len, List.length_drop, hz]
  have ho2 := ho
  rw [e] at ho2
  have h5 := own_setCells' Z _ _ w ho2 (by rw [hZl, el2]; exact Nat.le_refl _)
  rw [el] at h5
  refine ⟨_, hr, ?_, ⟨h2, h3, h4, Nat.le_of_eq h1.symm, fun k hk hne => setCells_oth Z (i * 3) w k (fun e => hne (by rw [e]))⟩⟩
  obtain ⟨q1, q2⟩ := h5
  refine ⟨el, ?_⟩
  rcases q2 with ⟨h', _⟩ | ⟨g', cap', cur, h', hb, hg, hnc, hcm, hcs, htake⟩
  · simp at h'
  · simp only [Value.slice.injEq, Option.some.injEq, Addr.mk.injEq, and_true, true_and] at h'
    obtain ⟨rfl, rfl⟩ := h'
    refine .inr ⟨g, cap, cur, rfl, hb, hg, by omega, hcm, hcs, ?_⟩
    have := congrArg (List.take (i * 3)) htake
    rw [List.take_take, Nat.min_eq_left (by omega), List.take_left' el] at this
    exact this
def CmRet (zs : List EV) (g b B cap : Nat) (w : World) (e : Ending) (w' : World) : Prop :=
  ∃ (i : Nat) (ys : List EV), e = .returned (.slice (some ⟨g, 0, none⟩) i cap) ∧ ys.length = i ∧ i ≤ zs.length ∧ w'.ownsRow b 85 3 (.slice (some ⟨g, 0, none⟩) i cap) i (ys.flatMap evC) ∧ (ys.Pairwise fun x y => Lt x.o y.o) ∧ (∀ y ∈ ys, y ∈ zs ∧ ∀ z ∈ zs, z.o = y.o → y.i ≤ z.i) ∧ (∀ z ∈ zs, ∃ y ∈ ys, y.o = z.o) ∧ w.grownBy w' (some g)
abbrev PLt (l : List EV) : Prop := l.Pairwise fun x y => Lt x.o y.o
theorem fst_take {zs : List EV} (hs : Sx zs) {k : Nat} (hk : k ≤ zs.length) (hp : PLt (zs.take k)) : ∀ y ∈ zs.take k, y ∈ zs ∧ ∀ z ∈ zs, z.o = y.o → y.i ≤ z.i := by
  intro y hy
  refine ⟨List.mem_of_mem_take hy, fun z hz e => ?_⟩
  obtain ⟨q, hq, rfl⟩ := List.mem_iff_getElem.1 hy
  obtain ⟨r, hr, rfl⟩ := List.mem_iff_getElem.1 hz
  have hq2 := hq
  rw [List.length_take] at hq2
  rw [List.getElem_take] at e ⊢
  rcases Nat.lt_trichotomy r q with c | c | c
  · have := List.pairwise_iff_getElem.1 hp r q (by rw [List.length_take]; omega) hq c
    rw [List.getElem_take, List.getElem_take, e] at this
    exact absurd this (Lt.irrefl _)
  · subst c; exact Nat.le_refl _
  · rcases List.pairwise_iff_getElem.1 hs q r (by omega) hr c with h | ⟨-, h⟩
    · rw [e] at h; exact absurd h (Lt.irrefl _)
    · exact Nat.le_of_lt h
theorem plt_succ {zs : List EV} (hs : Sx zs) {j k : Nat} (h1 : k < zs.length) (hj : j < zs.length) (h0 : k = j + 1) (hp : PLt (zs.take k)) (he : ¬ zs[k].o = zs[j].o) : PLt (zs.take (k + 1)) := by
  rw [List.take_succ_eq_append_getElem h1]
  exact List.pairwise_append.2 ⟨hp, List.pairwise_singleton _ _, fun x hx y hy => by rw [List.mem_singleton.1 hy]; exact (sx_fst hs h1 h0 he).1 x hx⟩
theorem cm_start {zs : List EV} {n cap g b B j k : Nat} {w W : World} (hs : Sx zs) (hz : zs.length = n) (h1 : k < zs.length) (hj : j < zs.length) (h0 : k = j + 1) (hp : PLt (zs.take k)) (he : zs[k].o = zs[j].o) (ho : W.ownsRow b 85 3 (.slice (some ⟨g, 0, none⟩) n cap) n (zs.flatMap evC)) (hb : w.grownBy W (some g)) : CmK zs n cap g b B w k (k + 1) zs W where
  len := hz
  own := ho
  srt := hp
  fst := fun y hy => ⟨by rw [List.take_succ_eq_append_getElem h1]; exact List.mem_append_left _ hy, (fst_take hs (by omega) hp y hy).2⟩
  all := fun z hz' => by
    rw [List.take_succ_eq_append_getElem h1] at hz'
    rcases List.mem_append.1 hz' with k1 | k1
    · exact ⟨z, k1, rfl⟩
    · rw [List.mem_singleton.1 k1, he]
      exact ⟨zs[j], by subst h0; exact last_mem hj, rfl⟩
  post := rfl
  im := Nat.lt_succ_self _
  mn := by omega
  kept := hb
theorem cm_all {zs : List EV} {n cap g b B : Nat} {w W : World} (hs : Sx zs) (hz : zs.length = n) (hp : PLt zs) (ho : W.ownsRow b 85 3 (.slice (some ⟨g, 0, none⟩) n cap) n (zs.flatMap evC)) (hb : w.grownBy W (some g)) : CmRet zs g b B cap w (.returned (.slice (some ⟨g, 0, none⟩) n cap)) W :=
  ⟨n, zs, rfl, hz, by omega, ho, hp, by have := fst_take hs (Nat.le_refl _) (by rwa [List.take_length]); rwa [List.take_length] at this, fun z h => ⟨z, h, rfl⟩, hb⟩
theorem cm_end {zs cur : List EV} {n cap g b B i m : Nat} {w wr W : World} (h : CmK zs n cap g b B w i m cur wr) (hz : zs.length = n) (hm : m = n) (ho : W.ownsRow b 85 3 (.slice (some ⟨g, 0, none⟩) i cap) i ((cur.take i).flatMap evC)) (hb : wr.grownBy W (some g)) : CmRet zs g b B cap w (.returned (.slice (some ⟨g, 0, none⟩) i cap)) W := by
  have hi := h.im
  have hl := h.len
  refine ⟨i, cur.take i, rfl, by rw [List.length_take]; omega, by omega, ho, h.srt, fun y hy => ?_, fun z k => h.all z ?_, gb_trans h.kept hb⟩
  · have := h.fst y hy
    exact ⟨List.mem_of_mem_take this.1, this.2⟩
  · rw [hm, ← hz, List.take_length]; exact k
set_option maxHeartbeats 8000000 in
set_option maxRecDepth 100000 in
theorem ecompact_any {B b g n cap : Nat} {zs : List EV} (w : World) (ho : w.ownsRow b 85 3 (.slice (some ⟨g, 0, none⟩) n cap) n (zs.flatMap evC)) (hz : zs.length = n) (hn : n ≤ 1000000) (hok : ∀ z ∈ zs, EvI B w z) (hs : Sx zs) :
    Calls Try.prog 42 #[.slice (some ⟨g, 0, none⟩) n cap, aF] w (CmRet zs g b B cap w) := by
  have HC := Lib.hid (fun (i j : Nat) (hi : i < zs.length) (hj : j < zs.length) (W : World) (hW : w.grownBy W (some g)) => ealike_any W ((hok zs[i] (List.getElem_mem hi)).kept ho hW).ok ((hok zs[j] (List.getElem_mem hj)).kept ho hW).ok (Nat.le_refl _))
  have HSL := Lib.hid (fun (k : Nat) (hk : k < zs.length) => And.intro (hok zs[k] (List.getElem_mem hk)).ok.1.sl (hok zs[k] (List.getElem_mem hk)).ok.2.sl)
  have HO := Lib.hid ho
  have HZ := Lib.hid hz
  have HS := Lib.hid hs
  have hcap : n ≤ cap ∧ cap ≤ maxLen := by
    rcases ho.2 with ⟨h', _⟩ | ⟨g', cap', cur, h', hb, hg, hnc, hcm, hcs, htake⟩
    · simp at h'
    · simp only [Value.slice.injEq, Option.some.injEq, Addr.mk.injEq, and_true, true_and] at h'
      obtain ⟨rfl, rfl⟩ := h'
      exact ⟨hnc, hcm⟩
  unfold maxLen at hcap
  obtain ⟨hc1, hc2⟩ := hcap
  by_cases h2 : n < 2
  · have HR := Lib.hid (show CmRet zs g b B cap w (.returned (.slice (some ⟨g, 0, none⟩) n cap)) w from cm_all hs hz (by
      match zs, hz with
      | [], _ => exact List.Pairwise.nil
      | [z], _ => exact List.pairwise_singleton _ _
      | _ :: _ :: r, h => simp at h; omega) ho (gb_of (Below.refl _ _) _))
    clear ho hz hs hok
    go_enter Try.func42, Try.ntmps42
    go_wp2
    go_ret
    exact HR.out
  · have HST := Lib.hid (fun (j k : Nat) (h1 : k < zs.length) (hj : j < zs.length) (h0 : k = j + 1) (hp : PLt (zs.take k)) (he : ¬ zs[k].o = zs[j].o) => plt_succ hs (j := j) h1 hj h0 hp he)
    have HK0 := Lib.hid (fun (j k : Nat) (h1 : k < zs.length) (hj : j < zs.length) (h0 : k = j + 1) (W : World) (hp : PLt (zs.take k)) (he : zs[k].o = zs[j].o) (hW : Below w.heap.size w W) => cm_start (w := w) (W := W) (cap := cap) (g := g) (b := b) (B := B) (j := j) hs hz h1 hj h0 hp he (own_below ho hW) (gb_of hW _))
    clear ho hz hs hok
    go_enter Try.func42, Try.ntmps42
    go_wp2
    go_loopw [5] (fun i wr => ∃ j k : Nat, Hid (k = j + 1) ∧ k ≤ n ∧ i = .int .i64 k ∧ Hid (PLt (zs.take k)) ∧ Bg w wr) (fun i _ => n - (intOf i).toNat)
    case atStart => exact ⟨0, 1, Lib.hid rfl, by omega, rfl, Lib.hid (by cases zs <;> simp), Bg.refl _⟩
    case round =>
      obtain ⟨j, k, HJ, hk, rfl, HSK, hB⟩ := hrel
      by_cases hlt : k < n
      · have hkx : k < zs.length := by have := HZ.out; omega
        have hjx : j < zs.length := by have := HJ.out; omega
        have hcc := fun q (hq : q < zs.length) => show wr.cell? ⟨g, q * 3, none⟩ = some zs[q].m ∧ wr.cell? ⟨g, q * 3 + 1, none⟩ = some zs[q].r ∧ wr.cell? ⟨g, q * 3 + 2, none⟩ = some (.int .i64 (zs[q].i : Int)) from ⟨kc hB.1 (ev_at HO.out HZ.out hq).1, kc hB.1 (ev_at HO.out HZ.out hq).2.1, kc hB.1 (ev_at HO.out HZ.out hq).2.2⟩
        obtain ⟨d1, d2, d3⟩ := hcc k hkx
        obtain ⟨e1, e2, e3⟩ := hcc j hjx
        have HC1 := HC.out k j hkx hjx
        have HSL1 := HSL.out j hjx
        have HSL2 := HSL.out k hkx
        have HT := Lib.hid (fun (h : ¬ zs[k].o = zs[j].o) => HST.out j k hkx hjx HJ.out HSK.out h)
        have HK := Lib.hid (fun (W : World) (hW : Below w.heap.size w W) (h : zs[k].o = zs[j].o) => HK0.out j k hkx hjx HJ.out W HSK.out h hW)
        obtain ⟨x, hx⟩ : ∃ x, x = zs[j] := ⟨_, rfl⟩
        obtain ⟨y, hy⟩ : ∃ y, y = zs[k] := ⟨_, rfl⟩
        change _ = some zs[j].m at e1
        change _ = some zs[j].r at e2
        change _ = some zs[k].m at d1
        change _ = some zs[k].r at d2
        rw [← hx] at e1 e2 e3 HC1 HSL1 HT HK
        rw [← hy] at d1 d2 d3 HC1 HSL2 HT HK
        clear hx hy hcc hkx hjx
        obtain ⟨xm, xr, xo, xi⟩ := x
        obtain ⟨ym, yr, yo, yi⟩ := y
        dsimp only at d1 d2 d3 e1 e2 e3 HC1 HSL1 HSL2 HT HK
        obtain ⟨⟨A1, n1, c1, rfl⟩, A2, n2, c2, rfl⟩ := HSL1
        obtain ⟨⟨D1, n3, c3, rfl⟩, D2, n4, c4, rfl⟩ := HSL2
        have hsub : (k : Int) - 1 = (j : Int) := by have := HJ.out; omega
        have hwr : IntKind.i64.wrap (j : Int) = j := IntWalk.i64_in _ (by omega)
        have hjn : j < n := by have := HJ.out; omega
        obtain ⟨bb, hbb⟩ : ∃ b, b = decide (yo = xo) := ⟨_, rfl⟩
        rw [← hbb] at HC1
        have HBD := Lib.hid hbb
        have HC2 := Lib.hid HC1
        clear HC1 hbb
        have hS : wr.cell? ⟨g, k * 3, none⟩ = some (.slice D1 n3 c3) ∧ wr.cell? ⟨g, k * 3 + 1, none⟩ = some (.slice D2 n4 c4) ∧ wr.cell? ⟨g, k * 3 + 2, none⟩ = some (.int .i64 (yi : Int)) ∧ wr.cell? ⟨g, j * 3, none⟩ = some (.slice A1 n1 c1) ∧ wr.cell? ⟨g, j * 3 + 1, none⟩ = some (.slice A2 n2 c2) ∧ wr.cell? ⟨g, j * 3 + 2, none⟩ = some (.int .i64 (xi : Int)) ∧ Bg w wr := ⟨d1, d2, d3, e1, e2, e3, hB⟩
        clear d1 d2 d3 e1 e2 e3
        go_upto_region 6 with fail
        go_region_held3 (fun w' => w'.cell? ⟨g, k * 3, none⟩ = some (.slice D1 n3 c3) ∧ w'.cell? ⟨g, k * 3 + 1, none⟩ = some (.slice D2 n4 c4) ∧ w'.cell? ⟨g, k * 3 + 2, none⟩ = some (.int .i64 (yi : Int)) ∧ w'.cell? ⟨g, j * 3, none⟩ = some (.slice A1 n1 c1) ∧ w'.cell? ⟨g, j * 3 + 1, none⟩ = some (.slice A2 n2 c2) ∧ w'.cell? ⟨g, j * 3 + 2, none⟩ = some (.int .i64 (xi : Int)) ∧ Bg w w') (first | (exact keep6 (by assumption) (by assumption)) | (exact keep6 (by assumption) (Bg.dn _ 1)))
          (first | (go_at_call 43; refine (HC2.out _ (gb_of (bg6 (by assumption)).1 _)).mono ?_; rintro e w' ⟨rfl, hb2⟩))
        all_goals
          rename_i hHeld
          have HBF := Lib.hid (bg6 hHeld)
          clear hHeld hS hb2
          cases bb
          · have HE := Lib.hid (HT.out (of_decide_eq_false HBD.out.symm))
            clear HK HT
            go_wp2
            go_roundw
            case rel => exact ⟨k, k + 1, Lib.hid rfl, by omega, by go_num, HE, HBF.out⟩
            case measure => simp [intOf]; omega
          · have HK1 := Lib.hid (HK.out _ HBF.out.1 (of_decide_eq_true HBD.out.symm))
            clear HK HT HST HK0 HSK
            have hck : ¬ cap = k := by omega
            have hkn : k ≤ n := by omega
            have hkc : k ≤ cap := by omega
            clear HBD HC2
            go_wp2
            go_loopw [5, 7] (fun x y wr => ∃ (i p q m : Nat) (cur : List EV), x = .int .i64 i ∧ y = .int .i64 q ∧ Hid (q = p + 1) ∧ Hid (m = k + q) ∧ q ≤ n - k ∧ i < n ∧ Hid (CmK zs n cap g b B w i m cur wr)) (fun x y _ => n - k - (intOf y).toNat)
            case atStart => exact ⟨k, 0, 1, k + 1, zs, rfl, rfl, Lib.hid rfl, Lib.hid rfl, by omega, hlt, HK1⟩
            case round =>
              obtain ⟨i, p, q, m, cur, rfl, rfl, HP, HM, hq, hi, HK⟩ := hrel
              by_cases hlq : q < n - k
              · have hmx : m < zs.length := by have := HZ.out; have := HM.out; omega
                have hpx : k + p < zs.length := by have := HZ.out; have := HP.out; omega
                have hmp : m = (k + p) + 1 := by have := HM.out; have := HP.out; omega
                obtain ⟨d1, d2, d3⟩ := HK.out.at HZ.out m hmx (by omega)
                obtain ⟨e1, e2, e3⟩ := HK.out.at HZ.out (k + p) hpx (by omega)
                have HC1 := HC.out m (k + p) hmx hpx
                have HSL1 := HSL.out (k + p) hpx
                have HSL2 := HSL.out m hmx
                have hiz : i < cur.length := by have := HK.out.len; omega
                have HSK := Lib.hid (fun (W : World) (h : CmK zs n cap g b B w i m cur W) (e : zs[m].o = zs[k + p].o) => h.skip hmx HZ.out hmp e)
                have HPT := Lib.hid (fun (W : World) (h : CmK zs n cap g b B w i m cur W) (e : ¬ zs[m].o = zs[k + p].o) => h.put HS.out hmx HZ.out hmp e)
                have HTH := Lib.hid (fun (W : World) (h : CmK zs n cap g b B w i m cur W) => show There W g i from by
                  obtain ⟨a, b, c⟩ := ev_at h.own h.len hiz
                  exact ⟨_, _, _, a, b, c, own_frozen h.own _, own_frozen h.own _, own_frozen h.own _⟩)
                rw [show m * 3 = k * 3 + q * 3 from by have := HM.out; omega] at d1 d2 d3
                rw [show (k + p) * 3 = k * 3 + p * 3 from by omega] at e1 e2 e3
                obtain ⟨x, hx⟩ : ∃ x, x = zs[k + p] := ⟨_, rfl⟩
                obtain ⟨y, hy⟩ : ∃ y, y = zs[m] := ⟨_, rfl⟩
                rw [← hx] at e1 e2 e3 HC1 HSL1 HSK HPT
                rw [← hy] at d1 d2 d3 HC1 HSL2 HSK HPT
                clear hx hy hmx hpx hmp hiz
                obtain ⟨xm, xr, xo, xi⟩ := x
                obtain ⟨ym, yr, yo, yi⟩ := y
                dsimp only at d1 d2 d3 e1 e2 e3 HC1 HSL1 HSL2 HSK HPT
                obtain ⟨⟨A1, n1, c1, rfl⟩, A2, n2, c2, rfl⟩ := HSL1
                obtain ⟨⟨D1, n3, c3, rfl⟩, D2, n4, c4, rfl⟩ := HSL2
                have hsub2 : (q : Int) - 1 = (p : Int) := by have := HP.out; omega
                have hwr2 : IntKind.i64.wrap (p : Int) = p := IntWalk.i64_in _ (by omega)
                have hpn : p < n - k := by have := HP.out; omega
                obtain ⟨bb, hbb⟩ : ∃ b, b = decide (yo = xo) := ⟨_, rfl⟩
                rw [← hbb] at HC1
                have HBD := Lib.hid hbb
                have HC2 := Lib.hid HC1
                clear HC1 hbb
                have hS : wr.cell? ⟨g, k * 3 + q * 3, none⟩ = some (.slice D1 n3 c3) ∧ wr.cell? ⟨g, k * 3 + q * 3 + 1, none⟩ = some (.slice D2 n4 c4) ∧ wr.cell? ⟨g, k * 3 + q * 3 + 2, none⟩ = some (.int .i64 (yi : Int)) ∧ wr.cell? ⟨g, k * 3 + p * 3, none⟩ = some (.slice A1 n1 c1) ∧ wr.cell? ⟨g, k * 3 + p * 3 + 1, none⟩ = some (.slice A2 n2 c2) ∧ wr.cell? ⟨g, k * 3 + p * 3 + 2, none⟩ = some (.int .i64 (xi : Int)) ∧ Bg wr wr := ⟨d1, d2, d3, e1, e2, e3, Bg.refl _⟩
                clear d1 d2 d3 e1 e2 e3
                go_upto_region 11 with fail
                go_region_held3 (fun w' => w'.cell? ⟨g, k * 3 + q * 3, none⟩ = some (.slice D1 n3 c3) ∧ w'.cell? ⟨g, k * 3 + q * 3 + 1, none⟩ = some (.slice D2 n4 c4) ∧ w'.cell? ⟨g, k * 3 + q * 3 + 2, none⟩ = some (.int .i64 (yi : Int)) ∧ w'.cell? ⟨g, k * 3 + p * 3, none⟩ = some (.slice A1 n1 c1) ∧ w'.cell? ⟨g, k * 3 + p * 3 + 1, none⟩ = some (.slice A2 n2 c2) ∧ w'.cell? ⟨g, k * 3 + p * 3 + 2, none⟩ = some (.int .i64 (xi : Int)) ∧ Bg wr w') (first | (exact keep6 (by assumption) (by assumption)) | (exact keep6 (by assumption) (Bg.dn _ 1)))
                  (first | (go_at_call 43; refine (HC2.out _ (gb_trans HK.out.kept (gb_of (bg6 (by assumption)).1 _))).mono ?_; rintro e w' ⟨rfl, hb2⟩))
                all_goals
                  rename_i hHeld
                  have hbf := bg6 hHeld
                  have HK5 := Lib.hid (HK.out.grown hbf.1)
                  obtain ⟨d1, d2, d3, -⟩ := hHeld
                  clear hS hb2 hbf
                  cases bb
                  · obtain ⟨v0, v1, v2, z0, z1, z2, f0, f1, f2⟩ := HTH.out _ HK5.out
                    have HK7 := Lib.hid (HPT.out _ HK5.out (of_decide_eq_false HBD.out.symm))
                    clear HPT HSK HTH
                    go_wp2
                    go_roundw
                    case rel => exact ⟨i + 1, q, q + 1, m + 1, _, by go_num, by go_num, Lib.hid rfl, Lib.hid (by have := HM.out; omega), by omega, by have h1 := HK.out.im; have h2 := HM.out; omega, HK7⟩
                    case measure => simp [intOf]; omega
                  · have HK7 := Lib.hid (HSK.out _ HK5.out (of_decide_eq_true HBD.out.symm))
                    clear HPT HSK HTH d1 d2 d3
                    go_wp2
                    go_roundw
                    case rel => exact ⟨i, q, q + 1, m + 1, cur, rfl, by go_num, Lib.hid rfl, Lib.hid (by have := HM.out; omega), by omega, hi, HK7⟩
                    case measure => simp [intOf]; omega
              · have hmn : m = n := by have := HM.out; omega
                have HMN := Lib.hid hmn
                obtain ⟨W8, hcl, hown8, hb8⟩ := clear_tail3 HK.out.own HK.out.len hi
                have HR := Lib.hid (cm_end (B := B) HK.out HZ.out HMN.out hown8 hb8)
                have hci : ¬ cap = i := by omega
                have hile : i ≤ n := by omega
                clear hown8 hb8 hmn
                go_wp2
                go_ret
                exact HR.out
      · obtain rfl : n = k := by omega
        have HR := Lib.hid (cm_all (B := B) HS.out HZ.out (by have := HSK.out; rwa [List.take_of_length_le (by have := HZ.out; omega)] at this) (own_below HO.out hB.1) (gb_of hB.1 _))
        clear HSK
        go_wp2
        go_ret
        exact HR.out
end Go.Proofs.Ytbffjhdocicfoaa
