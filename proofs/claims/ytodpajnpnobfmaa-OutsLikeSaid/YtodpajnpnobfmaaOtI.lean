/-
  ENDS: which are left out (Minus's closure), slices.IndexFunc and slices.DeleteFunc over it.
-/
import Derived.Test.YtodpajnpnobfmaaOtH
namespace Go.Proofs.Ytodpajnpnobfmaa
open Go.RowKit
set_option linter.unusedVariables false
set_option linter.unusedSimpArgs false
open OtM

/-- What the closure reads: the set that is taken away, in its box. -/
structure ClK (G B : Nat) (vb : Value) (bs : List OV) (w : World) : Prop where
  cell : w.cell? ⟨G, 0, none⟩ = some vb
  outs : OutsX B w vb bs
  lt : B ≤ w.heap.size
theorem ClK.below {G B D : Nat} {vb : Value} {bs : List OV} {w w' : World} (h : ClK G B vb bs w) (hb : Below D w w') (h1 : G < D) (h2 : B ≤ D) : ClK G B vb bs w' :=
  ⟨(hb.cell (p := ⟨G, 0, none⟩) h1).trans h.cell, h.outs.below (hb.mono h2), Nat.le_trans h.lt hb.size⟩
set_option maxHeartbeats 4000000 in
set_option maxRecDepth 100000 in
theorem minus1_any {G B C : Nat} {vb u : Value} {bs : List OV} {o : Ot} (w : World) (h : ClK G B vb bs w) (hu : OutR C w u o) (hC : C ≤ w.heap.size) (hl : bs.length ≤ 1000000) (hsr : Srt (os bs)) :
    Calls Try.prog 37 #[u, .pointer (some ⟨G, 0, none⟩)] w fun e w' => e = .returned (.bool (decide (o ∈ os bs))) ∧ Bg w w' := by
  have HC := Lib.hid (fun W (hW : Bg w W) => ohas_any W ((h.outs.more h.lt).below hW.1 |>.more hW.1.size) ((hu.more hC).below hW.1 |>.more hW.1.size) (Nat.le_refl _) hl hsr)
  have hcell := h.cell
  obtain ⟨⟨A, c, rfl, -⟩, -⟩ := h.outs
  obtain ⟨um, ur, rfl, g1, g2⟩ := hu
  obtain ⟨E1, l1, k1, rfl⟩ := g1.sl
  obtain ⟨E2, l2, k2, rfl⟩ := g2.sl
  clear g1 g2
  obtain ⟨bb, hbb⟩ : ∃ b, b = decide (o ∈ os bs) := ⟨_, rfl⟩
  rw [← hbb] at HC ⊢
  clear hbb h
  generalize bs.length = n at *
  have hG := lt_of_cell hcell
  obtain ⟨W1, hW1⟩ : ∃ W, W = w.alloc (.cells #[.slice E1 l1 k1, .slice E2 l2 k2] 24) := ⟨_, rfl⟩
  obtain ⟨gb, hgb⟩ : ∃ x, x = w.heap.size := ⟨_, rfl⟩
  have hx := box2 (w := w) (.slice E1 l1 k1) (.slice E2 l2 k2) 24
  have HB1 := Lib.hid (show Bg w W1 from by rw [hW1]; exact Bg.al _ _)
  rw [← hW1, ← hgb] at hx
  obtain ⟨x0, x1⟩ := hx
  have hcell1 := kc HB1.out.1 hcell
  go_enter Try.func37, Try.ntmps37
  go_upto_region 1 with fail
  rw [← hW1]
  (try rw [← hgb])
  clear hW1 hgb hcell hG
  go_wp2_with fail
  refine (HC.out _ HB1.out).mono ?_
  rintro e w' ⟨rfl, hb⟩
  go_wp2
  go_ret
  exact ⟨rfl, HB1.out.trans hb⟩
/-- Is it not in the set that is taken away? -/
def kp (bs : List OV) (y : OV) : Bool := decide (y.o ∉ os bs)
theorem filt_snoc {bs ys : List OV} {k : Nat} (h : k < ys.length) : (ys.take (k + 1)).filter (kp bs) = (ys.take k).filter (kp bs) ++ if kp bs ys[k] = true then [ys[k]] else [] := by
  rw [List.take_succ_eq_append_getElem h, List.filter_append]
  by_cases e : kp bs ys[k] = true <;> simp [e]
def IxRet (ys bs : List OV) (w : World) (e : Ending) (w' : World) : Prop :=
  ∃ r : Int, e = .returned (.int .i64 r) ∧ ((r = -1 ∧ ys.filter (kp bs) = ys) ∨ ∃ (i : Nat) (h : i < ys.length), r = i ∧ kp bs ys[i] = false ∧ (ys.take i).filter (kp bs) = ys.take i) ∧ Bg w w'
set_option maxHeartbeats 4000000 in
set_option maxRecDepth 100000 in
theorem ixout_any {G B g0 b n : Nat} {vb : Value} {bs ys : List OV} (w : World) (h : ClK G B vb bs w) (hl : bs.length ≤ 1000000) (hsr : Srt (os bs)) (hy : ys.length = n) (hn : n ≤ 1000000)
    (ho : w.ownsRow b 24 2 (.slice (some ⟨g0, 0, none⟩) n n) n (ys.flatMap ovC)) (he : EaO b w ys) :
    Calls Try.prog 44 #[.slice (some ⟨g0, 0, none⟩) n n, .func (.func 37) #[] #[.pointer (some ⟨G, 0, none⟩)]] w (IxRet ys bs w) := by
  have HC := Lib.hid (fun (i : Nat) (hi : i < ys.length) (W : World) (hW : Bg w W) => minus1_any W (h.below hW.1 (lt_of_cell h.cell) h.lt) ((he.below hW.1).ok ys[i] (List.getElem_mem hi)).out (Nat.le_refl _) hl hsr)
  have HSL := Lib.hid (fun (i : Nat) (hi : i < ys.length) => And.intro (own_slice (he ys[i] (List.getElem_mem hi)).1) (own_slice (he ys[i] (List.getElem_mem hi)).2))
  have HCL := Lib.hid (fun (i : Nat) (hi : i < ys.length) => show w.cell? ⟨g0, i * 2, none⟩ = some ys[i].m ∧ w.cell? ⟨g0, i * 2 + 1, none⟩ = some ys[i].r from
    ⟨(ho.cellAt _ (by omega)).trans ((fl_at ovC_len ys i 0 hi (by omega)).trans rfl), (ho.cellAt _ (by omega)).trans ((fl_at ovC_len ys i 1 hi (by omega)).trans rfl)⟩)
  have HG := Lib.hid (ho.lt g0 rfl).2
  have HY := Lib.hid hy
  clear ho he h hl hsr hy
  go_enter Try.func44, Try.ntmps44
  go_wp2
  go_loopw [8] (fun i wr => ∃ k : Nat, k ≤ n ∧ i = .int .i64 k ∧ Hid ((ys.take k).filter (kp bs) = ys.take k) ∧ Bg w wr) (fun i _ => n - (intOf i).toNat)
  case atStart => exact ⟨0, Nat.zero_le _, rfl, Lib.hid rfl, Bg.refl _⟩
  case round =>
    obtain ⟨k, hk, rfl, HF, hB⟩ := hrel
    by_cases hlt : k < n
    · have hky : k < ys.length := by have := HY.out; omega
      obtain ⟨p0, p1⟩ := HCL.out k hky
      have d1 := kc hB.1 p0
      have d2 := kc hB.1 p1
      have HC1 := HC.out k hky
      obtain ⟨⟨A1, c1, e1⟩, A2, c2, e2⟩ := HSL.out k hky
      have HS := Lib.hid (filt_snoc (bs := bs) hky)
      have HIX := Lib.hid (fun (h : kp bs ys[k] = false) => show IxRet ys bs w (.returned (.int .i64 k)) = IxRet ys bs w (.returned (.int .i64 k)) from rfl)
      have HT := Lib.hid (List.take_succ_eq_append_getElem hky)
      have HFI := Lib.hid (fun (h : kp bs ys[k] = false) => show ∃ (i : Nat) (hi : i < ys.length), (k : Int) = i ∧ kp bs ys[i] = false ∧ (ys.take i).filter (kp bs) = ys.take i from ⟨k, hky, rfl, h, HF.out⟩)
      rw [e1] at d1 HC1
      rw [e2] at d2 HC1
      have hkp : kp bs ys[k] = !decide (ys[k].o ∈ os bs) := by unfold kp; exact decide_not
      obtain ⟨bb, hbb⟩ : ∃ b, b = decide (ys[k].o ∈ os bs) := ⟨_, rfl⟩
      rw [← hbb] at HC1 hkp
      rw [hkp] at HS HFI
      generalize ys[k].o.1.length = l1 at *
      generalize ys[k].o.2.length = l2 at *
      have HC2 := Lib.hid HC1
      clear HC1 p0 p1 e1 e2 hkp hbb HIX
      go_wp2_with fail
      refine (HC2.out _ hB).mono ?_
      rintro e w' ⟨rfl, hb⟩
      have HBB := Lib.hid (hB.trans hb)
      clear hb d1 d2
      cases bb
      · have HE := Lib.hid (show (ys.take (k + 1)).filter (kp bs) = ys.take (k + 1) from by rw [HS.out, HF.out, HT.out]; simp)
        go_wp2
        go_roundw
        case rel => exact ⟨k + 1, by omega, by go_num, HE, HBB.out⟩
        case measure => simp [intOf]; omega
      · have HE := Lib.hid (HFI.out rfl)
        go_wp2
        go_ret
        exact ⟨_, rfl, .inr HE.out, HBB.out⟩
    · obtain rfl : n = k := by omega
      have HE := Lib.hid (show ys.filter (kp bs) = ys from by have := HF.out; rwa [List.take_of_length_le (by have := HY.out; omega)] at this)
      clear HF
      go_wp2
      go_ret
      exact ⟨_, rfl, .inl ⟨rfl, HE.out⟩, hB⟩
theorem setCells_other {g : Nat} : ∀ (vs : List Value) (o : Nat) (w : World) (k : Nat), k ≠ g → (w.setCells g o vs).heap[k]? = w.heap[k]?
  | [], _, _, _, _ => rfl
  | v :: r, o, w, k, h => by
    rw [World.setCells, setCells_other r (o + 1) _ k h]
    exact heap_setCell_other w ⟨g, o, none⟩ k v h
theorem run_clear_s {P : Program} (w : World) (t e ty : TypeId) (z : Value) (ht : P.underlying t = some (.slice e)) (hv : ∀ w, (zeroValue e).run P w = .ok z w) (b o n c : Nat) (hn : 0 < n)
    (hc : ∀ j, j < (Builtin.zeroCells z.cells n).toList.length → (w.cell? ⟨b, o + j, none⟩).isSome = true) (hf : ∀ j, j < (Builtin.zeroCells z.cells n).toList.length → w.frozen? ⟨b, o + j, none⟩ = false) (h1 : ∀ v ∈ (Builtin.zeroCells z.cells n).toList, v.oneCell' = true) :
    (Builtin.clear_ #[t] ty #[.slice (some ⟨b, o, none⟩) n c]).run P w = .ok (.tuple #[]) (w.setCells b o (Builtin.zeroCells z.cells n).toList) := by
  have hst := run_storeCells_cells (P := P) b o (Builtin.zeroCells z.cells n).toList 0 w (by simpa using hc) (by simpa using hf) h1
  simp only [Nat.add_zero] at hst
  obtain ⟨m, rfl⟩ : ∃ m, n = m + 1 := ⟨n - 1, by omega⟩
  simp [Builtin.clear_, run_underlying ht, hv, hst]
theorem zero_out : ∀ w, (zeroValue 24).run Try.prog w = .ok (.agg #[.slice none 0 0, .slice none 0 0]) w := fun w => by
  obtain ⟨i0, hi0, hz0, hz1, hz2⟩ := info_parts info_out
  simp [zeroValue, typeInfo, hi0, hz0]
/-- The tail of a row of ends is cleared: the head stays. -/
theorem clear_tail {b g n i : Nat} {zs : List OV} {w : World} (ho : w.ownsRow b 24 2 (.slice (some ⟨g, 0, none⟩) n n) n (zs.flatMap ovC)) (hz : zs.length = n) (hi : i < n) :
    ∃ w', (∀ ty c, (Builtin.clear_ #[25] ty #[.slice (some ⟨g, i * 2, none⟩) (n - i) c]).run Try.prog w = .ok (.tuple #[]) w') ∧ w'.ownsRow b 24 2 (.slice (some ⟨g, 0, none⟩) i n) i ((zs.take i).flatMap ovC) ∧ Below g w w' ∧ w.grownBy w' (some g) ∧ (w'.heap.size = w.heap.size) := by
  obtain ⟨Z, hZ⟩ : ∃ Z, Z = (Builtin.zeroCells (Value.agg #[.slice none 0 0, .slice none 0 0]).cells (n - i)).toList := ⟨_, rfl⟩
  have hZl : Z.length = (n - i) * 2 := by rw [hZ, Array.length_toList]; simp [Builtin.zeroCells, Value.cells]
  have hZ1 : ∀ v ∈ Z, v.oneCell' = true := fun v hv => by
    rw [hZ] at hv
    simp only [Builtin.zeroCells, Value.cells] at hv
    simp at hv
    obtain ⟨k, hk, rfl⟩ := hv
    have : k % 2 = 0 ∨ k % 2 = 1 := by omega
    rcases this with e | e <;> (simp [e]; rfl)
  have hr := fun ty c => run_clear_s (P := Try.prog) w 25 24 ty _ Try.underlying25 zero_out g (i * 2) (n - i) c (by omega)
    (fun j hj => own_some ho _ (by rw [← hZ, hZl] at hj; omega)) (fun j hj => own_frozen ho _) (by rw [← hZ]; exact hZ1)
  rw [← hZ] at hr
  obtain ⟨h1, h2⟩ := grownBy_setCells (g := g) Z (i * 2) w
  have el : ((zs.take i).flatMap ovC).length = i * 2 := by rw [fl_len ovC_len, List.length_take]; omega
  have e : zs.flatMap ovC = (zs.take i).flatMap ovC ++ (zs.drop i).flatMap ovC := by rw [← List.flatMap_append, List.take_append_drop]
  have el2 : ((zs.drop i).flatMap ovC).length = (n - i) * 2 := by rw [fl_len ovC_len, List.length_drop, hz]
  have ho2 := ho
  rw [e] at ho2
  have h3 := own_setCells Z _ _ w ho2 (by rw [hZl, el2]; exact Nat.le_refl _)
  rw [el] at h3
  refine ⟨_, hr, ?_, h1, ⟨h1.os, h1.tape, h1.output, h1.size, fun k hk hne => ?_⟩, h2⟩
  · obtain ⟨q1, q2⟩ := h3
    refine ⟨el, ?_⟩
    rcases q2 with ⟨h', _⟩ | ⟨g', cap', cur, h', hb, hg, hnc, hcm, hcs, htake⟩
    · simp at h'
    · simp only [Value.slice.injEq, Option.some.injEq, Addr.mk.injEq, and_true, true_and] at h'
      obtain ⟨rfl, rfl⟩ := h'
      refine .inr ⟨g, n, cur, rfl, hb, hg, by omega, hcm, hcs, ?_⟩
      have := congrArg (List.take (i * 2)) htake
      rw [List.take_take, Nat.min_eq_left (by omega), List.take_left' el] at this
      exact this
  · have : k ≠ g := fun e => hne (by rw [e])
    exact setCells_other Z (i * 2) w k this
/-- One element of a row of the call's own is set. -/
theorem set_one {b g n i : Nat} {zs : List OV} {w : World} (x : OV) (ho : w.ownsRow b 24 2 (.slice (some ⟨g, 0, none⟩) n n) n (zs.flatMap ovC)) (hz : zs.length = n) (hi : i < n) :
    ((w.setCell ⟨g, i * 2, none⟩ x.m).setCell ⟨g, i * 2 + 1, none⟩ x.r).ownsRow b 24 2 (.slice (some ⟨g, 0, none⟩) n n) n ((zs.take i ++ x :: zs.drop (i + 1)).flatMap ovC) ∧ w.grownBy ((w.setCell ⟨g, i * 2, none⟩ x.m).setCell ⟨g, i * 2 + 1, none⟩ x.r) (some g) ∧ Below g w ((w.setCell ⟨g, i * 2, none⟩ x.m).setCell ⟨g, i * 2 + 1, none⟩ x.r) := by
  have el : ((zs.take i).flatMap ovC).length = i * 2 := by rw [fl_len ovC_len, List.length_take]; omega
  have e : zs.flatMap ovC = (zs.take i).flatMap ovC ++ (zs.drop i).flatMap ovC := by rw [← List.flatMap_append, List.take_append_drop]
  have el2 : ((zs.drop i).flatMap ovC).length = (n - i) * 2 := by rw [fl_len ovC_len, List.length_drop, hz]
  have ed : (zs.drop i).flatMap ovC = [zs[i].m, zs[i].r] ++ (zs.drop (i + 1)).flatMap ovC := by rw [List.drop_eq_getElem_cons (by omega)]; rfl
  rw [e] at ho
  have h3 := own_setCells [x.m, x.r] _ _ w ho (by rw [el2]; show 2 ≤ _; omega)
  rw [el, ed] at h3
  refine ⟨?_, ⟨?_, ?_⟩⟩
  · rw [List.flatMap_append, List.flatMap_cons]
    exact h3
  · obtain ⟨h1, h2⟩ := grownBy_setCells (g := g) [x.m, x.r] (i * 2) w
    exact ⟨h1.os, h1.tape, h1.output, h1.size, fun k hk hne => setCells_other [x.m, x.r] (i * 2) w k (fun e => hne (by rw [e]))⟩
  · exact (grownBy_setCells (g := g) [x.m, x.r] (i * 2) w).1
structure DelK (ys bs : List OV) (n g0 b : Nat) (w : World) (i j : Nat) (zs : List OV) (wr : World) : Prop where
  len : zs.length = n
  own : wr.ownsRow b 24 2 (.slice (some ⟨g0, 0, none⟩) n n) n (zs.flatMap ovC)
  pre : zs.take i = (ys.take j).filter (kp bs)
  post : zs.drop j = ys.drop j
  ij : i < j
  jn : j ≤ n
  each : EaO b wr ys
  below : Below g0 w wr
theorem DelK.grown {ys bs : List OV} {n g0 b i j : Nat} {w wr W : World} {zs : List OV} (h : DelK ys bs n g0 b w i j zs wr) (hb : Below wr.heap.size wr W) : DelK ys bs n g0 b w i j zs W :=
  { h with own := own_below h.own hb, each := h.each.below hb, below := h.below.trans (hb.mono (Nat.le_of_lt (h.own.lt g0 rfl).2)) }
theorem DelK.at {ys bs : List OV} {n g0 b i j : Nat} {w wr : World} {zs : List OV} (h : DelK ys bs n g0 b w i j zs wr) (hj : j < n) (hy : j < ys.length) : wr.cell? ⟨g0, j * 2, none⟩ = some ys[j].m ∧ wr.cell? ⟨g0, j * 2 + 1, none⟩ = some ys[j].r := by
  have hz : j < zs.length := by rw [h.len]; exact hj
  have e : zs[j] = ys[j] := by
    have := congrArg (fun l => l[0]?) h.post
    simp only [List.getElem?_drop, Nat.add_zero] at this
    rw [List.getElem?_eq_getElem hz, List.getElem?_eq_getElem hy] at this
    exact Option.some.inj this
  rw [← e]
  exact ⟨(h.own.cellAt _ (by omega)).trans ((fl_at ovC_len zs j 0 hz (by omega)).trans rfl), (h.own.cellAt _ (by omega)).trans ((fl_at ovC_len zs j 1 hz (by omega)).trans rfl)⟩
theorem DelK.there {ys bs : List OV} {n g0 b i j : Nat} {w wr : World} {zs : List OV} (h : DelK ys bs n g0 b w i j zs wr) (hi : i < n) (hz : i < zs.length) : wr.cell? ⟨g0, i * 2, none⟩ = some zs[i].m ∧ wr.cell? ⟨g0, i * 2 + 1, none⟩ = some zs[i].r :=
  ⟨(h.own.cellAt _ (by omega)).trans ((fl_at ovC_len zs i 0 hz (by omega)).trans rfl), (h.own.cellAt _ (by omega)).trans ((fl_at ovC_len zs i 1 hz (by omega)).trans rfl)⟩
theorem DelK.skip {ys bs : List OV} {n g0 b i j : Nat} {w wr : World} {zs : List OV} (h : DelK ys bs n g0 b w i j zs wr) (hj : j < n) (hy : j < ys.length) (hk : kp bs ys[j] = false) : DelK ys bs n g0 b w i (j + 1) zs wr :=
  { h with
    pre := by rw [filt_snoc hy, hk, h.pre]; simp
    post := by rw [← List.tail_drop, ← List.tail_drop, h.post]
    ij := by have := h.ij; omega
    jn := hj }
theorem DelK.put {ys bs : List OV} {n g0 b i j : Nat} {w wr : World} {zs : List OV} (h : DelK ys bs n g0 b w i j zs wr) (hi : i < n) (hj : j < n) (hy : j < ys.length) (hk : kp bs ys[j] = true) :
    DelK ys bs n g0 b w (i + 1) (j + 1) (zs.take i ++ ys[j] :: zs.drop (i + 1)) ((wr.setCell ⟨g0, i * 2, none⟩ ys[j].m).setCell ⟨g0, i * 2 + 1, none⟩ ys[j].r) := by
  obtain ⟨h1, h2, h3⟩ := set_one ys[j] h.own h.len hi
  have hij := h.ij
  have hl := h.len
  have tl : (zs.take i).length = i := by rw [List.length_take]; omega
  exact {
    len := by simp; omega
    own := h1
    pre := by
      rw [filt_snoc hy, hk, ← h.pre, List.take_append, tl, List.take_of_length_le (l := zs.take i) (by omega), show i + 1 - i = 1 by omega]; simp
    post := by
      rw [List.drop_append, tl, List.drop_of_length_le (by omega), show j + 1 - i = (j - i) + 1 by omega, List.drop_succ_cons, List.drop_drop, show i + 1 + (j - i) = j + 1 by omega, List.nil_append]
      rw [← List.tail_drop, ← List.tail_drop, h.post]
    ij := by omega
    jn := hj
    each := h.each.grown h.own h2
    below := h.below.trans h3 }
def DelRet (ys bs : List OV) (b g0 n : Nat) (w : World) (e : Ending) (w' : World) : Prop :=
  ∃ i, i ≤ n ∧ ((ys.filter (kp bs)).length = i) ∧ e = .returned (.slice (some ⟨g0, 0, none⟩) i n) ∧ OwnOs b w' (.slice (some ⟨g0, 0, none⟩) i n) (ys.filter (kp bs)) ∧ Below g0 w w'
set_option maxHeartbeats 8000000 in
set_option maxRecDepth 100000 in
theorem delf_any {G B g0 b n : Nat} {vb : Value} {bs ys : List OV} (w : World) (h : ClK G B vb bs w) (hGg : G < g0) (hBg : B ≤ g0) (hl : bs.length ≤ 1000000) (hsr : Srt (os bs)) (hy : ys.length = n) (hn : n ≤ 1000000)
    (ho : w.ownsRow b 24 2 (.slice (some ⟨g0, 0, none⟩) n n) n (ys.flatMap ovC)) (he : EaO b w ys) :
    Calls Try.prog 36 #[.slice (some ⟨g0, 0, none⟩) n n, .func (.func 37) #[] #[.pointer (some ⟨G, 0, none⟩)]] w (DelRet ys bs b g0 n w) := by
  have HI := Lib.hid (ixout_any w h hl hsr hy hn ho he)
  have HC := Lib.hid (fun (i : Nat) (hi : i < ys.length) (W : World) (hW : Below g0 w W) (hE : EaO b W ys) => minus1_any W (h.below hW hGg hBg) (hE.ok ys[i] (List.getElem_mem hi)).out (Nat.le_refl _) hl hsr)
  have HSL := Lib.hid (fun (i : Nat) (hi : i < ys.length) => And.intro (own_slice (he ys[i] (List.getElem_mem hi)).1) (own_slice (he ys[i] (List.getElem_mem hi)).2))
  have HO := Lib.hid ho
  have HE := Lib.hid he
  have HY := Lib.hid hy
  have HG := Lib.hid (ho.lt g0 rfl).2
  clear ho he h hl hsr hy hGg hBg
  go_enter Try.func36, Try.ntmps36
  go_wp2_with fail
  refine HI.out.mono ?_
  rintro e w1 ⟨r, rfl, hr, hb1⟩
  have HB1 := Lib.hid hb1.1
  rcases hr with ⟨rfl, hall⟩ | ⟨i, hin, rfl, hki, hti⟩
  · have HR := Lib.hid (show DelRet ys bs b g0 n w (.returned (.slice (some ⟨g0, 0, none⟩) n n)) w1 from ⟨n, Nat.le_refl _, by rw [hall]; exact HY.out, rfl, by
      rw [hall]
      exact ⟨by show World.ownsRow _ _ _ _ _ _ _; rw [HY.out]; exact own_below HO.out HB1.out, HE.out.below HB1.out⟩, HB1.out.mono (Nat.le_of_lt HG.out)⟩)
    clear hall hb1
    go_wp2
    go_ret
    exact HR.out
  · have HK0 := Lib.hid (show DelK ys bs n g0 b w i (i + 1) ys w1 from { len := HY.out, own := own_below HO.out HB1.out, pre := by rw [filt_snoc hin, hki, hti]; simp, post := rfl, ij := by omega, jn := by have := HY.out; omega, each := HE.out.below HB1.out, below := HB1.out.mono (Nat.le_of_lt HG.out) })
    have hni : ((i : Int) == -1) = false := beq_eq_false_iff_ne.2 (by omega)
    have hin2 : i < n := by have := HY.out; omega
    clear hti hki hb1 hin
    go_wp2
    go_loopw [5, 6] (fun x y wr => ∃ (i j : Nat) (zs : List OV), x = .int .i64 i ∧ y = .int .i64 j ∧ i < n ∧ j ≤ n ∧ Hid (DelK ys bs n g0 b w i j zs wr)) (fun x y _ => n - (intOf y).toNat)
    case atStart => exact ⟨i, i + 1, ys, rfl, by go_num, hin2, by omega, HK0⟩
    case round =>
      obtain ⟨i, j, zs, rfl, rfl, hi, hj, HK⟩ := hrel
      by_cases hlt : j < n
      · have hjy : j < ys.length := by have := HY.out; omega
        have hiz : i < zs.length := by have := HK.out.len; omega
        obtain ⟨d1, d2⟩ := HK.out.at hlt hjy
        obtain ⟨⟨A1, c1, e1⟩, A2, c2, e2⟩ := HSL.out j hjy
        have HC1 := HC.out j hjy
        have HSK := Lib.hid (fun (W : World) (h : DelK ys bs n g0 b w i j zs W) (hk : kp bs ys[j] = false) => h.skip hlt hjy hk)
        have HPT := Lib.hid (fun (W : World) (h : DelK ys bs n g0 b w i j zs W) (hk : kp bs ys[j] = true) => h.put hi hlt hjy hk)
        have HTH := Lib.hid (fun (W : World) (h : DelK ys bs n g0 b w i j zs W) => h.there hi hiz)
        have hkp : kp bs ys[j] = !decide (ys[j].o ∈ os bs) := by unfold kp; exact decide_not
        obtain ⟨bb, hbb⟩ : ∃ b, b = decide (ys[j].o ∈ os bs) := ⟨_, rfl⟩
        rw [← hbb] at HC1 hkp
        rw [hkp] at HSK HPT
        rw [e1] at d1 HC1 HPT
        rw [e2] at d2 HC1 HPT
        obtain ⟨y, hy⟩ : ∃ y, y = ys[j] := ⟨_, rfl⟩
        rw [← hy] at d1 d2 HC1 HPT
        obtain ⟨zm, hzm⟩ : ∃ z, z = zs[i].m := ⟨_, rfl⟩
        obtain ⟨zr, hzr⟩ : ∃ z, z = zs[i].r := ⟨_, rfl⟩
        rw [← hzm, ← hzr] at HTH
        have HC2 := Lib.hid HC1
        clear HC1 e1 e2 hkp hbb hzm hzr hy hjy hiz
        generalize y.o.1.length = l1 at *
        generalize y.o.2.length = l2 at *
        have HI2 := Lib.hid hi
        go_upto_region 8 with fail
        obtain ⟨gb, hgb⟩ : ∃ x, x = wr.heap.size := ⟨_, rfl⟩
        obtain ⟨W5, hW5⟩ : ∃ W, W = wr.alloc (.cells #[.slice A1 l1 c1, .slice A2 l2 c2] 24) := ⟨_, rfl⟩
        have HL5 := Lib.hid (show Below wr.heap.size wr W5 from by rw [hW5]; exact below_al (Below.refl _ _) _)
        have hx5 := box2 (w := wr) (.slice A1 l1 c1) (.slice A2 l2 c2) 24
        rw [← hW5, ← hgb] at hx5
        rw [← hW5]
        (try rw [← hgb])
        obtain ⟨x0, x1⟩ := hx5
        have HK5 := Lib.hid (HK.out.grown HL5.out)
        clear hW5 hgb d1 d2
        go_wp2_with fail
        refine (HC2.out _ HK5.out.below HK5.out.each).mono ?_
        rintro e W6 ⟨rfl, hb6⟩
        have HK6 := Lib.hid (HK5.out.grown hb6.1)
        replace x0 := kc hb6.1 x0
        replace x1 := kc hb6.1 x1
        clear hb6
        cases bb
        · obtain ⟨z0, z1⟩ := HTH.out _ HK6.out
          have f0 := own_frozen HK6.out.own (i * 2)
          have f1 := own_frozen HK6.out.own (i * 2 + 1)
          have HK7 := Lib.hid (HPT.out _ HK6.out rfl)
          clear HPT HSK HTH
          go_wp2
          go_roundw
          case rel => exact ⟨i + 1, j + 1, _, by go_num, by go_num, by have := HK.out.ij; omega, by omega, HK7⟩
          case measure => simp [intOf]; omega
        · have HK7 := Lib.hid (HSK.out _ HK6.out rfl)
          clear HPT HSK HTH x0 x1
          go_wp2
          go_roundw
          case rel => exact ⟨i, j + 1, zs, rfl, by go_num, hi, by omega, HK7⟩
          case measure => simp [intOf]; omega
      · obtain rfl : n = j := by omega
        obtain ⟨W8, hcl, hown8, hb8, hg8, hs8⟩ := clear_tail HK.out.own HK.out.len hi
        have HPRE := Lib.hid (show zs.take i = ys.filter (kp bs) from by rw [HK.out.pre, List.take_of_length_le (by have := HY.out; omega)])
        have HIL := Lib.hid (show (ys.filter (kp bs)).length = i from by rw [← HPRE.out, List.length_take, HK.out.len]; omega)
        have HR := Lib.hid (show DelRet ys bs b g0 n w (.returned (.slice (some ⟨g0, 0, none⟩) i n)) W8 from ⟨i, Nat.le_of_lt hi, HIL.out, rfl, by
          refine ⟨?_, fun y hy => ?_⟩
          · show World.ownsRow _ _ _ _ _ _ _
            rw [HIL.out, ← HPRE.out]; exact hown8
          · exact HK.out.each.grown HK.out.own hg8 y (List.mem_filter.1 hy).1, HK.out.below.trans hb8⟩)
        have hni2 : ¬ n = i := by omega
        have hile : i ≤ n := by omega
        clear hown8 hb8 hg8 hs8
        go_wp2
        go_ret
        exact HR.out
end Go.Proofs.Ytodpajnpnobfmaa
