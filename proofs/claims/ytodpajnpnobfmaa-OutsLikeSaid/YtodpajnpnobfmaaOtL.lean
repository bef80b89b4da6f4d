/-
  ENDS: slices.CompactFunc over a row of the call's own that is sorted.
-/
import Derived.Test.YtodpajnpnobfmaaOtK
namespace Go.Proofs.Ytodpajnpnobfmaa
open Go.RowKit
set_option linter.unusedVariables false
set_option linter.unusedSimpArgs false
open OtM

theorem srtw_new {l : List Ot} (h : SrtW l) {p m : Nat} (hm : m < l.length) (hp : m = p + 1) (hne : ¬ l[m] = l[p]'(by omega)) : ∀ x ∈ l.take m, Lt x l[m] := by
  intro x hx
  obtain ⟨q, hq, e⟩ := List.mem_iff_getElem.1 hx
  rw [List.length_take] at hq
  rw [List.getElem_take] at e
  have h0 := List.pairwise_iff_getElem.1 h
  have h1 : Lt (l[p]'(by omega)) l[m] := by
    rcases tri (l[p]'(by omega)) l[m] with k | k | k
    · exact k
    · exact absurd k.symm hne
    · exact absurd k (h0 p m (by omega) hm (by omega))
  rcases Nat.lt_or_ge q p with k | k
  · rw [← e]
    rcases tri (l[q]'(by omega)) (l[p]'(by omega)) with t | t | t
    · exact t.trans h1
    · rw [t]; exact h1
    · exact absurd t (h0 q p (by omega) (by omega) k)
  · obtain rfl : q = p := by omega
    rw [← e]; exact h1
structure CmK (zs : List OV) (n cap g b B : Nat) (w : World) (i m : Nat) (cur : List OV) (wr : World) : Prop where
  len : cur.length = n
  own : wr.ownsRow b 24 2 (.slice (some ⟨g, 0, none⟩) n cap) n (cur.flatMap ovC)
  srt : Srt (os (cur.take i))
  mem : ∀ x, x ∈ os (cur.take i) ↔ x ∈ os (zs.take m)
  sub : ∀ y ∈ cur, y ∈ zs
  post : cur.drop (m - 1) = zs.drop (m - 1)
  im : i < m
  mn : m ≤ n
  below : Below B w wr
theorem CmK.grown {zs cur : List OV} {n cap g b B i m : Nat} {w wr W : World} (h : CmK zs n cap g b B w i m cur wr) (hb : Below wr.heap.size wr W) (hB : B ≤ g) : CmK zs n cap g b B w i m cur W :=
  { h with own := own_below h.own hb, below := h.below.trans (hb.mono (Nat.le_trans hB (Nat.le_of_lt (h.own.lt g rfl).2))) }
theorem CmK.at {zs cur : List OV} {n cap g b B i m : Nat} {w wr : World} (h : CmK zs n cap g b B w i m cur wr) (hz : zs.length = n) (q : Nat) (hq : q < zs.length) (hm : m ≤ q + 1) : wr.cell? ⟨g, q * 2, none⟩ = some zs[q].m ∧ wr.cell? ⟨g, q * 2 + 1, none⟩ = some zs[q].r := by
  have hc : q < cur.length := by rw [h.len]; omega
  have e : cur[q] = zs[q] := by
    have := congrArg (fun l => l[q - (m - 1)]?) h.post
    simp only [List.getElem?_drop] at this
    have hi := h.im
    rw [show m - 1 + (q - (m - 1)) = q by omega, List.getElem?_eq_getElem hc, List.getElem?_eq_getElem hq] at this
    exact Option.some.inj this
  rw [← e]
  exact ⟨(h.own.cellAt _ (by omega)).trans ((fl_at ovC_len cur q 0 hc (by omega)).trans rfl), (h.own.cellAt _ (by omega)).trans ((fl_at ovC_len cur q 1 hc (by omega)).trans rfl)⟩
theorem CmK.there {zs cur : List OV} {n cap g b B i m : Nat} {w wr : World} (h : CmK zs n cap g b B w i m cur wr) (hi : i < cur.length) : wr.cell? ⟨g, i * 2, none⟩ = some cur[i].m ∧ wr.cell? ⟨g, i * 2 + 1, none⟩ = some cur[i].r := by
  have := h.len
  exact ⟨(h.own.cellAt _ (by omega)).trans ((fl_at ovC_len cur i 0 hi (by omega)).trans rfl), (h.own.cellAt _ (by omega)).trans ((fl_at ovC_len cur i 1 hi (by omega)).trans rfl)⟩
theorem os_mem_take {zs : List OV} {m : Nat} (h : m < zs.length) (x : Ot) : x ∈ os (zs.take (m + 1)) ↔ x ∈ os (zs.take m) ∨ x = zs[m].o := by
  rw [os_take h, List.mem_append, List.mem_singleton]
theorem CmK.skip {zs cur : List OV} {n cap g b B i m p : Nat} {w wr : World} (h : CmK zs n cap g b B w i m cur wr) (hm : m < zs.length) (hz : zs.length = n) (hp : m = p + 1) (he : zs[m].o = (zs[p]'(by omega)).o) : CmK zs n cap g b B w i (m + 1) cur wr :=
  { h with
    mem := fun x => by
      rw [h.mem, os_mem_take hm]
      constructor
      · exact Or.inl
      · rintro (k | k)
        · exact k
        · subst hp
          rw [k, he, os_mem_take (show p < zs.length by omega)]; exact .inr rfl
    post := by rw [Nat.add_sub_cancel, show m = m - 1 + 1 by omega, ← List.tail_drop, ← List.tail_drop, h.post]
    im := by have := h.im; omega
    mn := by omega }
theorem CmK.put {zs cur : List OV} {n cap g b B i m p : Nat} {w wr : World} (h : CmK zs n cap g b B w i m cur wr) (hs : SrtW (os zs)) (hB : B ≤ g) (hm : m < zs.length) (hz : zs.length = n) (hp : m = p + 1) (he : ¬ zs[m].o = (zs[p]'(by omega)).o) :
    CmK zs n cap g b B w (i + 1) (m + 1) (cur.take i ++ zs[m] :: cur.drop (i + 1)) ((wr.setCell ⟨g, i * 2, none⟩ zs[m].m).setCell ⟨g, i * 2 + 1, none⟩ zs[m].r) := by
  have hl := h.len
  have him := h.im
  have tl : (cur.take i).length = i := by rw [List.length_take]; omega
  have hnew := srtw_new (l := os zs) hs (p := p) (m := m) (by simpa using hm) hp (by simpa using he)
  have et : (cur.take i ++ zs[m] :: cur.drop (i + 1)).take (i + 1) = cur.take i ++ [zs[m]] := by
    rw [List.take_append, tl, List.take_of_length_le (l := cur.take i) (by omega), show i + 1 - i = 1 by omega]; simp
  have e : cur.flatMap ovC = (cur.take i).flatMap ovC ++ (cur.drop i).flatMap ovC := by rw [← List.flatMap_append, List.take_append_drop]
  have el : ((cur.take i).flatMap ovC).length = i * 2 := by rw [fl_len ovC_len, tl]
  have el2 : ((cur.drop i).flatMap ovC).length = (n - i) * 2 := by rw [fl_len ovC_len, List.length_drop, hl]
  have ed : (cur.drop i).flatMap ovC = [cur[i].m, cur[i].r] ++ (cur.drop (i + 1)).flatMap ovC := by rw [List.drop_eq_getElem_cons (by omega)]; rfl
  have ho := h.own
  rw [e] at ho
  have h3 := own_setCells [zs[m].m, zs[m].r] _ _ wr ho (by rw [el2]; show 2 ≤ _; omega)
  rw [el, ed] at h3
  exact {
    len := by simp; omega
    own := by rw [List.flatMap_append, List.flatMap_cons]; exact h3
    srt := by
      rw [et]
      show Srt (List.map _ _)
      rw [List.map_append]
      refine List.pairwise_append.2 ⟨h.srt, List.pairwise_singleton _ _, fun x hx y hy => ?_⟩
      have hy : y = zs[m].o := by simpa using hy
      rw [hy]
      have := hnew x (by have := (h.mem x).1 hx; simpa [os, List.map_take] using this)
      simpa using this
    mem := fun x => by
      rw [et, os_mem_take hm, ← h.mem]
      show x ∈ List.map _ _ ↔ _
      rw [List.map_append, List.mem_append]; simp
    sub := fun y hy => by
      rcases List.mem_append.1 hy with hy | hy
      · exact h.sub y (List.mem_of_mem_take hy)
      · rcases List.mem_cons.1 hy with rfl | hy
        · exact List.getElem_mem _
        · exact h.sub y (List.mem_of_mem_drop hy)
    post := by
      rw [Nat.add_sub_cancel, List.drop_append, tl, List.drop_of_length_le (by omega), show m - i = (m - i - 1) + 1 by omega, List.drop_succ_cons, List.drop_drop, show i + 1 + (m - i - 1) = m by omega, List.nil_append]
      rw [show m = m - 1 + 1 by omega, ← List.tail_drop, ← List.tail_drop, h.post]
    im := by omega
    mn := by omega
    below := h.below.trans ((grownBy_setCells (g := g) [zs[m].m, zs[m].r] (i * 2) wr).1.mono hB) }
/-- The tail of a row of ends is cleared: the head stays. -/
theorem clear_tail2 {b g n i cap : Nat} {zs : List OV} {w : World} (ho : w.ownsRow b 24 2 (.slice (some ⟨g, 0, none⟩) n cap) n (zs.flatMap ovC)) (hz : zs.length = n) (hi : i < n) :
    ∃ w', (∀ ty c, (Builtin.clear_ #[25] ty #[.slice (some ⟨g, i * 2, none⟩) (n - i) c]).run Try.prog w = .ok (.tuple #[]) w') ∧ w'.ownsRow b 24 2 (.slice (some ⟨g, 0, none⟩) i cap) i ((zs.take i).flatMap ovC) ∧ Below g w w' ∧ w.grownBy w' (some g) ∧ (w'.heap.size = w.heap.size) := by
  obtain ⟨Z, hZ⟩ : ∃ Z, Z = (Builtin.zeroCells (Value.agg #[.slice none 0 0, .slice none 0 0]).cells (n - i)).toList := ⟨_, rfl⟩
  have hZl : Z.length = (n - i) * 2 := by rw [hZ, Array.length_toList]; simp [Builtin.zeroCells, Value.cells]
  have hZ1 : ∀ v ∈ Z, v.oneCell' = true := fun v hv => by
    rw [hZ] at hv
    simp only [Builtin.zeroCells, Value.cells] at hv
    simp at hv
    obtain ⟨k, hk, rfl⟩ := hv
    have : k % 2 = 0 ∨ k % 2 = 1 := by omega
    rcases this with e | e <;> (simp [e]; rfl)
  have hr := fun ty c => run_clear_s (P := Try.prog) w 25 24 ty _ Try.underlying25 zero_out g (i * 2) (n - i) c (by omega)
    (fun j hj => own_some ho _ (by rw [← hZ, hZl] at hj; omega)) (fun j hj => own_frozen ho _) (by rw [← hZ]; exact hZ1)
  rw [← hZ] at hr
  obtain ⟨h1, h2⟩ := grownBy_setCells (g := g) Z (i * 2) w
  have el : ((zs.take i).flatMap ovC).length = i * 2 := by rw [fl_len ovC_len, List.length_take]; omega
  have e : zs.flatMap ovC = (zs.take i).flatMap ovC ++ (zs.drop i).flatMap ovC := by rw [← List.flatMap_append, List.take_append_drop]
  have el2 : ((zs.drop i).flatMap ovC).length = (n - i) * 2 := by rw [fl_len ovC_len, List.length_drop, hz]
  have ho2 := ho
  rw [e] at ho2
  have h3 := own_setCells Z _ _ w ho2 (by rw [hZl, el2]; exact Nat.le_refl _)
  rw [el] at h3
  refine ⟨_, hr, ?_, h1, ⟨h1.os, h1.tape, h1.output, h1.size, fun k hk hne => ?_⟩, h2⟩
  · obtain ⟨q1, q2⟩ := h3
    refine ⟨el, ?_⟩
    rcases q2 with ⟨h', _⟩ | ⟨g', cap', cur, h', hb, hg, hnc, hcm, hcs, htake⟩
    · simp at h'
    · simp only [Value.slice.injEq, Option.some.injEq, Addr.mk.injEq, and_true, true_and] at h'
      obtain ⟨rfl, rfl⟩ := h'
      refine .inr ⟨g, cap, cur, rfl, hb, hg, by omega, hcm, hcs, ?_⟩
      have := congrArg (List.take (i * 2)) htake
      rw [List.take_take, Nat.min_eq_left (by omega), List.take_left' el] at this
      exact this
  · have : k ≠ g := fun e => hne (by rw [e])
    exact setCells_other Z (i * 2) w k this
def CmRet (zs : List OV) (g b B cap : Nat) (w : World) (e : Ending) (w' : World) : Prop :=
  ∃ (i : Nat) (ys : List OV), e = .returned (.slice (some ⟨g, 0, none⟩) i cap) ∧ ys.length = i ∧ i ≤ zs.length ∧ w'.ownsRow b 24 2 (.slice (some ⟨g, 0, none⟩) i cap) i (ys.flatMap ovC) ∧ Srt (os ys) ∧ (∀ x, x ∈ os ys ↔ x ∈ os zs) ∧ (∀ y ∈ ys, y ∈ zs) ∧ Below B w w'
set_option maxHeartbeats 8000000 in
set_option maxRecDepth 100000 in
theorem compact_any {B b g n cap : Nat} {zs : List OV} (w : World) (ho : w.ownsRow b 24 2 (.slice (some ⟨g, 0, none⟩) n cap) n (zs.flatMap ovC)) (hz : zs.length = n) (hn : n ≤ 1000000) (hB : B ≤ b) (hok : ∀ z ∈ zs, OvOk B w z) (hs : SrtW (os zs)) :
    Calls Try.prog 31 #[.slice (some ⟨g, 0, none⟩) n cap, .func (.func 32) #[] #[]] w (CmRet zs g b B cap w) := by
  have hg := ho.lt g rfl
  have hBg : B ≤ g := Nat.le_trans hB hg.1
  have HBW : B ≤ w.heap.size := by omega
  have HC := Lib.hid (fun (i j : Nat) (hi : i < zs.length) (hj : j < zs.length) (W : World) (hW : Below B w W) => alike_any W ((hok zs[i] (List.getElem_mem hi)).below hW).out ((hok zs[j] (List.getElem_mem hj)).below hW).out (Nat.le_trans HBW hW.size))
  have HSL := Lib.hid (fun (k : Nat) (hk : k < zs.length) => And.intro (hok zs[k] (List.getElem_mem hk)).1.sl (hok zs[k] (List.getElem_mem hk)).2.sl)
  have HO := Lib.hid ho
  have HZ := Lib.hid hz
  have HS := Lib.hid hs
  have HBG := Lib.hid hBg
  have HBS := Lib.hid (show B ≤ w.heap.size from HBW)
  have hcap : n ≤ cap ∧ cap ≤ maxLen := by
    rcases ho.2 with ⟨h', _⟩ | ⟨g', cap', cur, h', hb, hg, hnc, hcm, hcs, htake⟩
    · simp at h'
    · simp only [Value.slice.injEq, Option.some.injEq, Addr.mk.injEq, and_true, true_and] at h'
      obtain ⟨rfl, rfl⟩ := h'
      exact ⟨hnc, hcm⟩
  unfold maxLen at hcap
  obtain ⟨hc1, hc2⟩ := hcap
  by_cases h2 : n < 2
  · have HR := Lib.hid (show CmRet zs g b B cap w (.returned (.slice (some ⟨g, 0, none⟩) n cap)) w from ⟨n, zs, rfl, hz, by omega, ho, by
      match zs, hz with
      | [], _ => exact List.Pairwise.nil
      | [z], _ => exact List.pairwise_singleton _ _
      | _ :: _ :: r, h => simp at h; omega, fun _ => Iff.rfl, fun _ h => h, Below.refl _ _⟩)
    clear ho hz hs hBg HBW hok hg
    go_enter Try.func31, Try.ntmps31
    go_wp2
    go_ret
    exact HR.out
  · have HST := Lib.hid (show ∀ (j k : Nat) (h1 : k < zs.length) (h0 : k = j + 1), Srt ((os zs).take k) → ¬ zs[k].o = (zs[j]'(by rw [h0] at h1; exact Nat.lt_of_succ_lt h1)).o → Srt ((os zs).take (k + 1)) from fun j k h1 h0 h he => by
      have := srtw_new (l := os zs) hs (p := j) (m := k) (by simpa using h1) h0 (by simpa using he)
      rw [List.take_succ_eq_append_getElem (by simpa using h1)]
      exact List.pairwise_append.2 ⟨h, List.pairwise_singleton _ _, fun x hx y hy => by rw [List.mem_singleton.1 hy]; exact this x hx⟩)
    have HK0 := Lib.hid (show ∀ (j k : Nat) (h1 : k < zs.length) (h0 : k = j + 1) (W : World), Srt ((os zs).take k) → zs[k].o = (zs[j]'(by rw [h0] at h1; exact Nat.lt_of_succ_lt h1)).o → Below w.heap.size w W → CmK zs n cap g b B w k (k + 1) zs W from fun j k h1 h0 W h he hW => {
      len := HZ.out
      own := own_below HO.out hW
      srt := by show Srt (List.map _ _); rw [List.map_take]; exact h
      mem := fun x => by
        rw [os_mem_take h1]
        constructor
        · exact Or.inl
        · rintro (q | q)
          · exact q
          · subst h0
            rw [q, he, os_mem_take (Nat.lt_of_succ_lt h1)]; exact .inr rfl
      sub := fun _ h => h
      post := rfl
      im := Nat.lt_succ_self _
      mn := by have := HZ.out; omega
      below := hW.mono HBS.out })
    clear ho hz hs hBg HBW hok hg
    go_enter Try.func31, Try.ntmps31
    go_wp2
    go_loopw [5] (fun i wr => ∃ j k : Nat, Hid (k = j + 1) ∧ k ≤ n ∧ i = .int .i64 k ∧ Hid (Srt ((os zs).take k)) ∧ Bg w wr) (fun i _ => n - (intOf i).toNat)
    case atStart => exact ⟨0, 1, Lib.hid rfl, by omega, rfl, Lib.hid (by cases os zs <;> simp), Bg.refl _⟩
    case round =>
      obtain ⟨j, k, HJ, hk, rfl, HSK, hB⟩ := hrel
      by_cases hlt : k < n
      · have hkx : k < zs.length := by have := HZ.out; omega
        have hjx : j < zs.length := by have := HJ.out; omega
        have hcc := fun q (hq : q < zs.length) => And.intro (kc hB.1 ((HO.out.cellAt (q * 2) (by have := HZ.out; omega)).trans ((fl_at ovC_len zs q 0 hq (by omega)).trans rfl))) (kc hB.1 ((HO.out.cellAt (q * 2 + 1) (by have := HZ.out; omega)).trans ((fl_at ovC_len zs q 1 hq (by omega)).trans rfl)))
        obtain ⟨d1, d2⟩ := hcc k hkx
        obtain ⟨e1, e2⟩ := hcc j hjx
        have HC1 := HC.out k j hkx hjx
        have HSL1 := HSL.out j hjx
        have HSL2 := HSL.out k hkx
        have HT := Lib.hid (fun (h : ¬ zs[k].o = zs[j].o) => HST.out j k hkx HJ.out HSK.out h)
        have HK := Lib.hid (fun (W : World) (hW : Below w.heap.size w W) (h : zs[k].o = zs[j].o) => HK0.out j k hkx HJ.out W HSK.out h hW)
        obtain ⟨x, hx⟩ : ∃ x, x = zs[j] := ⟨_, rfl⟩
        obtain ⟨y, hy⟩ : ∃ y, y = zs[k] := ⟨_, rfl⟩
        change _ = some zs[j].m at e1
        change _ = some zs[j].r at e2
        change _ = some zs[k].m at d1
        change _ = some zs[k].r at d2
        rw [← hx] at e1 e2 HC1 HSL1 HT HK
        rw [← hy] at d1 d2 HC1 HSL2 HT HK
        clear hx hy hcc hkx hjx
        obtain ⟨xm, xr, xo⟩ := x
        obtain ⟨ym, yr, yo⟩ := y
        dsimp only at d1 d2 e1 e2 HC1 HSL1 HSL2 HT HK
        obtain ⟨⟨A1, n1, c1, rfl⟩, A2, n2, c2, rfl⟩ := HSL1
        obtain ⟨⟨D1, n3, c3, rfl⟩, D2, n4, c4, rfl⟩ := HSL2
        have hsub : (k : Int) - 1 = (j : Int) := by have := HJ.out; omega
        have hwr : IntKind.i64.wrap (j : Int) = j := IntWalk.i64_in _ (by omega)
        have hjn : j < n := by have := HJ.out; omega
        obtain ⟨bb, hbb⟩ : ∃ b, b = decide (yo = xo) := ⟨_, rfl⟩
        rw [← hbb] at HC1
        have HBD := Lib.hid hbb
        have HC2 := Lib.hid HC1
        clear HC1 hbb
        have hS : wr.cell? ⟨g, k * 2, none⟩ = some (.slice D1 n3 c3) ∧ wr.cell? ⟨g, k * 2 + 1, none⟩ = some (.slice D2 n4 c4) ∧ wr.cell? ⟨g, j * 2, none⟩ = some (.slice A1 n1 c1) ∧ wr.cell? ⟨g, j * 2 + 1, none⟩ = some (.slice A2 n2 c2) ∧ Bg w wr := ⟨d1, d2, e1, e2, hB⟩
        clear d1 d2 e1 e2
        go_upto_region 6 with fail
        go_region_held3 (fun w' => w'.cell? ⟨g, k * 2, none⟩ = some (.slice D1 n3 c3) ∧ w'.cell? ⟨g, k * 2 + 1, none⟩ = some (.slice D2 n4 c4) ∧ w'.cell? ⟨g, j * 2, none⟩ = some (.slice A1 n1 c1) ∧ w'.cell? ⟨g, j * 2 + 1, none⟩ = some (.slice A2 n2 c2) ∧ Bg w w') (first | (exact keepE (by assumption) (by assumption)) | (exact keepE (by assumption) (Bg.dn _ 1)))
          (first | (go_at_call 32; refine (HC2.out _ ((bgE (by assumption)).1.mono HBS.out)).mono ?_; rintro e w' ⟨rfl, hb2⟩))
        all_goals
          rename_i hHeld
          have HBF := Lib.hid (bgE hHeld)
          clear hHeld hS hb2
          cases bb
          · have HE := Lib.hid (HT.out (of_decide_eq_false HBD.out.symm))
            clear HK HT
            go_wp2
            go_roundw
            case rel => exact ⟨k, k + 1, Lib.hid rfl, by omega, by go_num, HE, HBF.out⟩
            case measure => simp [intOf]; omega
          · have HK1 := Lib.hid (HK.out _ HBF.out.1 (of_decide_eq_true HBD.out.symm))
            clear HK HT HST HK0 HSK
            have hck : ¬ cap = k := by omega
            have hkn : k ≤ n := by omega
            have hkc : k ≤ cap := by omega
            clear HBD HC2
            go_wp2
            go_loopw [5, 7] (fun x y wr => ∃ (i p q m : Nat) (cur : List OV), x = .int .i64 i ∧ y = .int .i64 q ∧ Hid (q = p + 1) ∧ Hid (m = k + q) ∧ q ≤ n - k ∧ i < n ∧ Hid (CmK zs n cap g b B w i m cur wr)) (fun x y _ => n - k - (intOf y).toNat)
            case atStart => exact ⟨k, 0, 1, k + 1, zs, rfl, rfl, Lib.hid rfl, Lib.hid rfl, by omega, hlt, HK1⟩
            case round =>
              obtain ⟨i, p, q, m, cur, rfl, rfl, HP, HM, hq, hi, HK⟩ := hrel
              by_cases hlq : q < n - k
              · have hmx : m < zs.length := by have := HZ.out; have := HM.out; omega
                have hpx : k + p < zs.length := by have := HZ.out; have := HP.out; omega
                have hmp : m = (k + p) + 1 := by have := HM.out; have := HP.out; omega
                obtain ⟨d1, d2⟩ := HK.out.at HZ.out m hmx (by omega)
                obtain ⟨e1, e2⟩ := HK.out.at HZ.out (k + p) hpx (by omega)
                have HC1 := HC.out m (k + p) hmx hpx
                have HSL1 := HSL.out (k + p) hpx
                have HSL2 := HSL.out m hmx
                have hiz : i < cur.length := by have := HK.out.len; omega
                have HSK := Lib.hid (fun (W : World) (h : CmK zs n cap g b B w i m cur W) (e : zs[m].o = zs[k + p].o) => h.skip hmx HZ.out hmp e)
                have HPT := Lib.hid (fun (W : World) (h : CmK zs n cap g b B w i m cur W) (e : ¬ zs[m].o = zs[k + p].o) => h.put HS.out HBG.out hmx HZ.out hmp e)
                have HTH := Lib.hid (fun (W : World) (h : CmK zs n cap g b B w i m cur W) => h.there hiz)
                rw [show m * 2 = k * 2 + q * 2 from by have := HM.out; omega] at d1 d2
                rw [show (k + p) * 2 = k * 2 + p * 2 from by omega] at e1 e2
                obtain ⟨x, hx⟩ : ∃ x, x = zs[k + p] := ⟨_, rfl⟩
                obtain ⟨y, hy⟩ : ∃ y, y = zs[m] := ⟨_, rfl⟩
                rw [← hx] at e1 e2 HC1 HSL1 HSK HPT
                rw [← hy] at d1 d2 HC1 HSL2 HSK HPT
                obtain ⟨zm, hzm⟩ : ∃ z, z = cur[i].m := ⟨_, rfl⟩
                obtain ⟨zr, hzr⟩ : ∃ z, z = cur[i].r := ⟨_, rfl⟩
                rw [← hzm, ← hzr] at HTH
                clear hx hy hmx hpx hmp hiz hzm hzr
                obtain ⟨xm, xr, xo⟩ := x
                obtain ⟨ym, yr, yo⟩ := y
                dsimp only at d1 d2 e1 e2 HC1 HSL1 HSL2 HSK HPT
                obtain ⟨⟨A1, n1, c1, rfl⟩, A2, n2, c2, rfl⟩ := HSL1
                obtain ⟨⟨D1, n3, c3, rfl⟩, D2, n4, c4, rfl⟩ := HSL2
                have hsub2 : (q : Int) - 1 = (p : Int) := by have := HP.out; omega
                have hwr2 : IntKind.i64.wrap (p : Int) = p := IntWalk.i64_in _ (by omega)
                have hpn : p < n - k := by have := HP.out; omega
                obtain ⟨bb, hbb⟩ : ∃ b, b = decide (yo = xo) := ⟨_, rfl⟩
                rw [← hbb] at HC1
                have HBD := Lib.hid hbb
                have HC2 := Lib.hid HC1
                clear HC1 hbb
                have hS : wr.cell? ⟨g, k * 2 + q * 2, none⟩ = some (.slice D1 n3 c3) ∧ wr.cell? ⟨g, k * 2 + q * 2 + 1, none⟩ = some (.slice D2 n4 c4) ∧ wr.cell? ⟨g, k * 2 + p * 2, none⟩ = some (.slice A1 n1 c1) ∧ wr.cell? ⟨g, k * 2 + p * 2 + 1, none⟩ = some (.slice A2 n2 c2) ∧ Bg wr wr := ⟨d1, d2, e1, e2, Bg.refl _⟩
                clear d1 d2 e1 e2
                go_upto_region 11 with fail
                go_region_held3 (fun w' => w'.cell? ⟨g, k * 2 + q * 2, none⟩ = some (.slice D1 n3 c3) ∧ w'.cell? ⟨g, k * 2 + q * 2 + 1, none⟩ = some (.slice D2 n4 c4) ∧ w'.cell? ⟨g, k * 2 + p * 2, none⟩ = some (.slice A1 n1 c1) ∧ w'.cell? ⟨g, k * 2 + p * 2 + 1, none⟩ = some (.slice A2 n2 c2) ∧ Bg wr w') (first | (exact keepE (by assumption) (by assumption)) | (exact keepE (by assumption) (Bg.dn _ 1)))
                  (first | (go_at_call 32; refine (HC2.out _ (HK.out.below.trans ((bgE (by assumption)).1.mono (Nat.le_trans HBS.out HK.out.below.size)))).mono ?_; rintro e w' ⟨rfl, hb2⟩))
                all_goals
                  rename_i hHeld
                  have hbf := bgE hHeld
                  have HK5 := Lib.hid (HK.out.grown hbf.1 HBG.out)
                  obtain ⟨d1, d2, -⟩ := hHeld
                  clear hS hb2 hbf
                  cases bb
                  · obtain ⟨z0, z1⟩ := HTH.out _ HK5.out
                    have f0 := own_frozen HK5.out.own (i * 2)
                    have f1 := own_frozen HK5.out.own (i * 2 + 1)
                    have HK7 := Lib.hid (HPT.out _ HK5.out (of_decide_eq_false HBD.out.symm))
                    clear HPT HSK HTH
                    go_wp2
                    go_roundw
                    case rel => exact ⟨i + 1, q, q + 1, m + 1, _, by go_num, by go_num, Lib.hid rfl, Lib.hid (by have := HM.out; omega), by omega, by have h1 := HK.out.im; have h2 := HM.out; omega, HK7⟩
                    case measure => simp [intOf]; omega
                  · have HK7 := Lib.hid (HSK.out _ HK5.out (of_decide_eq_true HBD.out.symm))
                    clear HPT HSK HTH d1 d2
                    go_wp2
                    go_roundw
                    case rel => exact ⟨i, q, q + 1, m + 1, cur, rfl, by go_num, Lib.hid rfl, Lib.hid (by have := HM.out; omega), by omega, hi, HK7⟩
                    case measure => simp [intOf]; omega
              · have hmn : m = n := by have := HM.out; omega
                have HMN := Lib.hid hmn
                obtain ⟨W8, hcl, hown8, hb8, hg8, hs8⟩ := clear_tail2 HK.out.own HK.out.len hi
                have HR := Lib.hid (show CmRet zs g b B cap w (.returned (.slice (some ⟨g, 0, none⟩) i cap)) W8 from ⟨i, cur.take i, rfl, by rw [List.length_take, HK.out.len]; omega, by have := HZ.out; omega, hown8, HK.out.srt, fun x => by rw [HK.out.mem, HMN.out, List.take_of_length_le (by have := HZ.out; omega)], fun y hy => HK.out.sub y (List.mem_of_mem_take hy), HK.out.below.trans (hb8.mono HBG.out)⟩)
                have hci : ¬ cap = i := by omega
                have hile : i ≤ n := by omega
                clear hown8 hb8 hg8 hs8 hmn
                go_wp2
                go_ret
                exact HR.out
      · obtain rfl : n = k := by omega
        have HR := Lib.hid (show CmRet zs g b B cap w (.returned (.slice (some ⟨g, 0, none⟩) n cap)) wr from ⟨n, zs, rfl, HZ.out, by have := HZ.out; omega, own_below HO.out hB.1, by
          have := HSK.out
          rwa [List.take_of_length_le (by have := HZ.out; simp; omega)] at this, fun _ => Iff.rfl, fun _ h => h, hB.1.mono HBS.out⟩)
        clear HSK
        go_wp2
        go_ret
        exact HR.out
end Go.Proofs.Ytodpajnpnobfmaa
