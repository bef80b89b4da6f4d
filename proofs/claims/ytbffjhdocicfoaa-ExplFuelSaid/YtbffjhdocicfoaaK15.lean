/-
  STATES OF THE CALL's OWN, 3: what a step's stores make of them.
  slices.Clone of numbers, writes and threads; (row).at, (row).lacks.
  STATES OF THE CALL's OWN, 4: a row of threads whose rows are cloned one by one; a store into one cell of a thread.
  THE WRITES FROM BEHIND: the iterator, for every loop body; Last: a loop over it that returns.
  buf.Last: a loop over the writes from behind that returns.
  LAYER 9's parts: isPlace, arrive, slices.Clone over numbers and writes, Push.
  buf.View, buf.Drain, buf.All.
  LAYER 11, as mathematics: what a pick makes; writes flushed. STATES OF THE CALL's OWN, 5: another row of locations, another row of writes.
-/
import Derived.Test.YtbffjhdocicfoaaScP
import Derived.Test.YtbffjhdocicfoaaK04
import Derived.Deep.RegionHeld3
import Derived.Deep.DeepCutAuto
import Derived.RangeFuncNested
import Derived.RangeFuncBound
import Derived.RangeFuncCalls
import Derived.RangeFuncLeaves
import Derived.RangeFuncBox
import Derived.Shelf.Abstract
import Derived.WalkKit
import Derived.OwnWalkIn
import Derived.TacticsInMore
import Derived.LoopNIn
import Derived.LoopIn
import Derived.Maps.OwnIn
set_option linter.unusedVariables false
set_option linter.unusedSimpArgs false
namespace Go.Proofs.Ytbffjhdocicfoaa
open Go.RowKit
set_option linter.unusedVariables false
set_option linter.unusedSimpArgs false
open CodM (St Pg rightP hReg hLoc)
open BfM (Wr plc)
open ScM

theorem BoxC.unlike {W : World} {g b : Nat} {T T2 : TypeId} {cs cs2 : Array Value} (h : BoxC W g T cs) (h2 : BoxC W b T2 cs2) (hT : T ≠ T2) : g ≠ b := fun e => by
  subst e
  have h1 : W.heap[g]? = some (.cells cs T (0, 0)) := h
  rw [show W.heap[g]? = some (.cells cs2 T2 (0, 0)) from h2] at h1; injection h1 with h1; injection h1 with _ h1
  exact hT h1.symm
/-- A row of numbers of the call's own, at a place that there is. -/
theorem own_nu {w : World} {base : Nat} {v : Value} {l : List Int} (h : OwnI base w v l) {j : Nat} (hj : j < l.length) :
    ∃ g c cur, v = .slice (some ⟨g, 0, none⟩) l.length c ∧ base ≤ g ∧ BoxC w g 3 cur ∧ w.cell? ⟨g, j, none⟩ = some (.int .i64 l[j]) := by
  have ho : w.ownsRow base 3 1 v l.length (l.flatMap nuC) := h
  rcases id ho.2 with ⟨rfl, h0⟩ | ⟨g, cap, cur, rfl, hbg, hg, hnc, hcm, hcs, htake⟩
  · omega
  · refine ⟨g, cap, cur, rfl, hbg, hg, ?_⟩
    rw [ho.cellAt j (by omega)]
    have := fl_at nuC_len l j 0 hj (by decide)
    rw [Nat.mul_one, Nat.add_zero] at this
    rw [this]; rfl
/-- The row of threads, at a place that there is. -/
theorem OwnSt.row {base : Nat} {w : World} {vm vt : Value} {s : Sta} {ps : List TV} (h : OwnSt base w vm vt s ps) {k : Nat} (hk : k < ps.length) :
    ∃ g c cur, vt = .slice (some ⟨g, 0, none⟩) s.ths.length c ∧ base ≤ g ∧ BoxC w g 94 cur ∧
      w.cell? ⟨g, k * 4, none⟩ = some (.int .i64 ps[k].t.at') ∧ w.cell? ⟨g, k * 4 + 1, none⟩ = some ps[k].vr ∧ w.cell? ⟨g, k * 4 + 2, none⟩ = some (.bool ps[k].t.eq) ∧ w.cell? ⟨g, k * 4 + 3, none⟩ = some ps[k].vb := by
  have hl := h.len
  have ho := h.ths
  rcases id ho.2 with ⟨e, h0⟩ | ⟨g, cap, cur, e, hbg, hg, hnc, hcm, hcs, htake⟩
  · omega
  · have hc : ∀ i, i < 4 → w.cell? ⟨g, k * 4 + i, none⟩ = (thC ps[k])[i]? := fun i hi => by
      subst e
      rw [ho.cellAt (k * 4 + i) (by omega), fl_at thC_len ps k i hk hi]
    exact ⟨g, cap, cur, e, hbg, hg, hc 0 (by decide), hc 1 (by decide), hc 2 (by decide), hc 3 (by decide)⟩
theorem OwnSt.at {base : Nat} {w : World} {vm vt : Value} {s : Sta} {ps : List TV} (h : OwnSt base w vm vt s ps) {k : Nat} (hk : k < ps.length) (hs : k < s.ths.length) : ps[k].t = s.ths[k] := by
  have : (ps.map (·.t))[k]'(by simpa using hk) = s.ths[k] := by congr 1; exact h.eq
  simpa using this
theorem OwnSt.cast {base : Nat} {w : World} {vm vt : Value} {s s' : Sta} {ps : List TV} (h : OwnSt base w vm vt s ps) (e : s = s') : OwnSt base w vm vt s' ps := e ▸ h
theorem st_ne {w : World} {g b i j : Nat} {u v : Value} (h : b ≠ g) (hc : w.cell? ⟨b, i, none⟩ = some u) : (w.setCell ⟨g, j, none⟩ v).cell? ⟨b, i, none⟩ = some u :=
  (World.cell?_setCell_other _ _ _ _ (fun e => by injection e with e1 _; exact h e1.symm)).trans hc
section
variable {base gx go gr gm gv cm cv k : Nat} {w0 X : World} {vm vt vr vb : Value} {at2 : Int} {s : Sta} {h : Th} {x : St} {ps : List TV} {curm curv : Array Value}
theorem own_setR {j : Nat} {z : Int} (ho : OwnSt base X vm vt s ps) (hk : ps[k]? = some ⟨h, .slice (some ⟨gv, 0, none⟩) h.regs.length cv, vb⟩) :
    OwnSt base (X.setCell ⟨gv, j, none⟩ (.int .i64 z)) vm vt ⟨s.mem, s.ths.set k ⟨h.at', h.regs.set j z, h.eq, h.buf⟩⟩ (ps.set k ⟨⟨h.at', h.regs.set j z, h.eq, h.buf⟩, .slice (some ⟨gv, 0, none⟩) h.regs.length cv, vb⟩) := by
  obtain ⟨hkp, e⟩ := List.getElem?_eq_some_iff.1 hk
  exact ho.setR hkp (by rw [e]) j z ⟨⟨h.at', h.regs.set j z, h.eq, h.buf⟩, .slice (some ⟨gv, 0, none⟩) h.regs.length cv, vb⟩ (by rw [e])
end
end Go.Proofs.Ytbffjhdocicfoaa
namespace Go.Proofs.Ytbffjhdocicfoaa
open Go.RowKit
set_option linter.unusedVariables false
set_option linter.unusedSimpArgs false
open CodM (St Pg)
open BfM (Wr plc)
open ScM

set_option maxHeartbeats 4000000 in
set_option maxRecDepth 100000 in
theorem clonei_any {B : Nat} {v : Value} {l : List Int} (w : World) (hv : IntR B w v l) (hBB : B ≤ w.heap.size) (hl : l.length ≤ 1000000) :
    Calls Try.prog 33 #[v] w fun e w' => ∃ u, e = .returned u ∧ OwnI w.heap.size w' u l ∧ Below w.heap.size w w' := by
  obtain ⟨A, c, rfl, h1, h2, h0, h3⟩ := hv
  unfold maxLen at h2
  obtain ⟨i0, hi0, hz0, hz1, hz2⟩ := info_parts info_nu
  have heq := fun (W : World) (a : Option Addr) (n c : Nat) => Lib.run_eql_slice_nil (P := Try.prog) W 22 3 a n c 0 0 Try.underlying22
  cases A with
  | none =>
    have HE := Lib.hid (List.eq_nil_of_length_eq_zero (h0 rfl).1)
    clear h0 h1 h2 h3
    go_enter Try.func33, Try.ntmps33
    go_wp2
    go_ret
    unfold OwnI
    rw [HE.out]
    exact ⟨_, rfl, World.ownsRow_nil _ _ _ _, Below.refl _ _⟩
  | some ad =>
    have hB1 := below_al (Below.refl w.heap.size w) (.cells #[] 3)
    have HC := Lib.hid (src_rw nuC_len h0 h3 (hB1.mono hBB) _ rfl)
    have HL := Lib.hid (fl_len nuC_len l)
    have HO := Lib.hid (show (w.alloc (.cells #[] 3)).ownsRow w.heap.size 3 1 (.slice (some ⟨w.heap.size, 0, none⟩) 0 0) 0 [] from by
      have := World.ownsRow_lit (base := w.heap.size) (e := 3) (size := 1) w #[] 0 (Nat.le_refl _) (by decide) rfl
      simpa using this)
    have HON := Lib.hid (one_nu l)
    clear h3 h0
    go_enter Try.func33, Try.ntmps33
    go_wp2_with (at_builtin; refine wpList_append_own _ rfl _ _ 22 rfl w.heap.size 3 i0 (.int .i64 0) 1 8 Try.underlying22 hi0 hz0 hz1 hz2 rfl (by decide) _ 0 [] rfl HO.out ad l.length c (l.flatMap nuC) rfl HL.out HC.out HON.out (by unfold maxLen; omega) (by omega) (by simp) ?_; intro v1 w1 hown1 hg1 _; obtain ⟨A8, c8, rfl⟩ := own_slice hown1)
    go_ret
    simp only [Nat.zero_add, List.nil_append] at hown1
    refine ⟨_, rfl, hown1, below_append hB1 HO.out (Nat.le_refl _) (by simp) hg1⟩
set_option maxHeartbeats 4000000 in
set_option maxRecDepth 100000 in
theorem clonew_any {B : Nat} {v : Value} {l : List Wr} (w : World) (hv : WrR B w v l) (hBB : B ≤ w.heap.size) (hl : l.length ≤ 1000000) :
    Calls Try.prog 89 #[v] w fun e w' => ∃ u, e = .returned u ∧ OwnW w.heap.size w' u l ∧ Below w.heap.size w w' := by
  obtain ⟨A, c, rfl, h1, h2, h0, h3⟩ := hv
  unfold maxLen at h2
  obtain ⟨i0, hi0, hz0, hz1, hz2⟩ := info_parts info_wr
  have heq := fun (W : World) (a : Option Addr) (n c : Nat) => Lib.run_eql_slice_nil (P := Try.prog) W 92 135 a n c 0 0 Try.underlying92
  cases A with
  | none =>
    have HE := Lib.hid (List.eq_nil_of_length_eq_zero (h0 rfl).1)
    clear h0 h1 h2 h3
    go_enter Try.func89, Try.ntmps89
    go_wp2
    go_ret
    unfold OwnW
    rw [HE.out]
    exact ⟨_, rfl, World.ownsRow_nil _ _ _ _, Below.refl _ _⟩
  | some ad =>
    have hB1 := below_al (Below.refl w.heap.size w) (.cells #[] 135)
    have HC := Lib.hid (src_rw wrC_len h0 h3 (hB1.mono hBB) _ rfl)
    have HL := Lib.hid (fl_len wrC_len l)
    have HO := Lib.hid (show (w.alloc (.cells #[] 135)).ownsRow w.heap.size 135 2 (.slice (some ⟨w.heap.size, 0, none⟩) 0 0) 0 [] from by
      have := World.ownsRow_lit (base := w.heap.size) (e := 135) (size := 2) w #[] 0 (Nat.le_refl _) (by decide) rfl
      simpa using this)
    have HON := Lib.hid (one_w l)
    clear h3 h0
    go_enter Try.func89, Try.ntmps89
    go_wp2_with (at_builtin; refine wpList_append_own _ rfl _ _ 92 rfl w.heap.size 135 i0 (.agg #[.int .i64 0, .int .i64 0]) 2 16 Try.underlying92 hi0 hz0 hz1 hz2 rfl (by decide) _ 0 [] rfl HO.out ad l.length c (l.flatMap wrC) rfl HL.out HC.out HON.out (by unfold maxLen; omega) (by omega) (by simp) ?_; intro v1 w1 hown1 hg1 _; obtain ⟨A8, c8, rfl⟩ := own_slice hown1)
    go_ret
    simp only [Nat.zero_add, List.nil_append] at hown1
    refine ⟨_, rfl, hown1, below_append hB1 HO.out (Nat.le_refl _) (by simp) hg1⟩
/-- A row of threads as cells: which values their rows are. -/
theorem thr_tv {B : Nat} {w : World} {ts : List Th} : ∀ (b f : Nat), (∀ j (h : j < ts.length), TdAt B w b (f + j * 4) ts[j]) →
    ∃ ps : List TV, ps.map (·.t) = ts ∧ (∀ p ∈ ps, IntR B w p.vr p.t.regs ∧ WrR B w p.vb p.t.buf) ∧ ∀ j u, (ps.flatMap thC)[j]? = some u → w.cell? ⟨b, f + j, none⟩ = some u := by
  induction ts with
  | nil => exact fun b f _ => ⟨[], rfl, fun p hp => (by cases hp), fun j u hu => (by cases hu)⟩
  | cons t r ih =>
    intro b f h
    obtain ⟨vr, vb, h0, h1, h2, h3, h4, h5⟩ := h 0 (by simp)
    obtain ⟨ps, e, e1, e2⟩ := ih b (f + 4) (fun j hj => by
      have := h (j + 1) (by simpa using hj)
      rw [show f + 4 + j * 4 = f + (j + 1) * 4 by omega]
      exact this)
    simp only [Nat.zero_mul, Nat.add_zero, List.getElem_cons_zero] at h0 h1 h2 h3 h4 h5
    refine ⟨⟨t, vr, vb⟩ :: ps, by rw [List.map_cons, e], fun p hp => ?_, fun j u hu => ?_⟩
    · rcases List.mem_cons.1 hp with rfl | hp
      · exact ⟨h4, h5⟩
      · exact e1 p hp
    · rw [List.flatMap_cons] at hu
      by_cases c : j < 4
      · rw [List.getElem?_append_left (by exact c)] at hu
        match j, c with
        | 0, _ => rw [← show _ = u from Option.some.inj hu]; exact h0
        | 1, _ => rw [← show _ = u from Option.some.inj hu]; exact h1
        | 2, _ => rw [← show _ = u from Option.some.inj hu]; exact h2
        | 3, _ => rw [← show _ = u from Option.some.inj hu]; exact h3
      · rw [List.getElem?_append_right (by show 4 ≤ j; omega)] at hu
        have := e2 (j - 4) u hu
        rw [show f + 4 + (j - 4) = f + j by omega] at this
        exact this
theorem IntR.one {B : Nat} {w : World} {v : Value} {l : List Int} (h : IntR B w v l) : v.oneCell' = true := by obtain ⟨A, c, rfl, _⟩ := h; rfl
theorem WrR.one {B : Nat} {w : World} {v : Value} {l : List Wr} (h : WrR B w v l) : v.oneCell' = true := by obtain ⟨A, c, rfl, _⟩ := h; rfl
/-- A row of threads of the call's own, whose rows are others'. -/
def OwnTs (base B : Nat) (w : World) (v : Value) (ts : List Th) (ps : List TV) : Prop :=
  w.ownsRow base 94 4 v ts.length (ps.flatMap thC) ∧ ps.map (·.t) = ts ∧ ∀ p ∈ ps, IntR B w p.vr p.t.regs ∧ WrR B w p.vb p.t.buf
set_option maxHeartbeats 4000000 in
set_option maxRecDepth 100000 in
theorem clonet_any {B : Nat} {v : Value} {l : List Th} (w : World) (hv : ThR B w v l) (hBB : B ≤ w.heap.size) (hl : l.length ≤ 1000000) :
    Calls Try.prog 88 #[v] w fun e w' => (∃ u ps, e = .returned u ∧ OwnTs w.heap.size B w' u l ps) ∧ Below w.heap.size w w' := by
  obtain ⟨A, c, rfl, h1, h2, h0, h3⟩ := hv
  unfold maxLen at h2
  obtain ⟨i0, hi0, hz0, hz1, hz2⟩ := info_parts info_th
  have heq := fun (W : World) (a : Option Addr) (n c : Nat) => Lib.run_eql_slice_nil (P := Try.prog) W 60 94 a n c 0 0 Try.underlying60
  cases A with
  | none =>
    have HE := Lib.hid (List.eq_nil_of_length_eq_zero (h0 rfl).1)
    clear h0 h1 h2 h3
    go_enter Try.func88, Try.ntmps88
    go_wp2
    go_ret
    rw [HE.out]
    exact ⟨⟨_, [], rfl, World.ownsRow_nil _ _ _ _, rfl, fun p hp => (by cases hp)⟩, Below.refl _ _⟩
  | some ad =>
    have hB1 := below_al (Below.refl w.heap.size w) (.cells #[] 94)
    have HPS : ∃ ps : List TV, ps.map (·.t) = l ∧ (∀ p ∈ ps, IntR B w p.vr p.t.regs ∧ WrR B w p.vb p.t.buf) ∧ ∀ j u, (ps.flatMap thC)[j]? = some u → (w.alloc (.cells #[] 94)).cell? (ad.add j) = some u := by
      rcases Nat.eq_zero_or_pos l.length with k | k
      · exact ⟨[], by rw [List.eq_nil_of_length_eq_zero k]; rfl, fun p hp => (by cases hp), fun j u hu => (by cases hu)⟩
      · obtain ⟨b, f, e, hb, hc⟩ := h3 k
        injection e with e
        subst e
        obtain ⟨ps, e1, e2, e3⟩ := thr_tv b f hc
        exact ⟨ps, e1, e2, fun j u hu => by rw [Addr.add_lit]; exact (hB1.cell (p := ⟨b, f + j, none⟩) (Nat.lt_of_lt_of_le hb hBB)).trans (e3 j u hu)⟩
    obtain ⟨ps, hps, hpr, hpc⟩ := HPS
    have HPS := Lib.hid hps
    have HPR := Lib.hid hpr
    have HC := Lib.hid hpc
    have hpl : ps.length = l.length := by rw [← hps, List.length_map]
    have HL := Lib.hid (show (ps.flatMap thC).length = l.length * 4 from by rw [fl_len thC_len, hpl])
    have HO := Lib.hid (show (w.alloc (.cells #[] 94)).ownsRow w.heap.size 94 4 (.slice (some ⟨w.heap.size, 0, none⟩) 0 0) 0 [] from by
      have := World.ownsRow_lit (base := w.heap.size) (e := 94) (size := 4) w #[] 0 (Nat.le_refl _) (by decide) rfl
      simpa using this)
    have HON := Lib.hid (show ∀ u ∈ ps.flatMap thC, u.oneCell' = true from fun u hu => by
      obtain ⟨p, hp, hx⟩ := List.mem_flatMap.1 hu
      exact one_th p (hpr p hp).1.one (hpr p hp).2.one u hx)
    clear h3 h0 hps hpr hpc hpl
    go_enter Try.func88, Try.ntmps88
    go_wp2_with (at_builtin; refine wpList_append_own _ rfl _ _ 60 rfl w.heap.size 94 i0 (.agg #[.int .i64 0, .slice none 0 0, .bool false, .slice none 0 0]) 4 64 Try.underlying60 hi0 hz0 hz1 hz2 rfl (by decide) _ 0 [] rfl HO.out ad l.length c (ps.flatMap thC) rfl HL.out HC.out HON.out (by unfold maxLen; omega) (by omega) (by simp) ?_; intro v1 w1 hown1 hg1 _; obtain ⟨A8, c8, rfl⟩ := own_slice hown1)
    go_ret
    simp only [Nat.zero_add, List.nil_append] at hown1
    have hb := below_append hB1 HO.out (Nat.le_refl _) (by simp) hg1
    exact ⟨⟨_, ps, rfl, hown1, HPS.out, fun p hp => ⟨(HPR.out p hp).1.below (hb.mono hBB), (HPR.out p hp).2.below (hb.mono hBB)⟩⟩, hb⟩
set_option maxHeartbeats 4000000 in
set_option maxRecDepth 100000 in
theorem rat_row {g n c k : Nat} (w : World) (hk : k < n) :
    Calls Try.prog 90 #[.slice (some ⟨g, 0, none⟩) n c, .int .i64 k] w fun e w' => e = .returned (.pointer (some ⟨g, k, none⟩)) ∧ w' = w := by
  go_enter Try.func90, Try.ntmps90
  go_wp2
  go_ret
  exact ⟨rfl, rfl⟩
end Go.Proofs.Ytbffjhdocicfoaa
namespace Go.Proofs.Ytbffjhdocicfoaa
open Go.RowKit
set_option linter.unusedVariables false
set_option linter.unusedSimpArgs false
open CodM (St Pg)
open BfM (Wr plc)
open ScM

theorem flat_set1 : ∀ (ps : List TV) (k : Nat) (q : TV) (i : Nat) (x : Value) (h : k < ps.length), i < 4 → thC q = (thC ps[k]).set i x → (ps.flatMap thC).set (k * 4 + i) x = (ps.set k q).flatMap thC
  | [], k, q, i, x, h, _, _ => absurd h (Nat.not_lt_zero k)
  | p :: r, 0, q, i, x, h, hi, e => by
    rw [List.set_cons_zero, List.flatMap_cons, List.flatMap_cons, Nat.zero_mul, Nat.zero_add, List.set_append_left _ _ (by exact hi), e]; rfl
  | p :: r, k + 1, q, i, x, h, hi, e => by
    rw [List.set_cons_succ, List.flatMap_cons, List.flatMap_cons, List.set_append_right _ _ (by show 4 ≤ (k + 1) * 4 + i; omega), show (k + 1) * 4 + i - (thC p).length = k * 4 + i by show (k + 1) * 4 + i - 4 = _; omega, flat_set1 r k q i x (by simpa using h) hi e]
/-- A store into one cell of a thread: where it is, what it compared. -/
theorem OwnSt.set1 {base g n c k i : Nat} {w : World} {vm x : Value} {s : Sta} {ps : List TV} (h : OwnSt base w vm (.slice (some ⟨g, 0, none⟩) n c) s ps) (hk : k < ps.length) (q : TV) (hi : i < 4) (hx : thC q = (thC ps[k]).set i x)
    (h1 : q.vr = ps[k].vr) (h2 : q.vb = ps[k].vb) (h3 : q.t.regs = ps[k].t.regs) (h4 : q.t.buf = ps[k].t.buf) :
    OwnSt base (w.setCell ⟨g, k * 4 + i, none⟩ x) vm (.slice (some ⟨g, 0, none⟩) n c) ⟨s.mem, s.ths.set k q.t⟩ (ps.set k q) := by
  have hg : (Value.slice (some ⟨g, 0, none⟩) n c).ownBlock = some g := rfl
  have hn : n = s.ths.length := by
    obtain ⟨A, c', e'⟩ := own_slice h.ths
    injection e' with _ e' _
  have hT : (w.setCell ⟨g, k * 4 + i, none⟩ x).ownsRow base 94 4 (.slice (some ⟨g, 0, none⟩) n c) n ((ps.set k q).flatMap thC) := by
    have e := h.ths
    rw [← hn] at e
    have := (e.stored (k * 4 + i) x).1
    rw [flat_set1 ps k q i x hk hi hx] at this
    exact this
  refine ⟨own_keep h.mem (fun e => own_unlike neT h.mem h.ths g e hg) _, by rw [List.length_set, ← hn]; exact hT, by rw [List.map_set, h.eq], fun p hp => ?_, by rw [map_vr_set hk q h1]; exact h.ap⟩
  obtain ⟨j, hj, rfl⟩ := List.mem_iff_getElem.1 hp
  have hj' : j < ps.length := by simpa using hj
  rw [List.getElem_set]
  by_cases e : k = j
  · rw [if_pos e]
    obtain ⟨d1, d2, d3⟩ := h.each _ (List.getElem_mem hk)
    rw [h1, h2, h3, h4]
    exact ⟨own_keep d1 (fun e' => own_unlike neT d1 h.ths g e' hg) _, own_keep d2 (fun e' => own_unlike neV d2 h.ths g e' hg) _, d3⟩
  · rw [if_neg e]
    obtain ⟨d1, d2, d3⟩ := h.each _ (List.getElem_mem hj')
    exact ⟨own_keep d1 (fun e' => own_unlike neT d1 h.ths g e' hg) _, own_keep d2 (fun e' => own_unlike neV d2 h.ths g e' hg) _, d3⟩
/-- The first k threads' rows are the call's own. -/
structure OwnP (base B k : Nat) (w : World) (vm vt : Value) (s : Sta) (ps : List TV) : Prop where
  mem : OwnI base w vm s.mem
  ths : w.ownsRow base 94 4 vt s.ths.length (ps.flatMap thC)
  eq : ps.map (·.t) = s.ths
  done : ∀ j (h : j < ps.length), j < k → OwnI base w ps[j].vr ps[j].t.regs ∧ OwnW base w ps[j].vb ps[j].t.buf ∧ Ap vm ps[j].vr
  todo : ∀ j (h : j < ps.length), k ≤ j → IntR B w ps[j].vr ps[j].t.regs ∧ WrR B w ps[j].vb ps[j].t.buf
  ap : ∀ i j (hi : i < ps.length) (hj : j < ps.length), i < j → j < k → Ap ps[i].vr ps[j].vr
theorem OwnP.len {base B k : Nat} {w : World} {vm vt : Value} {s : Sta} {ps : List TV} (h : OwnP base B k w vm vt s ps) : ps.length = s.ths.length := by rw [← h.eq, List.length_map]
theorem OwnP.below {base B k : Nat} {w w' : World} {vm vt : Value} {s : Sta} {ps : List TV} (h : OwnP base B k w vm vt s ps) (hb : Below w.heap.size w w') (hB : B ≤ w.heap.size) : OwnP base B k w' vm vt s ps :=
  ⟨own_below h.mem hb, own_below h.ths hb, h.eq, fun j hj hk => ⟨own_below (h.done j hj hk).1 hb, own_below (h.done j hj hk).2.1 hb, (h.done j hj hk).2.2⟩, fun j hj hk => ⟨(h.todo j hj hk).1.below (hb.mono hB), (h.todo j hj hk).2.below (hb.mono hB)⟩, h.ap⟩
theorem OwnP.start {base B : Nat} {w : World} {vm vt : Value} {s : Sta} {ps : List TV} (h1 : OwnI base w vm s.mem) (h2 : OwnTs base B w vt s.ths ps) : OwnP base B 0 w vm vt s ps :=
  ⟨h1, h2.1, h2.2.1, fun j hj hk => absurd hk (Nat.not_lt_zero j), fun j hj hk => h2.2.2 _ (List.getElem_mem hj), fun i j hi hj hij hk => absurd hk (Nat.not_lt_zero j)⟩
theorem OwnP.fin {base B k : Nat} {w : World} {vm vt : Value} {s : Sta} {ps : List TV} (h : OwnP base B k w vm vt s ps) (hk : ps.length ≤ k) : OwnSt base w vm vt s ps :=
  ⟨h.mem, h.ths, h.eq, fun p hp => by
    obtain ⟨j, hj, rfl⟩ := List.mem_iff_getElem.1 hp
    exact h.done j hj (by omega), List.pairwise_iff_getElem.2 (fun i j hi hj hij => by
    simp only [List.getElem_map]
    exact h.ap i j (by simpa using hi) (by simpa using hj) hij (by have : j < ps.length := by simpa using hj
                                                                   omega))⟩
theorem OwnP.cell {base B k : Nat} {w : World} {vm vt : Value} {s : Sta} {ps : List TV} (h : OwnP base B k w vm vt s ps) {j : Nat} (hj : j < ps.length) :
    ∃ g c cur, vt = .slice (some ⟨g, 0, none⟩) s.ths.length c ∧ base ≤ g ∧ BoxC w g 94 cur ∧
      w.cell? ⟨g, j * 4, none⟩ = some (.int .i64 ps[j].t.at') ∧ w.cell? ⟨g, j * 4 + 1, none⟩ = some ps[j].vr ∧ w.cell? ⟨g, j * 4 + 2, none⟩ = some (.bool ps[j].t.eq) ∧ w.cell? ⟨g, j * 4 + 3, none⟩ = some ps[j].vb := by
  have hl := h.len
  have ho := h.ths
  rcases id ho.2 with ⟨e, h0⟩ | ⟨g, cap, cur, e, hbg, hg, hnc, hcm, hcs, htake⟩
  · omega
  · have hc : ∀ i, i < 4 → w.cell? ⟨g, j * 4 + i, none⟩ = (thC ps[j])[i]? := fun i hi => by
      subst e
      rw [ho.cellAt (j * 4 + i) (by omega), fl_at thC_len ps j i hj hi]
    exact ⟨g, cap, cur, e, hbg, hg, hc 0 (by decide), hc 1 (by decide), hc 2 (by decide), hc 3 (by decide)⟩
/-- One thread's rows are cloned. -/
theorem OwnP.next {base B g n c k : Nat} {w : World} {vm v1 v2 : Value} {s : Sta} {ps : List TV} (h : OwnP base B k w vm (.slice (some ⟨g, 0, none⟩) n c) s ps) (hk : k < ps.length) (hB : B ≤ base)
    (h1 : OwnI base w v1 ps[k].t.regs) (h2 : OwnW base w v2 ps[k].t.buf) (h3 : Ap vm v1) (h4 : ∀ j (hj : j < ps.length), j < k → Ap ps[j].vr v1) :
    OwnP base B (k + 1) ((w.setCell ⟨g, k * 4 + 1, none⟩ v1).setCell ⟨g, k * 4 + 3, none⟩ v2) vm (.slice (some ⟨g, 0, none⟩) n c) s (ps.set k ⟨ps[k].t, v1, v2⟩) := by
  have hg : (Value.slice (some ⟨g, 0, none⟩) n c).ownBlock = some g := rfl
  have hn : n = s.ths.length := by
    obtain ⟨A, c', e'⟩ := own_slice h.ths
    injection e' with _ e' _
  have hbg : base ≤ g := (h.ths.lt _ hg).1
  obtain ⟨w4, hw4⟩ : ∃ W, W = (w.setCell ⟨g, k * 4 + 1, none⟩ v1).setCell ⟨g, k * 4 + 3, none⟩ v2 := ⟨_, rfl⟩
  have hno : ∀ {b T s' n' : Nat} {v : Value} {xs : List Value}, w.ownsRow b T s' v n' xs → v.ownBlock ≠ some g → w4.ownsRow b T s' v n' xs :=
    fun hh hv => by rw [hw4]; exact own_keep (own_keep hh hv _) hv _
  have hbl : Below B w w4 := by
    rw [hw4]
    exact ((Below.refl B w).setCell (p := ⟨g, k * 4 + 1, none⟩) (by show B ≤ g; omega) _).setCell (p := ⟨g, k * 4 + 3, none⟩) (by show B ≤ g; omega) _
  have hT : w4.ownsRow base 94 4 (.slice (some ⟨g, 0, none⟩) n c) n ((ps.set k ⟨ps[k].t, v1, v2⟩).flatMap thC) := by
    have e := h.ths
    rw [← hn] at e
    have := ((e.stored (k * 4 + 1) v1).1.stored (k * 4 + 3) v2).1
    rw [flat_set1 ps k ⟨ps[k].t, v1, ps[k].vb⟩ 1 v1 hk (by decide) rfl, flat_set1 (ps.set k ⟨ps[k].t, v1, ps[k].vb⟩) k ⟨ps[k].t, v1, v2⟩ 3 v2 (by simpa using hk) (by decide) (by simp [thC]), List.set_set] at this
    rw [hw4]; exact this
  rw [← hw4]
  clear hw4
  refine ⟨hno h.mem (fun e => own_unlike neT h.mem h.ths g e hg), by rw [← hn]; exact hT, ?_, fun j hj hjk => ?_, fun j hj hjk => ?_, fun i j hi hj hij hjk => ?_⟩
  · rw [List.map_set, h.eq]
    show s.ths.set k ps[k].t = s.ths
    have e : (ps.map (·.t))[k]'(by simpa using hk) = ps[k].t := by simp
    have e2 : s.ths[k]'(by rw [← h.len]; exact hk) = ps[k].t := by rw [← e]; congr 1; exact h.eq.symm
    rw [← e2, List.set_getElem_self]
  · have hj' : j < ps.length := by simpa using hj
    rw [List.getElem_set]
    by_cases e : k = j
    · rw [if_pos e]
      exact ⟨hno h1 (fun e' => own_unlike neT h1 h.ths g e' hg), hno h2 (fun e' => own_unlike neV h2 h.ths g e' hg), h3⟩
    · rw [if_neg e]
      obtain ⟨d1, d2, d3⟩ := h.done j hj' (by omega)
      exact ⟨hno d1 (fun e' => own_unlike neT d1 h.ths g e' hg), hno d2 (fun e' => own_unlike neV d2 h.ths g e' hg), d3⟩
  · have hj' : j < ps.length := by simpa using hj
    rw [List.getElem_set, if_neg (by omega)]
    obtain ⟨d1, d2⟩ := h.todo j hj' (by omega)
    exact ⟨d1.below hbl, d2.below hbl⟩
  · have hi' : i < ps.length := by simpa using hi
    have hj' : j < ps.length := by simpa using hj
    rw [List.getElem_set, if_neg (by omega), List.getElem_set]
    by_cases e : k = j
    · rw [if_pos e]; exact h4 i hi' (by omega)
    · rw [if_neg e]; exact h.ap i j hi' hj' hij (by omega)
theorem OwnP.new_r {base B k b : Nat} {w w' : World} {vm vt u : Value} {s : Sta} {ps : List TV} {l : List Int} (h : OwnP base B k w vm vt s ps) (hu : OwnI b w' u l) (hb : w.heap.size ≤ b) : Ap vm u ∧ ∀ j (hj : j < ps.length), j < k → Ap ps[j].vr u :=
  ⟨ap_new h.mem hu hb, fun j hj hk => ap_new (h.done j hj hk).1 hu hb⟩
end Go.Proofs.Ytbffjhdocicfoaa
namespace Go.Proofs.Ytbffjhdocicfoaa
open Go.RowKit Go.Shelf
set_option linter.unusedVariables false
set_option linter.unusedSimpArgs false
attribute [local go_sem] Oper.semAt_some
open BfM

abbrev encw (x : Wr) : Array Value := #[.agg #[.int .i64 x.loc, .int .i64 x.n]]
/-- What a round keeps: whatever lay below n₀, and the block gs, where it holds cells. -/
def KpS (n₀ gs : Nat) (W W' : World) : Prop := Below n₀ W W' ∧ ∀ o : Obj, W.heap[gs]? = some o → o.isCells = true → W'.heap[gs]? = some o
theorem KpS.t {n₀ gs : Nat} {A B C : World} (h : KpS n₀ gs A B) (k : KpS n₀ gs B C) : KpS n₀ gs A C := ⟨h.1.trans k.1, fun o e c => k.2 o (h.2 o e c) c⟩
theorem KpS.b {n₀ gs : Nat} {w : World} (hn : n₀ ≤ w.heap.size) (W : World) (l : Nat) (o o' : Obj) (hl : w.heap.size ≤ l) (h : W.heap[l]? = some o) (hc : o.isCells = false) (_ : o.isWalk = false) : KpS n₀ gs W (W.putObj l o') :=
  ⟨(Below.refl n₀ W).grown (grownBy_putObj' W l o') (by have := (Array.getElem?_eq_some_iff.1 h).1; omega) (fun k e => by cases e; omega), fun u hu cu => by
    rw [World.putObj_heap_other (fun e => by subst e; rw [h] at hu; injection hu with hu; subst hu; rw [hc] at cu; cases cu)]; exact hu⟩
theorem cells_of_cell {W : World} {g : Nat} {v : Value} (h : W.cell? ⟨g, 0, none⟩ = some v) : ∃ o, W.heap[g]? = some o ∧ o.isCells = true := by
  unfold World.cell? at h
  cases e : W.heap[g]? with
  | none => simp [e] at h
  | some o =>
    refine ⟨o, rfl, ?_⟩
    simp only [e] at h
    cases o <;> first | rfl | (simp at h)
theorem KpS.cell {n₀ gs : Nat} {W W' : World} {v : Value} (h : KpS n₀ gs W W') (hv : W.cell? ⟨gs, 0, none⟩ = some v) : W'.cell? ⟨gs, 0, none⟩ = some v := by
  obtain ⟨o, h1, h2⟩ := cells_of_cell hv
  rw [World.cell?_of_block ((h.2 o h1 h2).trans h1.symm)]; exact hv
theorem KpS.grown {n₀ gs : Nat} {W W' : World} {row : Option Nat} (hn : n₀ ≤ W.heap.size) (hg : W.grownBy W' row) (hr : ∀ r, row = some r → n₀ ≤ r ∧ r ≠ gs) : KpS n₀ gs W W' :=
  ⟨(Below.refl n₀ W).grown hg hn (fun k e => (hr k e).1), fun o h _ => (hg.block gs (Array.getElem?_eq_some_iff.1 h).1 (fun e => (hr gs e.symm).2 rfl)).trans h⟩
/-- The writes behind place k, the last one first. -/
def bhd (b : List Wr) (k : Nat) : List Wr := (b.drop k).reverse
theorem bhd_end (b : List Wr) : bhd b b.length = [] := by simp [bhd]
theorem bhd_zero (b : List Wr) : bhd b 0 = b.reverse := by simp [bhd]
theorem bhd_step {b : List Wr} {k : Nat} (hk : k < b.length) : bhd b k = bhd b (k + 1) ++ [b[k]] := by
  unfold bhd; rw [List.drop_eq_getElem_cons hk, List.reverse_cons]
theorem bhd_len (b : List Wr) (k : Nat) : (bhd b k).length = b.length - k := by simp [bhd]
theorem bhd_pre (b : List Wr) : ∀ k, bhd b k <+: b.reverse := fun k => by
  unfold bhd
  have : b.reverse = (b.drop k).reverse ++ (b.take k).reverse := by rw [← List.reverse_append, List.take_append_drop]
  rw [this]; exact List.prefix_append _ _
def FbRel (b : List Wr) (J : List Wr → World → Prop) (n₀ gs : Nat) (W : World) (vb : Value) (i : Value) (wr : World) : Prop :=
  ∃ k : Nat, k ≤ b.length ∧ i = .int .i64 ((k : Int) - 1) ∧ J (bhd b k) wr ∧ Below n₀ W wr ∧ wr.cell? ⟨gs, 0, none⟩ = some vb
set_option maxRecDepth 100000 in
set_option maxHeartbeats 4000000 in
theorem behind1_in (F : Fence) (n : Nat) (h28 : F.fn 107) (hro : F.round = none) (hn : 2 ≤ n) (l n₀ n₁ gs : Nat) (vb : Value) (b : List Wr) (J Jx : List Wr → World → Prop)
    (hJ : AbidesFrom n₁ J)
    (hY : ∀ pre x W, J pre W → pre.length < b.length → YieldAt F (n - 1) Try.prog l (encw x) W fun e W' =>
      (e = .returned (.bool true) ∧ J (pre ++ [x]) W' ∧ KpS n₀ gs W W') ∨ (e = .returned (.bool false) ∧ Jx (pre ++ [x]) W'))
    (W : World) (hn₀ : n₀ ≤ W.heap.size) (cb : W.cell? ⟨gs, 0, none⟩ = some vb) (hb : WrR n₀ W vb b)
    (hl : b.length ≤ 1000000) (h0 : J [] W) :
    CallsIn F n Try.prog 107 #[.func (.yield l) #[] #[], .pointer (some ⟨gs, 0, none⟩)] W fun e W' => (∃ v, e = .returned v) ∧
      ((∃ ys : List Wr, ys = b.reverse ∧ J ys W') ∨ (∃ pre : List Wr, pre <+: b.reverse ∧ Jx pre W')) := by
  have HJ := Lib.hid hJ
  have HY := Lib.hid hY
  obtain ⟨A0, c0, rfl, hc1, hc2, hc0, hc3⟩ := hb
  unfold maxLen at hc2
  have hc3 := wr_at (c := c0) hc3
  have h1 : 1 ≤ n := by omega
  have hgs0 : gs < W.heap.size := by obtain ⟨o, h, -⟩ := cells_of_cell cb; exact (Array.getElem?_eq_some_iff.1 h).1
  clear hJ hY hc0
  have HPP := Lib.hid (bhd_pre b)
  have HZ := Lib.hid (bhd_zero b)
  have HE := Lib.hid (bhd_end b)
  refine callsIn_of_wp Try.func107 rfl h28 ?_ hro
  simp only [Try.ntmps107, List.size_toArray, List.length_cons, List.length_nil, Nat.reduceAdd, Nat.reduceSub, Array.replicate_succ, Array.replicate_zero, List.push_toArray, List.append_toArray, List.nil_append, List.cons_append]
  gi_wp2
  gi_loopw [3] (fun i wr => FbRel b J n₀ gs W (.slice A0 b.length c0) i wr) (fun i _ => (intOf i + 1).toNat)
  case atStart => exact ⟨b.length, Nat.le_refl _, rfl, by rw [HE.out]; exact h0, Below.refl _ _, cb⟩
  case round =>
    obtain ⟨k, hk, rfl, hJs, hB, hG⟩ := hrel
    rcases Nat.eq_zero_or_pos k with rfl | hpos
    · rw [HZ.out] at hJs
      gi_wp2
      go_end0
      exact ⟨⟨_, rfl⟩, .inl ⟨_, rfl, hJs⟩⟩
    · obtain ⟨k, rfl⟩ : ∃ j, k = j + 1 := ⟨k - 1, by omega⟩
      have hkl : k < b.length := by omega
      obtain ⟨b2, f2, rfl, hb2, hst⟩ := hc3 (by omega)
      obtain ⟨y0, y1⟩ := hst k hkl
      have z0 := (hB.cell (p := ⟨b2, f2 + k * 2, none⟩) hb2).trans y0
      have z1 := (hB.cell (p := ⟨b2, f2 + k * 2 + 1, none⟩) hb2).trans y1
      have HST := Lib.hid (bhd_step hkl)
      have hnl : (bhd b (k + 1)).length < b.length := by rw [bhd_len]; omega
      have hP := HPP.out k
      generalize b[k] = x at *
      clear hst y0 y1 hc3
      have hws := hB.size
      have hkk : ((k + 1 : Nat) : Int) - 1 = (k : Int) := by omega
      rw [hkk]
      obtain ⟨fn, tmps, assign, body, hy, hR⟩ := HY.out _ x wr hJs hnl
      dsimp only [encw] at hy
      gi_wp2
      refine hR.mono ?_
      rintro e W4 (⟨rfl, hJ4, hk4⟩ | ⟨rfl, hJx4⟩)
      · have hB4 : Below n₀ W W4 := hB.trans hk4.1
        have hG4 := hk4.cell hG
        gi_wp2
        go_roundw
        case rel =>
          exact ⟨k, by omega, rfl, by rw [HST.out]; exact hJ4, hB4, hG4⟩
        case measure => simp [intOf]
      · gi_wp2
        refine bodyPost_ret (results_none rfl _ _ _) rfl ?_
        exact ⟨⟨_, rfl⟩, .inr ⟨_, by rw [← HST.out]; exact hP, hJx4⟩⟩
/-- What a loop over them is handed. -/
theorem behind_stops (F : Fence) (n : Nat) (h28 : F.fn 107) (hro : F.round = none) (hn : 2 ≤ n) (n₀ gs : Nat) (vb : Value) (b : List Wr) (w : World)
    (hn₀ : n₀ ≤ w.heap.size) (cb : w.cell? ⟨gs, 0, none⟩ = some vb) (hb : WrR n₀ w vb b) (hl : b.length ≤ 1000000) :
    SeqStopsK F n Try.prog 107 #[.pointer (some ⟨gs, 0, none⟩)] encw (KpS n₀ gs) (fun ys : List Wr => ys = b.reverse) (fun pre => pre <+: b.reverse) b.length w :=
  fun l J Jx W hW hJ _ hY h0 => behind1_in F n h28 hro hn l n₀ W.heap.size gs vb b J Jx hJ hY W (Nat.le_trans hn₀ hW.size) (kc hW cb) (hb.below (hW.mono hn₀)) hl h0
set_option maxHeartbeats 1000000 in
theorem behind_in (F : Fence) (n : Nat) (h : F.fn 106) (hro : F.round = none) (A : Option Addr) (m c : Nat) (w : World) :
    CallsIn F n Try.prog 106 #[.slice A m c] w fun e w' => e = .returned (.func (.func 107) #[] #[.pointer (some ⟨w.heap.size, 0, none⟩)]) ∧
      w' = w.alloc (.cells #[.slice A m c] 166) := by
  refine callsIn_of_wp Try.func106 rfl h ?_ hro
  simp only [Try.ntmps106, List.size_toArray, List.length_cons, List.length_nil, Nat.reduceAdd, Nat.reduceSub, Array.replicate_succ, Array.replicate_zero, List.push_toArray, List.append_toArray, List.nil_append, List.cons_append]
  gi_wp2
  go_ret
  exact ⟨rfl, rfl⟩
end Go.Proofs.Ytbffjhdocicfoaa
namespace Go.Proofs.Ytbffjhdocicfoaa
open Go.RowKit Go.Shelf
set_option linter.unusedVariables false
set_option linter.unusedSimpArgs false
attribute [local go_sem] Oper.semAt_some
open BfM

/-- A box of two cells. -/
def Box2 (W : World) (B : Nat) (T : TypeId) (u v : Value) : Prop := W.heap[B]? = some (.cells #[u, v] T (0, 0))
theorem Box2.lt {W : World} {B : Nat} {T : TypeId} {u v : Value} (h : Box2 W B T u v) : B < W.heap.size := (Array.getElem?_eq_some_iff.1 h).1
theorem Box2.cell0 {W : World} {B : Nat} {T : TypeId} {u v : Value} (h : Box2 W B T u v) : W.cell? ⟨B, 0, none⟩ = some u := by simp [World.cell?, show W.heap[B]? = _ from h]
theorem Box2.cell1 {W : World} {B : Nat} {T : TypeId} {u v : Value} (h : Box2 W B T u v) : W.cell? ⟨B, 1, none⟩ = some v := by simp [World.cell?, show W.heap[B]? = _ from h]
theorem Box2.new (W : World) (T : TypeId) (u v : Value) : Box2 (W.alloc (.cells #[u, v] T)) W.heap.size T u v := World.alloc_heap_new W _
theorem Box2.kept {W W' : World} {row : Option Nat} {B : Nat} {T : TypeId} {u v : Value} (h : Box2 W B T u v) (hg : W.grownBy W' row) (hne : some B ≠ row) : Box2 W' B T u v := (hg.block B h.lt hne).trans h
theorem box2_own {β : Type} (B : Nat) (T : TypeId) (u v : Value) : Own (fun (_ : β) W => Box2 W B T u v) := fun s X Y row hs hg hrow =>
  hs.kept hg (fun e' => by obtain ⟨o, ho, hc⟩ := hrow B e'.symm; rw [show X.heap[B]? = _ from hs] at ho; cases ho; cases hc)
/-- Of a list from behind the first that fits is the last one. -/
theorem last_rev_none : ∀ {b : List Wr} {l : Int}, (∀ y ∈ b, ¬ y.loc = l) → last b l = none
  | [], l, _ => rfl
  | w :: r, l, h => by
    rw [last, last_rev_none (fun y hy => h y (List.mem_cons_of_mem _ hy))]
    simp [h w List.mem_cons_self]
theorem last_app : ∀ (p q : List Wr) (l : Int), last q l = none → last (p ++ q) l = last p l
  | [], q, l, h => h
  | w :: r, q, l, h => by rw [List.cons_append, last, last_app r q l h, last]
theorem last_pre {b pre : List Wr} {x : Wr} {l : Int} (h : pre ++ [x] <+: b.reverse) (hno : ∀ y ∈ pre, ¬ y.loc = l) (hx : x.loc = l) : last b l = some x.n := by
  obtain ⟨t, ht⟩ := h
  have e : b = (t.reverse ++ [x]) ++ pre.reverse := by
    have := congrArg List.reverse ht
    rw [List.reverse_reverse] at this
    rw [← this]; simp
  rw [e, last_app _ _ _ (last_rev_none (fun y hy => hno y (by simpa using hy))), last_snoc, if_pos hx]
/-- What Last hands back. -/
def lastV (b : List Wr) (l : Int) : Value := match last b l with
  | some n => .tuple #[.int .i64 n, .bool true]
  | none => .tuple #[.int .i64 0, .bool false]
set_option maxRecDepth 100000 in
set_option maxHeartbeats 4000000 in
theorem last_in (F : Fence) (n : Nat) (h11 : F.fn 100) (h23 : F.fn 106) (h28 : F.fn 107) (hro : F.round = none) (hn : 4 ≤ n) {B : Nat} {v : Value} {b : List Wr} (l : Int) (w : World)
    (hv : WrR B w v b) (hBB : B ≤ w.heap.size) (hl : b.length ≤ 1000000) :
    CallsIn F n Try.prog 100 #[v, .int .i64 l] w fun e w' => e = .returned (lastV b l) ∧ Below w.heap.size w w' := by
  have h1 : 1 ≤ n := by omega
  have HV := Lib.hid hv
  have hmix : Try.prog.follows .mixedOrders = true := by kernel_rfl
  obtain ⟨A, c, rfl, hc1, hc2, -⟩ := hv
  refine callsIn_of_wp_marks Try.func100 rfl h11 ?_ hro
  simp only [Try.ntmps100, List.size_toArray, List.length_cons, List.length_nil, Nat.reduceAdd, Nat.reduceSub, Array.replicate_succ, Array.replicate_zero, List.push_toArray, List.append_toArray, List.nil_append, List.cons_append]
  gi_wp2_with (gi_at_call 106; refine (behind_in F (n - 1) h23 hro _ _ _ _).mono ?_; rintro e w' ⟨rfl, rfl⟩)
  obtain ⟨W0, hW0⟩ : ∃ W0, W0 = ((w.alloc (.cells #[.int .i64 l] 3)).alloc (.cells #[.int .i64 0] 3)).alloc (.cells #[.bool false] 4) := ⟨_, rfl⟩
  have hs0 : W0.heap.size = w.heap.size + 1 + 1 + 1 := by rw [hW0]; simp
  have b1 : Boxed W0 w.heap.size 3 (.int .i64 l) := by
    have := ((Boxed.new w 3 (.int .i64 l)).alloc (.cells #[.int .i64 0] 3)).alloc (.cells #[.bool false] 4)
    rw [hW0]; exact this
  have b2 : Boxed W0 (w.heap.size + 1) 3 (.int .i64 0) := by
    have := (Boxed.new (w.alloc (.cells #[.int .i64 l] 3)) 3 (.int .i64 0)).alloc (.cells #[.bool false] 4)
    rw [World.size_alloc] at this; rw [hW0]; exact this
  have b3 : Boxed W0 (w.heap.size + 1 + 1) 4 (.bool false) := by
    have := Boxed.new ((w.alloc (.cells #[.int .i64 l] 3)).alloc (.cells #[.int .i64 0] 3)) 4 (.bool false)
    rw [World.size_alloc, World.size_alloc] at this; rw [hW0]; exact this
  have hB0 : Below w.heap.size w W0 := by rw [hW0]; exact below_al (below_al (below_al (Below.refl _ w) _) _) _
  rw [← hW0]
  have bt : (W0.alloc (.cells #[.slice A b.length c] 166)).cell? ⟨W0.heap.size, 0, none⟩ = some (.slice A b.length c) := (Boxed.new W0 166 (.slice A b.length c)).cell
  have b1' := b1.alloc (.cells #[.slice A b.length c] 166)
  have b2' := b2.alloc (.cells #[.slice A b.length c] 166)
  have b3' := b3.alloc (.cells #[.slice A b.length c] 166)
  have hB := hB0.alloc hB0.size (.cells #[.slice A b.length c] 166)
  clear b1 b2 b3 hW0
  rw [← hs0]
  refine wpIn_rangeFunc_ownH hro h1 (gf := 107) (lb := #[.pointer (some ⟨W0.heap.size, 0, none⟩)]) rfl h28 (enters_of Try.func107 (by kernel_rfl) rfl)
    (behind_stops F (n - 1) h28 hro (by omega) w.heap.size _ _ b _ (by simp; omega) bt ((HV.out.more hBB).below hB) hl) KpS.t (KpS.b (by simp; omega)) (Below.refl _ _) (fun _ => rfl)
    (fun pre W => (Boxed W w.heap.size 3 (.int .i64 l) ∧ Boxed W (w.heap.size + 1) 3 (.int .i64 0) ∧ Boxed W (w.heap.size + 1 + 1) 4 (.bool false)) ∧ Below w.heap.size w W ∧ ∀ y ∈ pre, ¬ (y : Wr).loc = l)
    (fun c pre W => c = .ret ∧ (∃ p y, pre = p ++ [y] ∧ (∀ z ∈ p, ¬ (z : Wr).loc = l) ∧ (y : Wr).loc = l ∧ Boxed W (w.heap.size + 1) 3 (.int .i64 y.n) ∧ Boxed W (w.heap.size + 1 + 1) 4 (.bool true)) ∧ Below w.heap.size w W)
    (OwnFrom.and (OwnFrom.and (Own.from (boxed_own _ _ (fun _ : List Wr => .int .i64 l)) _) (OwnFrom.and (Own.from (boxed_own _ _ (fun _ : List Wr => .int .i64 0)) _) (Own.from (boxed_own _ _ (fun _ : List Wr => .bool false)) _))) (OwnFrom.and (ownFrom_below (Nat.le_refl _) (by simp; omega)) (ownFrom_pure _ _)))
    (fun c s A B row hs hg hr => ⟨hs.1, by obtain ⟨-, ⟨p, y, e, hp, he, hb, hb'⟩, -⟩ := hs; exact ⟨p, y, e, hp, he, (boxed_own _ _ (fun _ : Unit => .int .i64 y.n)) () A B row hb hg (fun r e => (hr r e).2), (boxed_own _ _ (fun _ : Unit => .bool true)) () A B row hb' hg (fun r e => (hr r e).2)⟩, (ownFrom_below (β := Unit) (Nat.le_refl _) (by simp; omega)) () A B row hs.2.2 hg hr⟩)
    ⟨⟨b1', b2', b3'⟩, hB, by simp⟩
    (fun x a' W => ∃ Bx, w.heap.size + 1 + 1 < Bx ∧ Box2 W Bx 135 (.int .i64 x.loc) (.int .i64 x.n) ∧ a' = { tmps := #[.slice A b.length c, .int .i64 l, undef, .pointer (some ⟨w.heap.size, 0, none⟩), .pointer (some ⟨w.heap.size + 1, 0, none⟩), .pointer (some ⟨w.heap.size + 1 + 1, 0, none⟩), .pointer (some ⟨Bx, 0, none⟩), .slice A b.length c, .func (.func 107) #[] #[.pointer (some ⟨W0.heap.size, 0, none⟩)], .agg #[.int .i64 x.loc, .int .i64 x.n], undef, undef, undef, undef, undef, undef], defers := [] })
    (fun x a' s A B row hs hg hr => by obtain ⟨Bx, h1, h2, h3⟩ := hs; exact ⟨Bx, h1, (box2_own (β := Unit) Bx _ _ _) () A B row h2 hg (fun r e => (hr r e).2), h3⟩)
    ?assign ?body ?done ?stop
  case assign =>
    rintro l pre x W K ⟨⟨h1, h2, h3⟩, hB, hno⟩ hK
    dsimp only [encw]
    gi_wp2
    exact hK _ _ ((KeepsOthers.alloc _ _).from _) (KpS.grown hB.size (World.grownBy_alloc _ _ none) (fun r e => by cases e)) ⟨⟨h1.alloc _, h2.alloc _, h3.alloc _⟩, hB.alloc hB.size _, hno⟩ ⟨W.heap.size, h3.lt, Box2.new W _ _ _, by simp⟩
  case body =>
    rintro l' pre x a' W hll ⟨r, hr⟩ ⟨⟨h1, h2, h3⟩, hB, hno⟩ ⟨Bx, hBx, hx, rfl⟩ hlt
    have c1 := h1.cell
    have c2 := h2.cell
    have c3 := h3.cell
    have f2 := h2.frozen
    have f3 := h3.frozen
    have x0 := hx.cell0
    have x1 := hx.cell1
    have g2 := (h2.set (.int .i64 x.n)).other (B' := w.heap.size + 1 + 1) (by omega) (.bool true)
    have g3 := (h3.other (B' := w.heap.size + 1) (by omega) (.int .i64 x.n)).set (.bool true)
    have hBg := ((hB.setCell (p := ⟨w.heap.size + 1, 0, none⟩) (by show _ ≤ w.heap.size + 1; omega) (.int .i64 x.n)).setCell (p := ⟨w.heap.size + 1 + 1, 0, none⟩) (by show _ ≤ w.heap.size + 1 + 1; omega) (.bool true))
    by_cases e1 : x.loc = l
    · gi_wp2
      exact ⟨((KeepsOthers.setCell _ _ _).trans (KeepsOthers.setCell _ _ _)).from _, rfl, ⟨pre, x, rfl, hno, e1, g2, g3⟩, hBg⟩
    · gi_wp2
      exact ⟨KeepsFrom.refl _ _, ⟨Below.refl _ _, fun _ h _ => h⟩, ⟨h1, h2, h3⟩, hB, fun y hy => by
        rcases List.mem_append.1 hy with hy | hy
        · exact hno y hy
        · rw [List.mem_singleton.1 hy]; exact e1⟩
  case done =>
    rintro D ys W hD hys ⟨⟨h1, h2, h3⟩, hB, hno⟩ hK
    have c2 := h2.cell
    have c3 := h3.cell
    have f2 := h2.frozen
    have f3 := h3.frozen
    have g2 := (h2.set (.int .i64 0)).other (B' := w.heap.size + 1 + 1) (by omega) (.bool false)
    have g3 := (h3.other (B' := w.heap.size + 1) (by omega) (.int .i64 0)).set (.bool false)
    have hBg := ((hB.setCell (p := ⟨w.heap.size + 1, 0, none⟩) (by show _ ≤ w.heap.size + 1; omega) (.int .i64 0)).setCell (p := ⟨w.heap.size + 1 + 1, 0, none⟩) (by show _ ≤ w.heap.size + 1 + 1; omega) (.bool false))
    gi_wp2
    have hK' := ((KeepsOthers.setCell W ⟨w.heap.size + 1, 0, none⟩ (.int .i64 0)).trans (KeepsOthers.setCell _ ⟨w.heap.size + 1 + 1, 0, none⟩ (.bool false))).same D _ hK rfl
    refine ⟨by simp, .inl ⟨_, _, rfl, run_takeDeferred hK', ?_⟩⟩
    have d2 := cell_kept g2.cell (grownBy_putObj' _ D (.deferred none)) (fun r e => by cases e; exact ⟨_, hK', rfl⟩)
    have d3 := cell_kept g3.cell (grownBy_putObj' _ D (.deferred none)) (fun r e => by cases e; exact ⟨_, hK', rfl⟩)
    have e0 : last b l = none := last_rev_none (fun y hy => hno y (by rw [hys]; simpa using hy))
    refine ⟨.tuple #[.int .i64 0, .bool false], ?_, ?_, ?_⟩
    · simp [results, Try.f100, go_sem, d2, d3]
    · rw [lastV, e0]
    · exact hBg.trans (belowK_b (w := w) (Nat.le_refl _) _ D _ _ (by simp at hD; omega) hK' rfl rfl)
  case stop =>
    rintro D cc pre W hD hSp ⟨rfl, ⟨p, y, rfl, hp, hy, hb, hb'⟩, hB⟩ hK
    have d2 := hb.cell
    have d3 := hb'.cell
    have e0 : last b l = some y.n := last_pre hSp hp hy
    gi_wp2
    refine ⟨by simp, .inl ⟨_, _, rfl, run_takeDeferred hK, ?_⟩⟩
    have d2 := cell_kept hb.cell (grownBy_putObj' _ D (.deferred none)) (fun r e => by cases e; exact ⟨_, hK, rfl⟩)
    have d3 := cell_kept hb'.cell (grownBy_putObj' _ D (.deferred none)) (fun r e => by cases e; exact ⟨_, hK, rfl⟩)
    refine ⟨.tuple #[.int .i64 y.n, .bool true], ?_, ?_, ?_⟩
    · simp [results, Try.f100, go_sem, d2, d3]
    · rw [lastV, e0]
    · exact hB.trans (belowK_b (w := w) (Nat.le_refl _) _ D _ _ (by simp at hD; omega) hK rfl rfl)
theorem blast_any {B : Nat} {v : Value} {b : List Wr} (l : Int) (w : World) (hv : WrR B w v b) (hBB : B ≤ w.heap.size) (hl : b.length ≤ 1000000) :
    Calls Try.prog 100 #[v, .int .i64 l] w fun e w' => e = .returned (lastV b l) ∧ Below w.heap.size w w' :=
  callsIn_wide.1 (last_in Fence.wide 10 trivial trivial trivial rfl (by omega) l w hv hBB hl)
end Go.Proofs.Ytbffjhdocicfoaa
namespace Go.Proofs.Ytbffjhdocicfoaa
open Go.RowKit
set_option linter.unusedVariables false
set_option linter.unusedSimpArgs false
open BfM

set_option maxHeartbeats 1000000 in
set_option maxRecDepth 100000 in
theorem plcb_any (A : Option Addr) (m c : Nat) (l : Int) (w : World) (hm : m ≤ 9223372036854775807) :
    Calls Try.prog 101 #[.slice A m c, .int .i64 l] w fun e w' => e = .returned (.bool (plc m l)) ∧ Below w.heap.size w w' := by
  by_cases h1 : 0 ≤ l
  · by_cases h2 : l < m
    · have hp : plc m l = true := decide_eq_true ⟨h1, h2⟩
      rw [hp]; clear hp
      go_enter Try.func101, Try.ntmps101
      go_wp2
      go_ret
      exact ⟨rfl, Below.refl _ _⟩
    · have hp : plc m l = false := decide_eq_false (fun h => h2 h.2)
      rw [hp]; clear hp
      go_enter Try.func101, Try.ntmps101
      go_wp2
      go_ret
      exact ⟨rfl, Below.refl _ _⟩
  · have hp : plc m l = false := decide_eq_false (fun h => h1 h.1)
    rw [hp]; clear hp
    go_enter Try.func101, Try.ntmps101
    go_wp2
    go_ret
    exact ⟨rfl, Below.refl _ _⟩
/-- A store into a row of numbers of the call's own. -/
theorem ownI_set {base g c : Nat} {w : World} {m : List Int} (h : OwnI base w (.slice (some ⟨g, 0, none⟩) m.length c) m) (k : Nat) (x : Int) : OwnI base (w.setCell ⟨g, k, none⟩ (.int .i64 x)) (.slice (some ⟨g, 0, none⟩) m.length c) (m.set k x) := by
  have := (h.stored k (.int .i64 x)).1
  rw [nuC_set] at this
  unfold OwnI; rw [List.length_set]; exact this
theorem ownI_cell {base g c : Nat} {w : World} {m : List Int} (h : OwnI base w (.slice (some ⟨g, 0, none⟩) m.length c) m) {k : Nat} (hk : k < m.length) : w.cell? ⟨g, k, none⟩ = some (.int .i64 m[k]) := by
  rw [h.cellAt k (by omega)]
  have := fl_at nuC_len m k 0 hk (by omega)
  rw [Nat.mul_one] at this; exact this
theorem bown_form {base T s n : Nat} {w : World} {v : Value} {xs : List Value} (h : w.ownsRow base T s v n xs) (hn : 0 < n) : ∃ g c, v = .slice (some ⟨g, 0, none⟩) n c ∧ base ≤ g ∧ g < w.heap.size ∧ n ≤ c ∧ c ≤ maxLen := by
  rcases h.2 with ⟨rfl, h0⟩ | ⟨g, cap, cur, rfl, h2, h3, h4, h5, _⟩
  · omega
  · exact ⟨g, cap, rfl, h2, (Array.getElem?_eq_some_iff.1 h3).1, h4, h5⟩
set_option maxHeartbeats 4000000 in
set_option maxRecDepth 100000 in
theorem barrive_any {base : Nat} {v : Value} {m : List Int} (x : Wr) (w : World) (ho : OwnI base w v m) (hb : base ≤ w.heap.size) (hm : m.length ≤ 1000000) :
    Calls Try.prog 99 #[v, .agg #[.int .i64 x.loc, .int .i64 x.n]] w fun e w' => e = .returned (.bool (plc m.length x.loc)) ∧ OwnI base w' v (if plc m.length x.loc then arr m x else m) ∧ Below base w w' := by
  have HA := Lib.hid (below_al (Below.refl w.heap.size w) (.cells #[.int .i64 x.loc, .int .i64 x.n] 135))
  have HO := Lib.hid ho
  have hx0 : (w.alloc (.cells #[.int .i64 x.loc, .int .i64 x.n] 135)).cell? ⟨w.heap.size, 0, none⟩ = some (.int .i64 x.loc) := by rw [World.cell?_alloc_at _ _ _ _ rfl]; rfl
  have hx1 : (w.alloc (.cells #[.int .i64 x.loc, .int .i64 x.n] 135)).cell? ⟨w.heap.size, 1, none⟩ = some (.int .i64 x.n) := by rw [World.cell?_alloc_at _ _ _ _ rfl]; rfl
  obtain ⟨l, n⟩ := x
  have HPL := Lib.hid (fun A c (W : World) => plcb_any A m.length c l W (by omega))
  by_cases hp : plc m.length l = true
  · rw [if_pos hp]
    rw [hp]
    rw [hp] at HPL
    have hl := hp
    unfold plc at hl
    rw [decide_eq_true_eq] at hl
    obtain ⟨k, rfl⟩ : ∃ k : Nat, l = k := ⟨l.toNat, by omega⟩
    have hk : k < m.length := by omega
    obtain ⟨g, c, rfl, hg1, hg2, hc1, hc2⟩ := bown_form ho (by omega)
    clear ho hp hl
    
    go_enter Try.func99, Try.ntmps99
    go_wp2_with fail
    refine (HPL.out _ _ _).mono ?_
    rintro e w1 ⟨rfl, hb1⟩
    have hB := chain HA.out hb1
    replace hx0 := kc hb1 hx0
    replace hx1 := kc hb1 hx1
    have HO1 := Lib.hid (own_below HO.out hB)
    have hcl := ownI_cell HO1.out hk
    have hfr := HO1.out.frozenAt k
    have HS := Lib.hid (ownI_set HO1.out k n)
    have HBS := Lib.hid ((hB.mono hb).setCell (p := ⟨g, k, none⟩) hg1 (.int .i64 n))
    clear hB hb1 HPL HA
    generalize m[k] = old at *
    go_wp2
    go_ret
    refine ⟨rfl, ?_, ?_⟩
    · simpa [arr] using HS.out
    · exact HBS.out
  · rw [if_neg hp]
    rw [Bool.not_eq_true] at hp
    rw [hp]
    rw [hp] at HPL
    obtain ⟨A, c, rfl⟩ := own_slice ho
    clear ho hp
    go_enter Try.func99, Try.ntmps99
    go_wp2_with fail
    refine (HPL.out _ _ _).mono ?_
    rintro e w1 ⟨rfl, hb1⟩
    have hB := chain HA.out hb1
    have HO1 := Lib.hid (own_below HO.out hB)
    clear HPL HA
    go_wp2
    go_ret
    exact ⟨rfl, HO1.out, hB.mono hb⟩
end Go.Proofs.Ytbffjhdocicfoaa
namespace Go.Proofs.Ytbffjhdocicfoaa
open Go.RowKit
set_option linter.unusedVariables false
set_option linter.unusedSimpArgs false
open BfM

/-- What View hands back. -/
def viewV (b : List Wr) (m : List Int) (l : Int) : Value := match view b m l with
  | some n => .tuple #[.int .i64 n, .bool true]
  | none => .tuple #[.int .i64 0, .bool false]
set_option maxHeartbeats 4000000 in
set_option maxRecDepth 100000 in
theorem bview_any {B : Nat} {v u : Value} {b : List Wr} {m : List Int} (l : Int) (w : World) (hv : WrR B w v b) (hu : IntR B w u m) (hBB : B ≤ w.heap.size) (hl : b.length ≤ 1000000) (hm : m.length ≤ 1000000) :
    Calls Try.prog 86 #[v, u, .int .i64 l] w fun e w' => e = .returned (viewV b m l) ∧ Below w.heap.size w w' := by
  have HLA := Lib.hid (blast_any l w hv hBB hl)
  have HPL := Lib.hid (fun A c (W : World) => plcb_any A m.length c l W (by omega))
  obtain ⟨A1, c1, rfl, -⟩ := hv
  obtain ⟨A2, c2, rfl, g1, g2, -, g3⟩ := hu
  unfold maxLen at g2
  have g3 := nu_at (c := c2) g3
  cases hla : last b l with
  | some n =>
    have hV : viewV b m l = .tuple #[.int .i64 n, .bool true] := by unfold viewV view; rw [hla]
    have hL : lastV b l = .tuple #[.int .i64 n, .bool true] := by unfold lastV; rw [hla]
    rw [hL] at HLA
    rw [hV]
    clear hla hV hL g3
    go_enter Try.func86, Try.ntmps86
    go_wp2_with fail
    refine HLA.out.mono ?_
    rintro e w1 ⟨rfl, hb1⟩
    go_wp2
    go_ret2
    exact ⟨rfl, hb1⟩
  | none =>
    have hL : lastV b l = .tuple #[.int .i64 0, .bool false] := by unfold lastV; rw [hla]
    rw [hL] at HLA
    by_cases hp : plc m.length l = true
    · have hl' := hp
      unfold plc at hl'
      rw [decide_eq_true_eq] at hl'
      obtain ⟨k, rfl⟩ : ∃ k : Nat, l = k := ⟨l.toNat, by omega⟩
      have hk : k < m.length := by omega
      have hV : viewV b m k = .tuple #[.int .i64 m[k], .bool true] := by unfold viewV view; rw [hla]; simp [hp, hk]
      rw [hV]
      rw [hp] at HPL
      obtain ⟨b2, f2, rfl, hb2, hc2⟩ := g3 (by omega)
      have hc := Lib.hid (hc2 k hk)
      generalize m[k] = x at *
      clear hla hV hL g3 hp hl' hc2
      go_enter Try.func86, Try.ntmps86
      go_wp2_with fail
      refine HLA.out.mono ?_
      rintro e w1 ⟨rfl, hb1⟩
      go_wp2_with fail
      refine (HPL.out _ _ _).mono ?_
      rintro e w3 ⟨rfl, hb3⟩
      have hB := chain hb1 hb3
      have hcc := ((hB.mono hBB).cell (p := ⟨b2, f2 + k, none⟩) hb2).trans hc.out
      clear HLA HPL hb1 hb3
      go_wp2
      go_ret2
      exact ⟨rfl, hB⟩
    · have hV : viewV b m l = .tuple #[.int .i64 0, .bool false] := by unfold viewV view; rw [hla]; simp [hp]
      rw [hV]
      rw [Bool.not_eq_true] at hp
      rw [hp] at HPL
      clear hla hV hL g3 hp
      go_enter Try.func86, Try.ntmps86
      go_wp2_with fail
      refine HLA.out.mono ?_
      rintro e w1 ⟨rfl, hb1⟩
      go_wp2_with fail
      refine (HPL.out _ _ _).mono ?_
      rintro e w3 ⟨rfl, hb3⟩
      have hB := chain hb1 hb3
      clear HLA HPL hb1 hb3
      go_wp2
      go_ret2
      exact ⟨rfl, hB⟩
/-- Can the oldest write come there? -/
def can (b : List Wr) (m : Nat) : Bool := match b with
  | [] => false
  | w :: _ => plc m w.loc
/-- What is on its way behind a drain, and what there is then. -/
def drB (b : List Wr) (m : List Int) : List Wr := if can b m.length then b.tail else b
def drM (b : List Wr) (m : List Int) : List Int := match b with
  | [] => m
  | w :: _ => if plc m.length w.loc then arr m w else m
theorem rw_tail {B : Nat} {w : World} {A : Option Addr} {c : Nat} {x : Wr} {r : List Wr} {g f : Nat} (h : WrR B w (.slice (some ⟨g, f, none⟩) (x :: r).length c) (x :: r)) : WrR B w (.slice (some ⟨g, f + 2, none⟩) r.length (c - 1)) r := by
  obtain ⟨A', c', e, h1, h2, h0, h3⟩ := h
  injection e with e1 _ e3
  subst e1; subst e3
  obtain ⟨b', f', e, hb, hc⟩ := h3 (by simp)
  injection e with e; injection e with e1 e2; subst e1; subst e2
  rw [List.length_cons] at h1
  refine ⟨_, _, rfl, by omega, by omega, fun e => (by cases e), fun _ => ⟨g, f + 2, rfl, hb, fun j u hu => ?_⟩⟩
  have := hc (j + 2) u (by rw [List.flatMap_cons, List.getElem?_append_right (by rw [wrC_len]; omega), wrC_len, Nat.add_sub_cancel]; exact hu)
  rw [show f + 2 + j = f + (j + 2) by omega]; exact this
/-- What Drain hands back: rows of its own, that of the writes above that of the locations. -/
def DrRet (b : List Wr) (m : List Int) (w : World) (e : Ending) (w' : World) : Prop :=
  ∃ x y n1, e = .returned (.tuple #[x, y, .bool (can b m.length)]) ∧ w.heap.size ≤ n1 ∧ OwnW n1 w' x (drB b m) ∧ OwnI w.heap.size w' y (drM b m) ∧ (∀ g, y.ownBlock = some g → g < n1) ∧ Below w.heap.size w w'
set_option maxHeartbeats 4000000 in
set_option maxRecDepth 100000 in
theorem bdrain_any {B : Nat} {v u : Value} {b : List Wr} {m : List Int} (w : World) (hv : WrR B w v b) (hu : IntR B w u m) (hBB : B ≤ w.heap.size) (hl : b.length ≤ 1000000) (hm : m.length ≤ 1000000) :
    Calls Try.prog 85 #[v, u] w (DrRet b m w) := by
  have HCI := Lib.hid (clonei_any w hu hBB hm)
  obtain ⟨A2, c2, rfl, -⟩ := hu
  have HV := Lib.hid (fun W (hW : Below w.heap.size w W) => (hv.below (hW.mono hBB)).more (Nat.le_trans hBB hW.size))
  obtain ⟨A1, c1, rfl, g1, g2, g0, g3⟩ := hv
  unfold maxLen at g2
  cases b with
  | nil =>
    clear g3 g0 g1
    have HCW := Lib.hid (fun W (hW : Below w.heap.size w W) => clonew_any W (HV.out W hW) (Nat.le_refl _) hl)
    go_enter Try.func85, Try.ntmps85
    go_wp2_with fail
    refine HCI.out.mono ?_
    rintro e w1 ⟨y, rfl, ho1, hb1⟩
    obtain ⟨Ay, cy, rfl⟩ := own_slice ho1
    have HO1 := Lib.hid ho1
    clear ho1
    go_wp2_with fail
    refine (HCW.out _ hb1).mono ?_
    rintro e w3 ⟨x, rfl, ho3, hb3⟩
    have hB := chain hb1 hb3
    have HO3 := Lib.hid ho3
    clear ho3
    go_wp2
    go_ret3
    exact ⟨_, _, w1.heap.size, rfl, hb1.size, HO3.out, own_below HO1.out hb3, fun g hg => (HO1.out.lt g hg).2, hB⟩
  | cons x r =>
    obtain ⟨b2, f2, rfl, hb2, hc2⟩ := wr_at (c := c1) g3 (by simp)
    obtain ⟨q0, q1⟩ := hc2 0 (by simp)
    simp only [Nat.zero_mul, Nat.add_zero, List.getElem_cons_zero] at q0 q1
    have HQ := Lib.hid (show _ ∧ _ from ⟨q0, q1⟩)
    rw [List.length_cons] at g1 hl
    have HAR := Lib.hid (fun (y : Value) W (h : OwnI w.heap.size W y m) (hb : w.heap.size ≤ W.heap.size) => barrive_any x W h hb hm)
    clear g3 g0 hc2 q0 q1
    rw [List.length_cons]
    by_cases hp : plc m.length x.loc = true
    · have hcan : can (x :: r) m.length = true := hp
      have hdm : drM (x :: r) m = arr m x := if_pos hp
      have hdb : drB (x :: r) m = r := if_pos hcan
      unfold DrRet
      rw [hcan, hdm, hdb]
      simp only [hp, if_true] at HAR
      clear hcan hdm hdb hp
      have HCW : Hid (∀ W, Below w.heap.size w W → (c1 = 1 → Calls Try.prog 89 #[.slice (some ⟨b2, f2, none⟩) r.length 0] W fun e w' => ∃ u, e = .returned u ∧ OwnW W.heap.size w' u r ∧ Below W.heap.size W w') ∧
          Calls Try.prog 89 #[.slice (some ⟨b2, f2 + 2, none⟩) r.length (c1 - 1)] W fun e w' => ∃ u, e = .returned u ∧ OwnW W.heap.size w' u r ∧ Below W.heap.size W w') := Lib.hid (fun W hW => ⟨fun hc => by
            have h0 : r = [] := List.eq_nil_of_length_eq_zero (by omega)
            subst h0
            exact clonew_any (B := 0) W ⟨_, 0, rfl, Nat.le_refl _, by decide, fun e => (by cases e), fun k => absurd k (by simp)⟩ (Nat.zero_le _) (by simp), clonew_any W (rw_tail (A := none) (HV.out W hW)) (Nat.le_refl _) (by omega)⟩)
      go_enter Try.func85, Try.ntmps85
      go_wp2_with fail
      refine HCI.out.mono ?_
      rintro e w1 ⟨y, rfl, ho1, hb1⟩
      have HAR1 := Lib.hid (HAR.out y w1 ho1 hb1.size)
      have hyw := (own_slice ho1)
      obtain ⟨Ay, cy, rfl⟩ := hyw
      have q0 := ((hb1.mono hBB).cell (p := ⟨b2, f2, none⟩) hb2).trans HQ.out.1
      have q1 := ((hb1.mono hBB).cell (p := ⟨b2, f2 + 1, none⟩) hb2).trans HQ.out.2
      have HN1 := Lib.hid (fun g hg => (ho1.lt g hg).2)
      clear ho1 HAR HCI
      go_wp2_with fail
      refine HAR1.out.mono ?_
      rintro e w3 ⟨rfl, ho3, hb3⟩
      have hB3 := hb1.trans hb3
      have HO3 := Lib.hid ho3
      have HL3 := Lib.hid (arr_len m x)
      clear HAR1 hb3 ho3 q0 q1
      go_wp2_with fail
      · refine ((HCW.out _ hB3).1 (by omega)).mono ?_
        rintro e w4 ⟨z, rfl, ho4, hb4⟩
        have HO4 := Lib.hid ho4
        have hB4 := chain hB3 hb4
        have HK := Lib.hid (own_below HO3.out hb4)
        have hsz := HN1.out
        have hle := Nat.le_trans hB3.size hb4.size
        clear HCW hb4 ho4 
        obtain ⟨Az, cz, rfl⟩ := own_slice HO4.out
        go_wp2
        go_ret3
        refine ⟨_, _, w3.heap.size, rfl, hB3.size, HO4.out, HK.out, fun g hg => (HO3.out.lt g hg).2, hB4⟩
      · refine (HCW.out _ hB3).2.mono ?_
        rintro e w4 ⟨z, rfl, ho4, hb4⟩
        have HO4 := Lib.hid ho4
        have hB4 := chain hB3 hb4
        have HK := Lib.hid (own_below HO3.out hb4)
        have hsz := HN1.out
        have hle := Nat.le_trans hB3.size hb4.size
        clear HCW hb4 ho4 
        obtain ⟨Az, cz, rfl⟩ := own_slice HO4.out
        go_wp2
        go_ret3
        refine ⟨_, _, w3.heap.size, rfl, hB3.size, HO4.out, HK.out, fun g hg => (HO3.out.lt g hg).2, hB4⟩
    · rw [Bool.not_eq_true] at hp
      have HCW := Lib.hid (fun W (hW : Below w.heap.size w W) => clonew_any W (HV.out W hW) (Nat.le_refl _) hl)
      have hcan : can (x :: r) m.length = false := hp
      have hdm : drM (x :: r) m = m := if_neg (by rw [hp]; exact Bool.false_ne_true)
      have hdb : drB (x :: r) m = x :: r := if_neg (by rw [hcan]; exact Bool.false_ne_true)
      unfold DrRet
      rw [hcan, hdm, hdb]
      simp only [hp, Bool.false_eq_true, if_false] at HAR
      clear hcan hdm hdb hp
      go_enter Try.func85, Try.ntmps85
      go_wp2_with fail
      refine HCI.out.mono ?_
      rintro e w1 ⟨y, rfl, ho1, hb1⟩
      have HAR1 := Lib.hid (HAR.out y w1 ho1 hb1.size)
      have hyw := (own_slice ho1)
      obtain ⟨Ay, cy, rfl⟩ := hyw
      have q0 := ((hb1.mono hBB).cell (p := ⟨b2, f2, none⟩) hb2).trans HQ.out.1
      have q1 := ((hb1.mono hBB).cell (p := ⟨b2, f2 + 1, none⟩) hb2).trans HQ.out.2
      clear ho1 HAR HCI
      go_wp2_with fail
      refine HAR1.out.mono ?_
      rintro e w3 ⟨rfl, ho3, hb3⟩
      have hB3 := hb1.trans hb3
      have HO3 := Lib.hid ho3
      clear HAR1 hb3 ho3 q0 q1
      go_wp2_with fail
      refine (HCW.out _ hB3).mono ?_
      rintro e w4 ⟨z, rfl, ho4, hb4⟩
      have HO4 := Lib.hid ho4
      have hB4 := chain hB3 hb4
      have HK := Lib.hid (own_below HO3.out hb4)
      clear HCW hb4 ho4 
      obtain ⟨Az, cz, rfl⟩ := own_slice HO4.out
      go_wp2
      go_ret3
      refine ⟨_, _, w3.heap.size, rfl, hB3.size, HO4.out, HK.out, fun g hg => (HO3.out.lt g hg).2, hB4⟩
end Go.Proofs.Ytbffjhdocicfoaa
namespace Go.Proofs.Ytbffjhdocicfoaa
open Go.RowKit
set_option linter.unusedVariables false
set_option linter.unusedSimpArgs false
open CodM (St Pg rightP)
open BfM (Wr plc)
open ScM

/-- The thread of that number. -/
def thO (s : Sta) (t : Int) : Option Th := if 0 ≤ t then s.ths[t.toNat]? else none
theorem thO_at {s : Sta} {k : Nat} (hk : k < s.ths.length) : thO s (k : Int) = some s.ths[k] := by
  unfold thO
  rw [if_pos (by omega)]
  simp [hk]
theorem thO_none {s : Sta} {t : Int} (h : ¬ (0 ≤ t ∧ t < (s.ths.length : Int))) : thO s t = none := by
  unfold thO
  split
  · exact List.getElem?_eq_none (by omega)
  · rfl
/-- A write came there. -/
def drn (s : Sta) (k : Nat) (h : Th) : Sta := ⟨drM h.buf s.mem, s.ths.set k ⟨h.at', h.regs, h.eq, drB h.buf s.mem⟩⟩
/-- A thread's step, as it is. -/
def tsS (x : St) (s : Sta) (k : Nat) (h : Th) : Sta :=
  if x.op = 2 then ⟨s.mem, s.ths.set k ⟨h.at' + 1, h.regs.set x.reg.toNat ((BfM.view h.buf s.mem x.loc).getD 0), h.eq, h.buf⟩⟩
  else if x.op = 3 then ⟨s.mem, s.ths.set k ⟨h.at' + 1, h.regs, h.eq, h.buf ++ [⟨x.loc, nth h.regs x.reg⟩]⟩⟩
  else if x.op = 4 then ⟨s.mem, s.ths.set k ⟨h.at' + 1, h.regs, h.eq, h.buf ++ [⟨x.loc, x.n⟩]⟩⟩
  else ⟨ScM.stM x s.mem h.regs, s.ths.set k (stT x s.mem h)⟩
/-- A step that can't be done. -/
def stuck (x : St) (h : Th) : Bool := !h.buf.isEmpty && (decide (x.op = 6) || decide (x.op = 5))
/-- What a pick makes; none: it can't be done. -/
def tst (P : Pg) (s : Sta) (t : Int) (d : Bool) : Option Sta :=
  if d then
    match thO s t with
    | some h => if can h.buf s.mem.length then some (drn s t.toNat h) else none
    | none => none
  else
    match atS P s t, thO s t with
    | some x, some h => if stuck x h then none else some (tsS x s t.toNat h)
    | _, _ => none
/-- All writes of a thread came there. -/
def flu (s : Sta) (t : Int) : Sta := match thO s t with
  | some h => ⟨BfM.all h.buf s.mem, s.ths.set t.toNat ⟨h.at', h.regs, h.eq, []⟩⟩
  | none => s
/-- What hands back the state behind a pick. -/
def TpRet (P : Pg) (s : Sta) (t : Int) (d : Bool) (w : World) (e : Ending) (w' : World) : Prop := ∃ vm vt ps, e = .returned (.tuple #[.agg #[vm, vt], .bool (tst P s t d).isSome]) ∧ OwnSt w.heap.size w' vm vt ((tst P s t d).getD s) ps ∧ Below w.heap.size w w'
/-! Memory. -/
/-- Another row of locations. -/
theorem OwnSt.memRow {base : Nat} {w : World} {vm vm' vt : Value} {s : Sta} {ps : List TV} {m : List Int} (h : OwnSt base w vm vt s ps) (hm : OwnI base w vm' m) (ha : ∀ p ∈ ps, Ap vm' p.vr) : OwnSt base w vm' vt ⟨m, s.ths⟩ ps :=
  ⟨hm, h.ths, h.eq, fun p hp => ⟨(h.each p hp).1, (h.each p hp).2.1, ha p hp⟩, h.ap⟩
/-- A new row in place of a thread's writes. -/
theorem OwnSt.setVB {base g n c k : Nat} {w : World} {vm : Value} {s : Sta} {ps : List TV} (h : OwnSt base w vm (.slice (some ⟨g, 0, none⟩) n c) s ps) (hk : k < ps.length) (q : TV) (hx : thC q = (thC ps[k]).set 3 q.vb) (h2 : q.vr = ps[k].vr) (h4 : q.t.regs = ps[k].t.regs)
    (h1 : OwnW base w q.vb q.t.buf) :
    OwnSt base (w.setCell ⟨g, k * 4 + 3, none⟩ q.vb) vm (.slice (some ⟨g, 0, none⟩) n c) ⟨s.mem, s.ths.set k q.t⟩ (ps.set k q) := by
  have hg : (Value.slice (some ⟨g, 0, none⟩) n c).ownBlock = some g := rfl
  have hn : n = s.ths.length := by
    obtain ⟨A, c', e'⟩ := own_slice h.ths
    injection e' with _ e' _
  have hT : (w.setCell ⟨g, k * 4 + 3, none⟩ q.vb).ownsRow base 94 4 (.slice (some ⟨g, 0, none⟩) n c) n ((ps.set k q).flatMap thC) := by
    have e := h.ths
    rw [← hn] at e
    have := (e.stored (k * 4 + 3) q.vb).1
    rw [flat_set1 ps k q 3 q.vb hk (by decide) hx] at this
    exact this
  refine ⟨own_keep h.mem (fun e => own_unlike neT h.mem h.ths g e hg) _, by rw [List.length_set, ← hn]; exact hT, by rw [List.map_set, h.eq], fun p hp => ?_, by rw [map_vr_set hk q h2]; exact h.ap⟩
  obtain ⟨j, hj, rfl⟩ := List.mem_iff_getElem.1 hp
  have hj' : j < ps.length := by simpa using hj
  rw [List.getElem_set]
  by_cases e : k = j
  · rw [if_pos e]
    obtain ⟨d1, d2, d3⟩ := h.each _ (List.getElem_mem hk)
    rw [h2, h4]
    exact ⟨own_keep d1 (fun e' => own_unlike neT d1 h.ths g e' hg) _, own_keep h1 (fun e' => own_unlike neV h1 h.ths g e' hg) _, d3⟩
  · rw [if_neg e]
    obtain ⟨d1, d2, d3⟩ := h.each _ (List.getElem_mem hj')
    exact ⟨own_keep d1 (fun e' => own_unlike neT d1 h.ths g e' hg) _, own_keep d2 (fun e' => own_unlike neV d2 h.ths g e' hg) _, d3⟩
theorem OwnSt.setVB' {base g n c k : Nat} {w : World} {vm vr vb vb' : Value} {s : Sta} {ps : List TV} {a : Th} {b : List Wr} (h : OwnSt base w vm (.slice (some ⟨g, 0, none⟩) n c) s ps) (hk : ps[k]? = some ⟨a, vr, vb⟩) (h1 : OwnW base w vb' b) :
    OwnSt base (w.setCell ⟨g, k * 4 + 3, none⟩ vb') vm (.slice (some ⟨g, 0, none⟩) n c) ⟨s.mem, s.ths.set k ⟨a.at', a.regs, a.eq, b⟩⟩ (ps.set k ⟨⟨a.at', a.regs, a.eq, b⟩, vr, vb'⟩) := by
  obtain ⟨hkp, e⟩ := List.getElem?_eq_some_iff.1 hk
  exact h.setVB hkp ⟨⟨a.at', a.regs, a.eq, b⟩, vr, vb'⟩ (by rw [e]; rfl) (by rw [e]) (by rw [e]) h1
end Go.Proofs.Ytbffjhdocicfoaa
