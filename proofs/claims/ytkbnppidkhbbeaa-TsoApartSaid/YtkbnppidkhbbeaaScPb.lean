/-
  sc.Begin: the first state.
-/
import Derived.Test.YtkbnppidkhbbeaaK04
import Derived.Test.YtkbnppidkhbbeaaScAt
import Derived.Deep.RegionHeld3
import Derived.Deep.DeepCutAuto
namespace Go.Proofs.Ytkbnppidkhbbeaa
open Go.RowKit
set_option linter.unusedVariables false
set_option linter.unusedSimpArgs false
open CodM (St Pg rightP)
open BfM (Wr plc)
open ScM

/-- A new row in place of a thread's registers. -/
theorem OwnSt.setV {base g n c k : Nat} {w : World} {vm : Value} {s : Sta} {ps : List TV} (h : OwnSt base w vm (.slice (some ⟨g, 0, none⟩) n c) s ps) (hk : k < ps.length) (q : TV) (hx : thC q = (thC ps[k]).set 1 q.vr) (h2 : q.vb = ps[k].vb) (h4 : q.t.buf = ps[k].t.buf)
    (h1 : OwnI base w q.vr q.t.regs) (h3 : Ap vm q.vr) (h5 : ∀ p ∈ ps, Ap p.vr q.vr) :
    OwnSt base (w.setCell ⟨g, k * 4 + 1, none⟩ q.vr) vm (.slice (some ⟨g, 0, none⟩) n c) ⟨s.mem, s.ths.set k q.t⟩ (ps.set k q) := by
  have hg : (Value.slice (some ⟨g, 0, none⟩) n c).ownBlock = some g := rfl
  have hn : n = s.ths.length := by
    obtain ⟨A, c', e'⟩ := own_slice h.ths
    injection e' with _ e' _
  have hT : (w.setCell ⟨g, k * 4 + 1, none⟩ q.vr).ownsRow base 43 4 (.slice (some ⟨g, 0, none⟩) n c) n ((ps.set k q).flatMap thC) := by
    have e := h.ths
    rw [← hn] at e
    have := (e.stored (k * 4 + 1) q.vr).1
    rw [flat_set1 ps k q 1 q.vr hk (by decide) hx] at this
    exact this
  refine ⟨own_keep h.mem (fun e => own_unlike neT h.mem h.ths g e hg) _, by rw [List.length_set, ← hn]; exact hT, by rw [List.map_set, h.eq], fun p hp => ?_, ?_⟩
  · obtain ⟨j, hj, rfl⟩ := List.mem_iff_getElem.1 hp
    have hj' : j < ps.length := by simpa using hj
    rw [List.getElem_set]
    by_cases e : k = j
    · rw [if_pos e]
      obtain ⟨d1, d2, d3⟩ := h.each _ (List.getElem_mem hk)
      rw [h2, h4]
      exact ⟨own_keep h1 (fun e' => own_unlike neT h1 h.ths g e' hg) _, own_keep d2 (fun e' => own_unlike neV d2 h.ths g e' hg) _, h3⟩
    · rw [if_neg e]
      obtain ⟨d1, d2, d3⟩ := h.each _ (List.getElem_mem hj')
      exact ⟨own_keep d1 (fun e' => own_unlike neT d1 h.ths g e' hg) _, own_keep d2 (fun e' => own_unlike neV d2 h.ths g e' hg) _, d3⟩
  · refine List.pairwise_iff_getElem.2 (fun i j hi hj hij => ?_)
    have hi' : i < ps.length := by simpa using hi
    have hj' : j < ps.length := by simpa using hj
    simp only [List.getElem_map, List.getElem_set]
    by_cases ei : k = i
    · rw [if_pos ei, if_neg (by omega)]
      exact ap_symm (h5 _ (List.getElem_mem hj'))
    · rw [if_neg ei]
      by_cases ej : k = j
      · rw [if_pos ej]; exact h5 _ (List.getElem_mem hi')
      · rw [if_neg ej]; exact h.apart hi' hj' (by omega)
def zTh : Th := ⟨0, [], false, []⟩
def zTV : TV := ⟨zTh, .slice none 0 0, .slice none 0 0⟩
/-- The threads when k have their registers. -/
def bT (n k : Nat) : List Th := List.replicate k begTh ++ List.replicate (n - k) zTh
theorem bT_len {n k : Nat} (h : k ≤ n) : (bT n k).length = n := by unfold bT; simp; omega
theorem bT_next {n k : Nat} (h : k < n) : (bT n k).set k begTh = bT n (k + 1) := by
  unfold bT
  rw [List.set_append_right _ _ (by simp), List.length_replicate, Nat.sub_self, show n - k = (n - (k + 1)) + 1 by omega, List.replicate_succ, List.set_cons_zero, List.replicate_succ', List.append_assoc]; rfl
theorem bT_at {n k : Nat} (h : k < n) (h' : k < (bT n k).length) : (bT n k)[k] = zTh := by
  simp only [bT]
  rw [List.getElem_append_right (by simp)]
  simp
theorem made_th (n : Nat) : (madeCells (Value.cells (.agg #[.int .i64 0, .slice none 0 0, .bool false, .slice none 0 0])) (n * 4)).toList = (List.replicate n zTV).flatMap thC := by
  apply List.ext_getElem?
  intro j
  by_cases hj : j < n * 4
  · have h1 : j / 4 < (List.replicate n zTV).length := by rw [List.length_replicate]; omega
    have h2 : j % 4 < 4 := Nat.mod_lt _ (by decide)
    have e := fl_at thC_len (List.replicate n zTV) (j / 4) (j % 4) h1 h2
    rw [show j / 4 * 4 + j % 4 = j by omega] at e
    rw [e, List.getElem_replicate, List.getElem?_eq_getElem (by rw [Array.length_toList, size_madeCells]; exact hj)]
    simp only [madeCells, Array.getElem_toList, Array.getElem_map, Array.getElem_range]
    have e4 : (Value.cells (.agg #[.int .i64 0, .slice none 0 0, .bool false, .slice none 0 0])).size = 4 := by simp [Value.cells]
    rw [e4]
    generalize j % 4 = i at *
    match i, h2 with
    | 0, _ => simp [Value.cells, thC, zTV, zTh]
    | 1, _ => simp [Value.cells, thC, zTV, zTh]
    | 2, _ => simp [Value.cells, thC, zTV, zTh]
    | 3, _ => simp [Value.cells, thC, zTV, zTh]
  · rw [List.getElem?_eq_none (by rw [Array.length_toList, size_madeCells]; omega), List.getElem?_eq_none (by rw [fl_len thC_len, List.length_replicate]; omega)]
def PbQ (base : Nat) (w : World) (go : Value) (P : Pg) (wx : World) : Prop := ∃ (g : Nat) (vm vt : Value) (ps : List TV), go = .pointer (some ⟨g, 0, none⟩) ∧ BoxC wx g 28 #[vm, vt] ∧ OwnSt base wx vm vt ⟨P.init, bT P.ths.length 0⟩ ps ∧ Below base w wx ∧ base ≤ g
theorem beg_own {base n : Nat} {w : World} {vm vt : Value} {m : List Int} (h1 : OwnI base w vm m) (h2 : w.ownsRow base 43 4 vt n ((List.replicate n zTV).flatMap thC)) : OwnSt base w vm vt ⟨m, bT n 0⟩ (List.replicate n zTV) := by
  refine ⟨h1, by rw [bT_len (Nat.zero_le _)]; exact h2, ?_, fun p hp => ?_, ?_⟩
  · simp [bT, zTV]
  · obtain ⟨_, rfl⟩ := List.mem_replicate.1 hp
    exact ⟨World.ownsRow_nil _ _ _ _, World.ownsRow_nil _ _ _ _, fun g _ e => by cases e⟩
  · rw [List.map_replicate]
    exact List.pairwise_replicate.2 (Or.inr (fun g e => by cases e))
end Go.Proofs.Ytkbnppidkhbbeaa
