/-
  LAYER 13: Loose, Great, head: a live question whose answer is fixed.
  LAYER 14: what the laws' head asks, as mathematics.
-/
import Derived.Test.YtlpjgaeelnlipaaL30
import Derived.Test.YtlpjgaeelnlipaaL27
import Derived.Test.YtlpjgaeelnlipaaL10
import Derived.Test.YtlpjgaeelnlipaaScW
import Derived.Deep.RegionHeld3
import Derived.Deep.DeepCutAuto
set_option linter.unusedVariables false
set_option linter.unusedSimpArgs false
namespace Go.Proofs.Ytlpjgaeelnlipaa
open Go.RowKit
set_option linter.unusedVariables false
set_option linter.unusedSimpArgs false
open CodM (St Pg rightP)
open BfM (Wr plc)
open ScM

theorem rw_box {α : Type} {one : α → List Value} {s : Nat} {W : World} {g : Nat} {T : TypeId} {cs : Array Value} (h : BoxC W g T cs) (l : List α) (n c : Nat) (hc : ∀ (j : Nat) (u : Value), (l.flatMap one)[j]? = some u → cs[j]? = some u) (hn : n = l.length) (hnc : n ≤ c) (hm : c ≤ 1000) : Rw one s W.heap.size W (.slice (some ⟨g, 0, none⟩) n c) l := by
  subst hn
  refine ⟨_, _, rfl, hnc, by unfold maxLen; omega, fun e => (by cases e), fun _ => ⟨g, 0, rfl, h.lt, fun j u hu => ?_⟩⟩
  rw [Nat.zero_add]
  exact h.cell j u (hc j u hu)
def looseL : List (Int × Bool) := [(0, false), (0, false), (1, false), (1, false), (0, true), (1, true)]
def looseC : Array Value := #[.int .i64 0, .bool false, .int .i64 0, .bool false, .int .i64 1, .bool false, .int .i64 1, .bool false, .int .i64 0, .bool true, .int .i64 1, .bool true]
theorem loose_cs : looseC.toList = looseL.flatMap kiC := rfl
theorem loose_at {g : Nat} {W : World} (h : BoxC W g 52 looseC) : KiR W.heap.size W (.slice (some ⟨g, 0, none⟩) 6 6) looseL := rw_box h looseL 6 6 (fun j u hu => by rw [← loose_cs] at hu; simpa using hu) rfl (by decide) (by decide)
theorem loose_3 {g : Nat} {W : World} (h : BoxC W g 52 looseC) : KiR W.heap.size W (.slice (some ⟨g, 0, none⟩) 3 6) (looseL.take 3) := rw_box h (looseL.take 3) 3 6 (fun j u hu => by
  have hj : j < 6 := by
    have := (List.getElem?_eq_some_iff.1 hu).1
    rw [fl_len kiC_len] at this
    simpa [looseL] using this
  match j, hj with
  | 0, _ => exact hu
  | 1, _ => exact hu
  | 2, _ => exact hu
  | 3, _ => exact hu
  | 4, _ => exact hu
  | 5, _ => exact hu) rfl (by decide) (by decide)
set_option maxHeartbeats 4000000 in
set_option maxRecDepth 100000 in
theorem loose_any (w : World) : Calls Try.prog 17 #[] w fun e w' => ∃ g, e = .returned (.slice (some ⟨g, 0, none⟩) 6 6) ∧ BoxC w' g 52 looseC ∧ Below w.heap.size w w' := by
  have hB := below_al (Below.refl w.heap.size w) (.cells #[.int .i64 0, .bool false, .int .i64 0, .bool false, .int .i64 1, .bool false, .int .i64 1, .bool false, .int .i64 0, .bool true, .int .i64 1, .bool true] 52)
  have HQ := Lib.hid (show BoxC (w.alloc (.cells #[.int .i64 0, .bool false, .int .i64 0, .bool false, .int .i64 1, .bool false, .int .i64 1, .bool false, .int .i64 0, .bool true, .int .i64 1, .bool true] 52)) w.heap.size 52 looseC from BoxC.new w _ _)
  go_enter Try.func17, Try.ntmps17
  go_wp2
  go_ret
  exact ⟨w.heap.size, rfl, HQ.out, hB⟩
/-! What the head asks, as mathematics. -/
def hl2 : List (Int × Bool) := [(0, false), (0, false), (1, false), (1, false)]
def hl3 : List (Int × Bool) := [(0, false), (0, true)]
def hs3 : Sta := ⟨[1, 0], [⟨1, [0, 0, 0, 0], false, []⟩, ⟨0, [0, 0, 0, 0], false, []⟩]⟩
def hl4 : List (Int × Bool) := [(0, false), (1, false)]
end Go.Proofs.Ytlpjgaeelnlipaa
namespace Go.Proofs.Ytlpjgaeelnlipaa
open Go.RowKit
set_option linter.unusedVariables false
set_option linter.unusedSimpArgs false
open CodM (St Pg rightP)
open BfM (Wr plc)
open ScM
open SlM
open CrM

def wE : List ((Int × Bool) × (Int × Bool)) := [((0, false), (0, false)), ((0, false), (1, true)), ((1, false), (2, false)), ((1, false), (3, true)), ((0, true), (-1, false)), ((1, true), (-1, false))]
theorem h14_E : wysS bufP (beg bufP) looseL = wE := by decide
theorem h14_cb : (runS bufP true (beg bufP) looseL).2.2 = true := by decide
theorem h14_ck : RisF (crF (wysS bufP (beg bufP) looseL)) [1, 3] := by
  rw [h14_E]
  refine ⟨by decide, fun x => ?_⟩
  simp [crF, wE]
theorem h14_nb : (runS bufP true (beg bufP) [(0, true)]).2.2 = false := by decide
theorem h14_of : ¬ ((runS bufP true (beg bufP) looseL).2.2 = true ∧ ∀ k, k < (wysS bufP (beg bufP) looseL).length → raOk (keyB [1] (many anyS bufP.ths)) (wysS bufP (beg bufP) looseL) k = true) := fun h => by
  have := h.2 1 (by decide)
  revert this
  decide
def l3 : List (Int × Bool) := [(0, false), (0, false), (1, false)]
theorem h14_ra : (runS bufP true (beg bufP) l3).2.2 = true ∧ ∀ k, k < (wysS bufP (beg bufP) l3).length → raOk (keyB [0, 2] (many anyS bufP.ths)) (wysS bufP (beg bufP) l3) k = true := by decide
def a14 : List (Int × Bool) := [(0, false), (0, false), (0, false), (1, false), (1, false)]
theorem h14_ar : (wysS bufP (beg bufP) l3).flatMap (raF (keyB [0, 2] (many anyS bufP.ths))) = a14 := by decide
theorem h14_q : rightP (insP bufP [0, 2]) = true := by kernel_rfl
theorem h14_j : ∀ ss ∈ bufP.ths, ∀ s ∈ ss, jmpS s = true → 0 ≤ s.5 ∧ s.5 ≤ 1000000 := by decide
theorem h14_lb : (runS (insP bufP [0, 2]) true (beg (insP bufP [0, 2])) a14).2.2 = true := by decide
theorem h14_k : RisF (keyB [0, 2] (many anyS bufP.ths)) [0, 2] := by
  refine ⟨by decide, fun x => ?_⟩
  have hm : many anyS bufP.ths = 4 := by decide
  unfold keyB has
  simp only [hm, List.mem_cons, List.not_mem_nil, or_false, List.any_cons, List.any_nil, Bool.or_false, Bool.and_eq_true, Bool.or_eq_true, beq_iff_eq, decide_eq_true_eq]
  omega
theorem h14_lr : (wysS (insP bufP [0, 2]) (beg (insP bufP [0, 2])) a14).flatMap (loF (ldaK [0, 2] 2)) = l3 := by decide
end Go.Proofs.Ytlpjgaeelnlipaa
