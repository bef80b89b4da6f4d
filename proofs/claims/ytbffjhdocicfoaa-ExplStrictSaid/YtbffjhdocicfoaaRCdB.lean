/-
  THE LAWS' Great of codes; the document's right, Right of codes.
-/
import Derived.Test.YtbffjhdocicfoaaCdC
import Derived.Deep.RegionHeld3
namespace Go.Proofs.Ytbffjhdocicfoaa
open Go.RowKit
set_option linter.unusedVariables false
set_option linter.unusedSimpArgs false
open WordM (L)
open CodM (St Pg rightS rightT rightP zOr hReg hLoc hNum hTo)

/-- A code that is not too much. -/
structure SmallP (P : Pg) : Prop where
  init : P.init.length ≤ 60
  ths : P.ths.length ≤ 9
  steps : ∀ ss ∈ P.ths, ss.length ≤ 300
def PgRet (P : Pg) (w : World) (e : Ending) (w' : World) : Prop := ∃ b, e = .returned (.bool b) ∧ (b = false → SmallP P) ∧ Below w.heap.size w w'
set_option maxHeartbeats 4000000 in
set_option maxRecDepth 100000 in
theorem pgreat_any {B : Nat} {v : Value} {P : Pg} (w : World) (hv : PgV B w v P) (hBB : B ≤ w.heap.size) :
    Calls Try.prog 22 #[v] w (PgRet P w) := by
  obtain ⟨vi, vt, rfl, hmi, hmt⟩ := hv
  obtain ⟨A0, c0, rfl, -⟩ := hmi
  obtain ⟨A1, c1, rfl, h1, h2, h3⟩ := hmt
  unfold maxLen at h2
  have hB := below_al (Below.refl w.heap.size w) (.cells #[.slice A0 P.init.length c0, .slice A1 P.ths.length c1] 25)
  have hbx := Lib.hid (PgBox.at (w := w) rfl (.slice A0 P.init.length c0) (.slice A1 P.ths.length c1) 25)
  by_cases hi : 60 < P.init.length
  · have q : decide (60 < P.init.length) = true := decide_eq_true hi
    go_enter Try.func22, Try.ntmps22
    go_wp2
    go_ret
    exact ⟨true, rfl, fun h => (by cases h), hB⟩
  by_cases ht : 9 < P.ths.length
  · have q : decide (60 < P.init.length) = false := decide_eq_false hi
    have q2 : decide (9 < P.ths.length) = true := decide_eq_true ht
    go_enter Try.func22, Try.ntmps22
    go_wp2
    go_ret
    exact ⟨true, rfl, fun h => (by cases h), hB⟩
  have q : decide (60 < P.init.length) = false := decide_eq_false hi
  have q2 : decide (9 < P.ths.length) = false := decide_eq_false ht
  obtain ⟨t0, t1⟩ := hbx.out
  go_enter Try.func22, Try.ntmps22
  go_wp2
  go_loop [3] (fun i => (∃ k : Nat, k ≤ P.ths.length ∧ i = .int .i64 k ∧ ∀ j (hj : j < P.ths.length), j < k → P.ths[j].length ≤ 300)) (fun i => P.ths.length - (intOf i).toNat)
  case atStart => exact ⟨0, Nat.zero_le _, rfl, fun j _ h => absurd h (Nat.not_lt_zero j)⟩
  case round =>
    obtain ⟨k, hk, rfl, hall⟩ := hrel
    have HA := Lib.hid hall
    clear hall
    by_cases hlt : k < P.ths.length
    · obtain ⟨b1, f1, rfl, hb1, hcl⟩ := h3 (by omega)
      obtain ⟨u, z0, hS⟩ := (hcl k hlt).below (hB.mono hBB) hb1
      have HY := Lib.hid (fun (h : P.ths[k].length ≤ 300) (j : Nat) (hj : j < P.ths.length) (hjk : j < k + 1) => show P.ths[j].length ≤ 300 by
        by_cases e : j = k
        · subst e; exact h
        · exact HA.out j hj (by omega))
      obtain ⟨ss, hx⟩ : ∃ x, x = P.ths[k] := ⟨_, rfl⟩
      rw [← hx] at hS HY
      obtain ⟨A3, c3, rfl, -⟩ := hS
      clear hx hcl h3 HA
      by_cases hs : 300 < ss.length
      · have q3 : decide (300 < ss.length) = true := decide_eq_true hs
        go_wp2
        go_ret
        exact ⟨true, rfl, fun h => (by cases h), hB⟩
      · have q3 : decide (300 < ss.length) = false := decide_eq_false hs
        go_wp2
        go_round
        case rel => exact ⟨k + 1, by omega, by go_num, HY.out (by omega)⟩
        case measure => simp [intOf]; omega
    · obtain rfl : P.ths.length = k := by omega
      have HS := Lib.hid (show SmallP P from ⟨by omega, by omega, fun ss hs => by
        obtain ⟨j, hj, rfl⟩ := List.mem_iff_getElem.1 hs
        exact HA.out j hj hj⟩)
      clear h3
      go_wp2
      go_ret
      exact ⟨false, rfl, fun _ => HS.out, hB⟩
set_option maxHeartbeats 8000000 in
set_option maxRecDepth 100000 in
theorem rright7_any {vi vt : Value} (ni at' many op reg loc n to : Int) (A : Option Addr) (nn c : Nat) (w : World) (hvi : vi = .slice A nn c) (hni : ni = (nn : Int)) :
    Calls Try.prog 34 #[.agg #[vi, vt], stv op reg loc n to, .int .i64 at', .int .i64 many] w fun e w' => e = .returned (.bool (rS op reg loc n to ni (at' + 1) many)) ∧ Below w.heap.size w w' := by
  subst hvi; subst hni
  have hB := below_al (below_al (Below.refl w.heap.size w) (.cells #[.slice A nn c, vt] 25)) (.cells #[.int .i64 op, .int .i64 reg, .int .i64 loc, .int .i64 n, .int .i64 to] 70)
  by_cases h1 : op < 1
  · have HE := Lib.hid (show rS op reg loc n to nn (at' + 1) many = false by unfold rS; simp; omega)
    go_enter Try.func34, Try.ntmps34
    go_wp2
    go_ret
    exact ⟨ret_boolc HE.out.symm, hB⟩
  by_cases h10 : 10 < op
  · have HE := Lib.hid (show rS op reg loc n to nn (at' + 1) many = false by unfold rS; simp; omega)
    go_enter Try.func34, Try.ntmps34
    go_wp2
    go_ret
    exact ⟨ret_boolc HE.out.symm, hB⟩
  have h0 : op = 1 ∨ op = 2 ∨ op = 3 ∨ op = 4 ∨ op = 5 ∨ op = 6 ∨ op = 7 ∨ op = 8 ∨ op = 9 ∨ op = 10 := by omega
  clear h1 h10
  rcases h0 with rfl | rfl | rfl | rfl | rfl | rfl | rfl | rfl | rfl | rfl
  all_goals (go_enter Try.func34, Try.ntmps34; go_wp2)
  all_goals go_ret
  all_goals refine ⟨ret_boolc ?_, below_al (below_al (Below.refl _ _) _) _⟩
  all_goals clear hB
  all_goals simp only [rS, zOr, hReg, hLoc, hNum, hTo]
  all_goals simp_all
  all_goals first | omega | (rw [Bool.eq_iff_iff]; simp; done) | (rw [Bool.eq_iff_iff]; simp; omega) | trace_state
end Go.Proofs.Ytbffjhdocicfoaa
