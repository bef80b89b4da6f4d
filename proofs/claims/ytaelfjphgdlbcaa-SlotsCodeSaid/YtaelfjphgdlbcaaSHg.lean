/-
  LAYER 8's Great: is a code too much, or none?
-/
import Derived.Test.YtaelfjphgdlbcaaRCdC
import Derived.Test.YtaelfjphgdlbcaaM05
namespace Go.Proofs.Ytaelfjphgdlbcaa
open Go.RowKit
set_option linter.unusedVariables false
set_option linter.unusedSimpArgs false
open WordM (L)
open VM
open CodM (St Pg rightP)

/-- A code of which something is said. -/
structure SmallC (P : Pg) : Prop where
  s : SmallP P
  r : rightP P = true
  f : ∀ ss ∈ P.ths, ss.length ≤ 40
def SgRet (P : Pg) (w : World) (e : Ending) (w' : World) : Prop := ∃ b, e = .returned (.bool b) ∧ (b = false → SmallC P) ∧ Below w.heap.size w w'
set_option maxHeartbeats 4000000 in
set_option maxRecDepth 100000 in
theorem sgreat_any {B : Nat} {v : Value} {P : Pg} (w : World) (hv : PgV B w v P) (hBB : B ≤ w.heap.size) :
    Calls Try.prog 11 #[v] w (SgRet P w) := by
  obtain ⟨pi, pt, rfl, hpm⟩ := hv
  have HPV := Lib.hid (fun W (hW : Below w.heap.size w W) => show PgV W.heap.size W (.agg #[pi, pt]) P from ⟨pi, pt, rfl, (hpm.below (hW.mono hBB)).more (Nat.le_trans hBB hW.size)⟩)
  have HGP := Lib.hid (fun W (hW : Below w.heap.size w W) => pgreat_any W (HPV.out W hW) (Nat.le_refl _))
  have HRt := Lib.hid (fun W (hW : Below w.heap.size w W) => rrightp_any W (HPV.out W hW) (Nat.le_refl _))
  obtain ⟨⟨P0, d0, rfl, -⟩, ⟨P1, d1, rfl, l1, l2, l3⟩⟩ := hpm
  unfold maxLen at l2
  have hB := below_al (Below.refl w.heap.size w) (.cells #[.slice P0 P.init.length d0, .slice P1 P.ths.length d1] 25)
  have HP := Lib.hid (PgBox.at (w := w) rfl (.slice P0 P.init.length d0) (.slice P1 P.ths.length d1) 25)
  obtain ⟨x0, x1⟩ := HP.out
  go_enter Try.func11, Try.ntmps11
  go_wp2_with fail
  refine (HGP.out _ hB).mono ?_
  rintro e w1 ⟨gb, rfl, hsx, hbb⟩
  replace hB := chain hB hbb
  replace HP := Lib.hid (HP.out.below hbb)
  clear x0 x1 hbb HGP
  obtain ⟨x0, x1⟩ := HP.out
  cases gb
  case true =>
    go_wp2
    go_ret
    exact ⟨true, rfl, fun h => (by cases h), hB⟩
  have HS := Lib.hid (hsx rfl)
  clear hsx
  go_wp2_with fail
  refine (HRt.out _ hB).mono ?_
  rintro e w2 ⟨rfl, hbb⟩
  replace hB := chain hB hbb
  replace HP := Lib.hid (HP.out.below hbb)
  clear x0 x1 hbb HRt
  obtain ⟨x0, x1⟩ := HP.out
  by_cases hq : rightP P = true
  case neg =>
    rw [Bool.not_eq_true] at hq
    rw [hq]
    go_wp2
    go_ret
    exact ⟨true, rfl, fun h => (by cases h), hB⟩
  rw [hq]
  have HQ := Lib.hid hq
  have hl9 : P.ths.length ≤ 9 := HS.out.ths
  clear hq
  go_wp2
  go_loop [3] (fun i => (∃ k : Nat, k ≤ P.ths.length ∧ i = .int .i64 k ∧ ∀ j (hj : j < P.ths.length), j < k → P.ths[j].length ≤ 40)) (fun i => P.ths.length - (intOf i).toNat)
  case atStart => exact ⟨0, Nat.zero_le _, rfl, fun j _ h => absurd h (Nat.not_lt_zero j)⟩
  case round =>
    obtain ⟨k, hk, rfl, hall⟩ := hrel
    have HA := Lib.hid hall
    clear hall
    by_cases hlt : k < P.ths.length
    · obtain ⟨b1, f1, rfl, hb1, hcl⟩ := l3 (by omega)
      obtain ⟨u, z0, hS⟩ := (hcl k hlt).below (hB.mono hBB) hb1
      have HY := Lib.hid (fun (h : P.ths[k].length ≤ 40) (j : Nat) (hj : j < P.ths.length) (hjk : j < k + 1) => show P.ths[j].length ≤ 40 by
        by_cases e : j = k
        · subst e; exact h
        · exact HA.out j hj (by omega))
      have h300 := HS.out.steps _ (List.getElem_mem hlt)
      obtain ⟨ss, hx⟩ : ∃ x, x = P.ths[k] := ⟨_, rfl⟩
      rw [← hx] at hS HY h300
      obtain ⟨A3, c3, rfl, -⟩ := hS
      clear hx hcl l3 HA
      by_cases hs : 40 < ss.length
      · have q3 : decide (40 < ss.length) = true := decide_eq_true hs
        go_wp2
        go_ret
        exact ⟨true, rfl, fun h => (by cases h), hB⟩
      · have q3 : decide (40 < ss.length) = false := decide_eq_false hs
        go_wp2
        go_round
        case rel => exact ⟨k + 1, by omega, by go_num, HY.out (by omega)⟩
        case measure => simp [intOf]; omega
    · obtain rfl : P.ths.length = k := by omega
      have HC := Lib.hid (show SmallC P from ⟨HS.out, HQ.out, fun ss hs => by
        obtain ⟨j, hj, rfl⟩ := List.mem_iff_getElem.1 hs
        exact HA.out j hj hj⟩)
      clear l3
      go_wp2
      go_ret
      exact ⟨false, rfl, fun _ => HC.out, hB⟩
end Go.Proofs.Ytaelfjphgdlbcaa
