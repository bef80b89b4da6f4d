/-
  LAYER 11, as mathematics, 3: what is left: twice the steps, and the writes that are on their way.
-/
import Derived.Test.YtkbnppidkhbbeaaK06
namespace Go.Proofs.Ytkbnppidkhbbeaa
set_option linter.unusedVariables false
set_option linter.unusedSimpArgs false
open CodM (St Pg rightP hReg hLoc)
open BfM (Wr plc)
open ScM

def trm (ss : List St) (h : Th) : Nat := 2 * (ss.length - h.at'.toNat) + h.buf.length
def msrN (P : Pg) (s : Sta) : Nat → Nat
  | 0 => 0
  | n + 1 => msrN P s n + trm (P.ths.getD n []) (s.ths.getD n begTh)
theorem msrN_next {P : Pg} {s : Sta} {n : Nat} (h1 : n < s.ths.length) (h2 : n < P.ths.length) : msrN P s (n + 1) = msrN P s n + trm P.ths[n] s.ths[n] := by
  rw [msrN]; simp [List.getD, h1, h2]
theorem msrN_set {P : Pg} {s : Sta} {m : List Int} {k : Nat} {h : Th} (hk : k < s.ths.length) (h2 : k < P.ths.length) (ht : trm P.ths[k] h + 1 ≤ trm P.ths[k] s.ths[k]) : ∀ n, msrN P ⟨m, s.ths.set k h⟩ n + (if k < n then 1 else 0) ≤ msrN P s n
  | 0 => by simp [msrN]
  | n + 1 => by
    have ih := msrN_set (m := m) hk h2 ht n
    rw [msrN, msrN]
    by_cases e : n = k
    · subst e
      have e1 : ((s.ths.set n h).getD n begTh) = h := by simp [List.getD, hk]
      have e2 : s.ths.getD n begTh = s.ths[n] := by simp [List.getD, hk]
      have e3 : P.ths.getD n [] = P.ths[n] := by simp [List.getD, h2]
      rw [if_neg (Nat.lt_irrefl n)] at ih
      rw [if_pos (Nat.lt_succ_self n)]
      show msrN P _ n + trm (P.ths.getD n []) ((s.ths.set n h).getD n begTh) + 1 ≤ _
      rw [e1, e2, e3]
      omega
    · have e1 : ((s.ths.set k h).getD n begTh) = s.ths.getD n begTh := by
        simp only [List.getD]
        rw [List.getElem?_set_ne (Ne.symm e)]
      show msrN P _ n + trm (P.ths.getD n []) ((s.ths.set k h).getD n begTh) + _ ≤ _
      rw [e1]
      by_cases c : k < n
      · rw [if_pos c] at ih; rw [if_pos (by omega)]; omega
      · rw [if_neg c] at ih; rw [if_neg (by omega)]; omega
def msr (P : Pg) (s : Sta) : Nat := msrN P s s.ths.length
/-- A pick leaves less. -/
theorem tst_less {P : Pg} (hr : rightP P = true) {s s' : Sta} {t : Int} {d : Bool} (ho : OkSt P s) (h : tst P s t d = some s') : msr P s' + 1 ≤ msr P s := by
  obtain ⟨k, rfl, h1, h2, ⟨rfl, hb, rfl⟩ | ⟨rfl, h3, hs, rfl⟩⟩ := tst_some ho h
  · cases hbb : s.ths[k].buf with
    | nil => rw [hbb] at hb; cases hb
    | cons y r =>
      rw [drn_eq hbb (buf_ok ho h1)]
      have := msrN_set (m := BfM.arr s.mem y) (h := ⟨s.ths[k].at', s.ths[k].regs, s.ths[k].eq, r⟩) h1 h2 (by unfold trm; rw [hbb]; simp; omega) s.ths.length
      rw [if_pos h1] at this
      unfold msr
      simpa using this
  · rw [tsS_eq]
    have hk := tsT_ok hr ho h1 h2 h3
    have hlo := (ho.th k h1 h2).lo
    have := msrN_set (m := tsMm P.ths[k][s.ths[k].at'.toNat] s s.ths[k]) (h := tsT P.ths[k][s.ths[k].at'.toNat] s s.ths[k]) h1 h2 (by
      unfold trm
      have a := hk.2.1
      have b := hk.2.2
      have c := hk.1.hi
      omega) s.ths.length
    rw [if_pos h1] at this
    unfold msr
    simpa using this
theorem trm_pos {P : Pg} {s : Sta} {k : Nat} {n : Nat} (h1 : k < s.ths.length) (h2 : k < P.ths.length) : k < n → trm P.ths[k] s.ths[k] ≤ msrN P s n := by
  induction n with
  | zero => intro h; omega
  | succ n ih =>
    intro h
    rw [msrN]
    by_cases e : k = n
    · subst e
      have e2 : s.ths.getD k begTh = s.ths[k] := by simp [List.getD, h1]
      have e3 : P.ths.getD k [] = P.ths[k] := by simp [List.getD, h2]
      rw [e2, e3]; omega
    · have := ih (by omega); omega
/-- Where no pick is left, all is done. -/
theorem pks_nil {P : Pg} {s : Sta} (ho : OkSt P s) (h : pks P s = []) {k : Nat} (h1 : k < s.ths.length) (h2 : k < P.ths.length) : s.ths[k].at' = P.ths[k].length ∧ s.ths[k].buf = [] := by
  have hno : ∀ d, (tst P s (k : Int) d).isSome = false := fun d => by
    cases e : (tst P s (k : Int) d).isSome
    · rfl
    · have : (k, d) ∈ pks P s := pks_mem.2 e
      rw [h] at this; cases this
  have hb : s.ths[k].buf = [] := by
    have := hno true
    rw [tst_drain ho h1] at this
    cases e : s.ths[k].buf with
    | nil => rfl
    | cons y r => rw [e] at this; cases this
  refine ⟨?_, hb⟩
  have ht := ho.th k h1 h2
  have lo := ht.lo
  have hi := ht.hi
  by_cases h3 : s.ths[k].at'.toNat < P.ths[k].length
  · have := hno false
    rw [tst_step h1 h2 h3, show stuck P.ths[k][s.ths[k].at'.toNat] s.ths[k] = false from by unfold stuck; rw [hb]; rfl] at this
    cases this
  · omega
theorem trm_bound {P : Pg} {s : Sta} {n : Nat} (hr : rightP P = true) (hb : ∀ t ∈ s.ths, t.buf.length ≤ n) (k : Nat) : trm (P.ths.getD k []) (s.ths.getD k begTh) ≤ 160 + n := by
  have h1 : (P.ths.getD k []).length ≤ 80 := by
    by_cases h : k < P.ths.length
    · rw [show P.ths.getD k [] = P.ths[k] from by simp [List.getD, h]]; exact (right_ths hr).2.2.2 k h
    · rw [show P.ths.getD k [] = [] from by simp [List.getD, h]]; decide
  have h2 : (s.ths.getD k begTh).buf.length ≤ n := by
    by_cases h : k < s.ths.length
    · rw [show s.ths.getD k begTh = s.ths[k] from by simp [List.getD, h]]; exact hb _ (List.getElem_mem h)
    · rw [show s.ths.getD k begTh = begTh from by simp [List.getD, h]]; exact Nat.zero_le _
  unfold trm; omega
theorem msrN_bound {P : Pg} {s : Sta} {n : Nat} (hr : rightP P = true) (hb : ∀ t ∈ s.ths, t.buf.length ≤ n) : ∀ k, msrN P s k ≤ k * (160 + n)
  | 0 => by simp [msrN]
  | k + 1 => by
    rw [msrN, Nat.succ_mul]
    have := msrN_bound hr hb k
    have := trm_bound (P := P) (s := s) hr hb k
    omega
end Go.Proofs.Ytkbnppidkhbbeaa
