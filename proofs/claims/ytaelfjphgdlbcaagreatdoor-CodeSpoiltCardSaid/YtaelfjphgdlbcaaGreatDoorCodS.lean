/-
  A STEP IS ITS LINE's, as mathematics.
-/
import Derived.Test.YtaelfjphgdlbcaaGreatDoorCodR
namespace Go.Proofs.YtaelfjphgdlbcaaGreatDoor.CodM
open WordM (L)
open OpsM (Ln)
open VM (Fl)
set_option linter.unusedVariables false
set_option linter.unusedSimpArgs false

theorem right_reg {x : Ln} (h : OpsM.rightL x = true) (hne : x.reg ≠ []) : 0 ≤ WordM.regNo x.reg := by
  unfold OpsM.rightL OpsM.right at h
  have fin : OpsM.regB x.reg = true → 0 ≤ WordM.regNo x.reg := fun c => of_decide_eq_true c
  repeat' split at h
  all_goals simp [OpsM.okNum, OpsM.okLoc, OpsM.okPut, OpsM.okFen, OpsM.okLab, OpsM.emp, hne] at h
  all_goals exact fin h.1
theorem reg_back {r : L} (h : 0 ≤ WordM.regNo r) : WordM.regName (regI r) = r := by
  rcases WordM.regNo_cases r with ⟨e, _⟩ | ⟨n, hn, rfl, e⟩
  · omega
  · have : regI (WordM.regL n) = (n : Int) := by unfold regI; rw [e]; omega
    rw [this]
    unfold WordM.regName
    rw [if_pos ⟨by omega, by omega⟩, Int.toNat_natCast]
theorem lab_one {ls : List Ln} (h : VM.ThOk ls) {i j : Nat} (hi : i < ls.length) (hj : j < ls.length) (e1 : ls[i].op = 11) (e2 : ls[j].op = 11) (e : ls[i].label = ls[j].label) : i = j := by
  rcases Nat.lt_trichotomy i j with c | c | c
  · exact absurd ⟨e2, VM.lcnt_pos hi c e1 e⟩ (VM.lineC_zero (h j hj)).2.1
  · exact c
  · exact absurd ⟨e1, VM.lcnt_pos hj c e2 e.symm⟩ (VM.lineC_zero (h i hi)).2.1
/-- Where the label stands a jump goes. -/
theorem toN_lab {ls : List Ln} (h : VM.ThOk ls) {j : Nat} (hj : j < ls.length) {s : L} (e1 : ls[j].op = 11) (e2 : ls[j].label = s) : toN ls s = cnt (ls.take j) := by
  have hl : isLab s ls[j] = true := (isLab_iff _ _).2 ⟨e1, e2⟩
  obtain ⟨q1, q2, q3⟩ := pos0_at hj hl
  have hq := (isLab_iff _ _).1 q2
  have : pos0 (isLab s) ls = j := lab_one h q1 hj hq.1 e1 (hq.2.trans e2.symm)
  unfold toN; rw [this]
theorem thrS_line {ls : List Ln} (locs : List L) {k : Nat} (hk : k < (thrS locs ls).length) : ∃ (i : Nat) (hi : i < ls.length), hasS ls[i] = true ∧ lnP ls (k : Int) = (i : Int) ∧ (thrS locs ls)[k] = stp ls locs ls[i] := by
  obtain ⟨i, hi, h1, h2, h3⟩ := thrS_at locs ls k hk
  exact ⟨i, hi, h1, lnP_hit hi h1 (by omega), h3⟩
end Go.Proofs.YtaelfjphgdlbcaaGreatDoor.CodM
