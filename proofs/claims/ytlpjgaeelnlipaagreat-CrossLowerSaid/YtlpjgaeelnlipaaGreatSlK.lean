/-
  MATHEMATICS OF LAYER 8: a row of steps with fences, step by step.
-/
import Derived.Test.YtlpjgaeelnlipaaGreatK10
namespace Go.Proofs.YtlpjgaeelnlipaaGreat
open Go.RowKit
set_option linter.unusedVariables false
set_option linter.unusedSimpArgs false
open CodM (St Pg hasS)
open SlM

/-- What is known of a thread's steps ss with fences, a row R: c tells which are fenced, b where each begins. -/
structure RwF (ss R : List St) (c : Nat → Bool) (b : Nat → Nat) : Prop where
  z : b 0 = 0
  nx : ∀ i, b (i + 1) = b i + (if c i then 1 else 0) + 1
  le : ∀ i, b i ≤ 2 * i
  len : R.length = b ss.length
  fen : ∀ i, i < ss.length → c i = true → ∃ h : b i < R.length, R[b i] = fenS
  own : ∀ i (hi : i < ss.length), ∃ h : b (i + 1) - 1 < R.length, ¬ 8 ≤ (ss[i]).op → R[b (i + 1) - 1] = ss[i]
  jmp : ∀ i (hi : i < ss.length), 8 ≤ (ss[i]).op → ∃ (h : b (i + 1) - 1 < R.length) (tn : Nat), ss[i].5 = (tn : Int) ∧ tn ≤ ss.length ∧ R[b (i + 1) - 1] = ⟨ss[i].op, ss[i].reg, ss[i].loc, ss[i].n, (b tn : Nat)⟩
theorem ch_has {P : Pg} (g : List Int) {t k : Nat} (ht : t < P.ths.length) (hk : k < P.ths[t].length) : ch anyS P.ths g t k = has g ((ahd anyS P.ths t + k : Nat) : Int) := by
  unfold ch
  rw [isS_any P.ths ht hk, sl_any P.ths ht (by omega)]; rfl
end Go.Proofs.YtlpjgaeelnlipaaGreat
