/-
  LAYER 10: Great, Wide; the document's Right, Jumps, At.
-/
import Derived.Test.YtlpjgaeelnlipaaGreatK03
import Derived.Test.YtlpjgaeelnlipaaGreatRCdC
import Derived.Deep.RegionHeld3
namespace Go.Proofs.YtlpjgaeelnlipaaGreat
open Go.RowKit
set_option linter.unusedVariables false
set_option linter.unusedSimpArgs false
open CodM (St Pg rightP)
open BfM (Wr plc)
open ScM

/-- A state of which something is said, with rows of writes of at most n. -/
structure WideN (n : Nat) (s : Sta) : Prop where
  mem : s.mem.length ≤ 300
  ths : s.ths.length ≤ 9
  regs : ∀ t ∈ s.ths, t.regs.length ≤ 300 ∧ t.buf.length ≤ n
abbrev WideS (s : Sta) : Prop := WideN 50000 s
set_option maxHeartbeats 4000000 in
set_option maxRecDepth 100000 in
theorem rjumps_any (x : St) (q : Bool) (w : World) :
    Calls Tryz.prog 70 #[.agg #[.int .i64 x.op, .int .i64 x.reg, .int .i64 x.loc, .int .i64 x.n, .int .i64 x.to], .bool q] w fun e w' => e = .returned (.bool (jumps x q)) ∧ Below w.heap.size w w' := by
  obtain ⟨o, r, l, n, t⟩ := x
  have hB := below_al (Below.refl w.heap.size w) (.cells #[.int .i64 o, .int .i64 r, .int .i64 l, .int .i64 n, .int .i64 t] 75)
  have x0 : (w.alloc (.cells #[.int .i64 o, .int .i64 r, .int .i64 l, .int .i64 n, .int .i64 t] 75)).cell? ⟨w.heap.size, 0, none⟩ = some (.int .i64 o) := by rw [World.cell?_alloc_at _ _ _ _ rfl]; rfl
  by_cases h8 : o = 8
  · have hj : jumps (⟨o, r, l, n, t⟩ : St) q = true := by unfold jumps; simp only []; rw [decide_eq_true h8]; rfl
    rw [hj]
    clear hj
    subst h8
    go_enter Tryz.func70, Tryz.ntmps70
    go_wp2
    go_ret
    exact ⟨rfl, hB⟩
  by_cases h9 : o = 9
  · have hj : jumps (⟨o, r, l, n, t⟩ : St) q = q := by unfold jumps; simp only []; rw [decide_eq_false h8, decide_eq_true h9, decide_eq_false (show ¬ o = 10 by omega)]; cases q <;> rfl
    rw [hj]
    clear hj
    subst h9
    cases q
    all_goals
      go_enter Tryz.func70, Tryz.ntmps70
      go_wp2
      go_ret
      exact ⟨rfl, hB⟩
  by_cases h10 : o = 10
  · have hj : jumps (⟨o, r, l, n, t⟩ : St) q = !q := by unfold jumps; simp only []; rw [decide_eq_false h8, decide_eq_false h9, decide_eq_true h10]; cases q <;> rfl
    rw [hj]
    clear hj
    subst h10
    cases q
    all_goals
      go_enter Tryz.func70, Tryz.ntmps70
      go_wp2
      go_ret
      exact ⟨rfl, hB⟩
  · have hj : jumps (⟨o, r, l, n, t⟩ : St) q = false := by unfold jumps; simp only []; rw [decide_eq_false h8, decide_eq_false h9, decide_eq_false h10]; rfl
    rw [hj]
    clear hj
    have b8 : (o == 8) = false := beq_eq_false_iff_ne.2 h8
    have b9 : (o == 9) = false := beq_eq_false_iff_ne.2 h9
    have b10 : (o == 10) = false := beq_eq_false_iff_ne.2 h10
    go_enter Tryz.func70, Tryz.ntmps70
    go_wp2
    go_ret
    refine ⟨?_, hB⟩
    simp [b8, b9, b10]
end Go.Proofs.YtlpjgaeelnlipaaGreat
