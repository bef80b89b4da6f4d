/-
  THE ROWS: each law returns true at every input, and its arguments read behind the call as they did before. No condition.
-/
import Derived.Test.YtbgjamoflbdhoaaRows
import Derived.Test.YtbgjamoflbdhoaaLaw
import Derived.Test.YtbgjamoflbdhoaaRowJ
import Derived.Test.YtbgjamoflbdhoaaRv6
import Derived.Test.YtbgjamoflbdhoaaTsW
import Derived.ProofKit
namespace Go.Proofs.Ytbgjamoflbdhoaa
open Go.ChangeShapes Go.WideShapes Go.ChangeAt Go.RowKit
set_option linter.unusedVariables false
set_option maxRecDepth 100000

theorem own : ownKnob Try.prog.godebug = none := by kernel_rfl
theorem laidOut : laidOutB Try.prog = true := by kernel_rfl

set_option maxRecDepth 100000 in
theorem runParts_lifted (os : Os) (started : os.Started) (H : Type) (enc : TypeId × Value → H) :
    ReturnsInHanded {} Try.checked os 4 .any (Rows.runPartsSpec.pre6 enc Try.prog Try.f4 Rows.runPartsRow.domain false) (Rows.runPartsSpec.post enc Try.prog Try.f4 false true false false) := by
  refine returnsInHanded_of_change (C := Try.checked) own started (by kernel_rfl) Try.func4
    (ChangeSpec.witness6 (enc := enc) (C := Try.checked) false ⟨#[], #[.agg #[.slice none 0 0, .slice none 0 0], .slice none 0 0, .agg #[.int .i64 0, .bool false], .bool false], []⟩ 8 (by kernel_rfl) (by kernel_rfl) (by kernel_rfl) (by kernel_rfl)) ?_
  intro W base args ds gs before hval0 hW hcnd _
  have hval : ∀ (j : Nat) t v, Try.f4.params[j]? = some t → args[j]? = some v → Value.okWide Try.prog W .any base t v := hval0
  have hW' := hW
  obtain ⟨p, q, hA0, hV, rfl, hfz, hnd⟩ := hW
  have hA : DataW.TrodAll enc Try.prog W 0 (fun _ => true) true Try.f4.params.toList args.toList ds p := hA0
  rw [Try.params4] at hA hval
  obtain ⟨v0, vs0, d0, ds0, p0, q0, hargs, rfl, rfl, h0, r0⟩ := trodAll_cons hA
  obtain ⟨v1, vs1, d1, ds1, p1, q1, rfl, rfl, rfl, h1, r1⟩ := trodAll_cons r0
  obtain ⟨v2, vs2, d2, ds2, p2, q2, rfl, rfl, rfl, h2, r2⟩ := trodAll_cons r1
  obtain ⟨v3, vs3, d3, ds3, p3, q3, rfl, rfl, rfl, h3, r3⟩ := trodAll_cons r2
  obtain ⟨rfl, rfl, rfl⟩ := trodAll_nil r3
  obtain rfl : args = #[v0, v1, v2, v3] := by cases args; simp_all
  obtain ⟨P0, HP0, HI0, HN0⟩ := open_prog (hval 0 25 v0 rfl rfl) h0
  have HZ0 := HP0.z (open_progz (hval 0 25 v0 rfl rfl) h0)
  obtain ⟨l1, HK1, HJ1⟩ := open_picks (hval 1 26 v1 rfl rfl) h1
  obtain ⟨t2, q2, rfl, w2⟩ := open_pick (hval 2 47 v2 rfl rfl) h2
  obtain ⟨q3, rfl⟩ := okWide_bool Try.underlying4 (hval 3 4 v3 rfl rfl)
  refine (runparts_any W HZ0 HK1 (Nat.le_refl _)).mono fun e W' ⟨he, hB⟩ => ?_
  subst he
  exact ⟨_, rfl, post_law laidOut rfl (by kernel_rfl) Try.underlying4 (by kernel_rfl) hW' (fun gs hg => by subst hg; rfl) hB⟩

theorem runParts_holds : Rows.RunPartsSaid :=
  OpenClaim.holds_of_wide 4 Try.f4 rfl rfl rfl rfl rfl rfl rfl ⟨rfl, rfl, rfl, rfl, rfl⟩ rfl rfl rfl rfl rfl (by kernel_rfl) Try.func4 (by kernel_rfl)
    (of_decide_eq_true (by kernel_rfl)) (by unfold Func.isWrapper; first | (rw [if_pos (by decide +kernel)]; kernel_rfl) | (rw [if_neg (by decide +kernel)]; exact ⟨rfl, rfl⟩))
    (fun os started H enc _ => runParts_lifted os started H enc)

end Go.Proofs.Ytbgjamoflbdhoaa
