/-
  word.Lines: the lines of a text, over any world.
-/
import Derived.Test.YtmdheolmefkbaaaDoorStrs
import Derived.Test.YtmdheolmefkbaaaDoorWordW
import Derived.WalkKit
import Derived.WalkMore
import Derived.ScopeJumps
import Derived.Lib.Hide
namespace Go.Proofs.YtmdheolmefkbaaaDoor
open Go.RowKit
set_option linter.unusedVariables false
open WordM (L)

/-- At the label: what has been cut off, and what is left. -/
def LJ (s : ByteArray) (w0 : World) (a : Act) (W : World) : Prop :=
  ∃ (t : ByteArray) (ls : List L) (v u1 u4 u5 u6 u7 u8 u9 u10 u11 u12 u13 u14 u15 u16 u17 u18 u19 u20 : Value),
    a = { tmps := #[.string t, u1, .slice none 0 0, v, u4, u5, u6, u7, u8, u9, u10, u11, u12, u13, u14, u15, u16, u17, u18, u19, u20], defers := [] } ∧
    ls.length + t.size ≤ s.size ∧ WordM.lines s.data.toList = ls ++ WordM.lines t.data.toList ∧
    W.ownsRow w0.heap.size 9 1 v ls.length (svs ls) ∧ Below w0.heap.size w0 W
/-- A scope with one label: all is told by what holds there. -/
theorem scope_once {P : Program} {a : Act} {w : World} {Q : Exit → Act → World → Prop} {c rest : Code} (l : Nat) (J : Act → World → Prop) (μ : Act → World → Nat) (hf : findLabel c l = some (Code.skip.seq rest))
    (first : ∀ Q' : Exit → Act → World → Prop, (∀ a w, J a w → rest.wp P Q' a w) → c.wp P Q' a w)
    (pass : ∀ a w, J a w → rest.wp P (Exit.jump l (fun a' w' => J a' w' ∧ μ a' w' < μ a w) Q) a w) : (Code.scope c).wp P Q a w := by
  refine wp_scope_jumps l J μ hf (first _ fun a w h => Code.wp_mono (fun e a' w' hq => ?_) (pass a w h)) fun a w h => wp_seq (wp_skip (pass a w h))
  cases e with
  | goto k => exact ⟨hq.1, hq.2.1⟩
  | _ => exact hq
def strSize : Value → Nat | .string b => b.size | _ => 0

theorem lj_step {s t : ByteArray} {w0 W w1 : World} {ls : List L} {v v' : Value} (n : Nat) (o : Obj) (hne : t.data.toList ≠ []) (hl : ls.length + t.size ≤ s.size) (hlines : WordM.lines s.data.toList = ls ++ WordM.lines t.data.toList)
    (hown : W.ownsRow w0.heap.size 9 1 v ls.length (svs ls)) (hB : Below w0.heap.size w0 W)
    (hown' : w1.ownsRow w0.heap.size 9 1 v' (ls.length + 1) (svs ls ++ [.string (cutA 10 t)])) (hg : ((W.drewN n).alloc o).grownBy w1 v.ownBlock) :
    ((ls ++ [(cutA 10 t).data.toList]).length + (cutR 10 t).size ≤ s.size ∧ WordM.lines s.data.toList = (ls ++ [(cutA 10 t).data.toList]) ++ WordM.lines (cutR 10 t).data.toList ∧
      w1.ownsRow w0.heap.size 9 1 v' (ls ++ [(cutA 10 t).data.toList]).length (svs (ls ++ [(cutA 10 t).data.toList])) ∧ Below w0.heap.size w0 w1) ∧ (cutR 10 t).size < t.size := by
  obtain ⟨h1, h2⟩ := cut_chunks 10 t hne
  refine ⟨⟨by simp; omega, ?_, ?_, ?_⟩, h2⟩
  · rw [hlines]
    show ls ++ WordM.chunks 10 t.data.toList = _
    rw [h1]; simp [WordM.lines]
  · rw [svs_snoc, sv_data, List.length_append]; exact hown'
  · exact below_append ((below_drewN hB n).alloc (by have := hB.size; exact this) o) ((own_drewN hown n).alloc o) (Nat.le_refl _) (by have := hB.size; simp; omega) hg

set_option maxHeartbeats 1000000 in
set_option maxRecDepth 100000 in
theorem lines_any (s : ByteArray) (w : World) (hs : s.size ≤ 100000) :
    Calls Tryd.prog 11 #[.string s] w (RetStrs (WordM.lines s.data.toList) w) := by
  obtain ⟨i0, hi, hz0, hz1, hz2⟩ := info_parts info_string
  go_enter Tryd.func11, Tryd.ntmps11
  go_wp2
  refine scope_once 0 (LJ s w) (fun a' _ => strSize (a'.tmps.getD 0 undef)) rfl ?first ?pass
  case pass =>
    rintro a' W ⟨t, ls, v, u1, u4, u5, u6, u7, u8, u9, u10, u11, u12, u13, u14, u15, u16, u17, u18, u19, u20, rfl, hl, hlines, hown, hB⟩
    by_cases hne : t.data.toList = []
    · have hq1 : t.toList = [] := by rw [Lib.toList_data]; exact hne
      have hq2 : (t.toList == []) = true := by rw [hq1]; rfl
      have hz : WordM.lines s.data.toList = ls := by rw [hlines, hne]; simp [WordM.lines, WordM.chunks]
      have HZ := Lib.hid hz
      clear hz hne hlines
      go_wp2
      simp only [Exit.jump]
      go_ret
      exact ⟨_, rfl, by rw [HZ.out]; exact hown, hB⟩
    · have hq1 : ¬ t.toList = [] := by rw [Lib.toList_data]; exact hne
      have hq2 : (t.toList == []) = false := by rw [beq_dec]; exact decide_eq_false hq1
      have hts : t.size ≤ maxLen := by unfold maxLen; omega
      have hcut := fun W => cut_any t 10 W hts
      go_wp2_with (first | (go_at_call 22; refine (cut_any t 10 _ hts).mono ?_; rintro e w' ⟨rfl, n, rfl⟩) | (at_builtin; refine wpList_append_own _ rfl _ _ 24 rfl w.heap.size 9 i0 (.string ⟨#[]⟩) 1 16 Tryd.underlying24 hi hz0 hz1 hz2 rfl (by decide) _ _ _ rfl ((own_drewN hown n).alloc _) ⟨W.heap.size, 0, none⟩ 1 1 [.string (cutA 10 t)] rfl rfl (cell_one_new _ _ _) (by simp [Value.oneCell']) (by unfold maxLen; omega) (by omega) (by have := hB.size; simp; omega) ?_; intro v' w1 hown' hgrow _))
      have R := lj_step n _ hne hl hlines hown hB hown' hgrow
      go_step3
      exact ⟨rfl, ⟨cutR 10 t, _, _, _, _, _, _, _, _, _, _, _, _, _, _, _, _, _, _, _, _, rfl, R.1⟩, R.2⟩
  case first =>
    intro Q' hq
    go_wp2
    go_step3
    apply_assumption
    exact hq _ _ ⟨s, [], _, _, _, _, _, _, _, _, _, _, _, _, _, _, _, _, _, _, _, rfl, by simp, rfl, World.ownsRow_nil _ _ _ _, Below.refl _ _⟩
end Go.Proofs.YtmdheolmefkbaaaDoor
