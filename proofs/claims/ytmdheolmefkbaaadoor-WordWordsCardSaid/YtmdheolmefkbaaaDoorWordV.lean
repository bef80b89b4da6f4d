/-
  THE LAW WordParts, AS A WALK OVER ANY WORLD that holds the registers: it returns true.
-/
import Derived.Test.YtmdheolmefkbaaaDoorWordU
import Derived.Test.YtmdheolmefkbaaaDoorApp
namespace Go.Proofs.YtmdheolmefkbaaaDoor
open Go.RowKit
set_option linter.unusedVariables false
open WordM (L)

theorem svs_one (ls : List L) : ∀ x ∈ svs ls, x.oneCell' = true := by
  intro x hx
  obtain ⟨l, _, rfl⟩ := List.mem_map.1 hx
  rfl

theorem lines_len (l : L) : (WordM.lines l).length ≤ l.length := by
  have h : ∀ l : L, (WordM.chunks 10 l).length ≤ l.length := by
    intro l
    induction l with
    | nil => exact Nat.le_refl _
    | cons b l ih =>
      unfold WordM.chunks
      split
      · simp; exact ih
      · cases e : WordM.chunks 10 l with
        | nil => simp [WordM.consHd]
        | cons x r => rw [e] at ih; simp [WordM.consHd] at ih ⊢; omega
  exact h l

/-- A new empty row. -/
theorem own_empty (w : World) : (w.alloc (.cells #[] 9)).ownsRow w.heap.size 9 1 (.slice (some ⟨w.heap.size, 0, none⟩) 0 0) ([] : List L).length (svs []) :=
  World.ownsRow_lit (base := w.heap.size) (e := 9) (size := 1) w #[] 0 (Nat.le_refl _) (by decide) rfl
theorem below_empty (w : World) : Below w.heap.size w (w.alloc (.cells #[] 9)) := (Below.refl _ _).alloc (Nat.le_refl _) _
/-- append(v, u...): onto what the call has made already. -/
theorem app_next {W0 w : World} {v u : Value} {B : Nat} {ls ms : List L} (i0 : TypeInfo) (hi : Tryd.prog.info? 9 = some i0) (hz0 : i0.zero = some (.string ⟨#[]⟩)) (hz1 : i0.size = 1) (hz2 : i0.bytes = 16)
    (hv : w.ownsRow W0.heap.size 9 1 v ls.length (svs ls)) (hu : w.ownsRow B 9 1 u ms.length (svs ms)) (hl : ls.length + ms.length ≤ 100000) (h0 : W0.heap.size ≤ w.heap.size) :
    ∃ v' w', (Builtin.append_ #[24, 24] 24 #[v, u]).run Tryd.prog w = .ok v' w' ∧
      w'.ownsRow W0.heap.size 9 1 v' (ls ++ ms).length (svs (ls ++ ms)) ∧ Below W0.heap.size w w' := by
  obtain ⟨v', w', a, b, c⟩ := run_append_two (P := Tryd.prog) w W0.heap.size B 24 24 9 i0 (.string ⟨#[]⟩) 1 16 Tryd.underlying24 hi hz0 hz1 hz2 rfl (by decide)
    v ls.length (svs ls) hv u ms.length (svs ms) hu (svs_one ms) (by unfold maxLen; omega) (by omega) h0
  rw [← svs_app, ← List.length_append] at b
  exact ⟨v', w', a, b, below_append (Below.refl _ _) hv (Nat.le_refl _) h0 c⟩
set_option maxHeartbeats 4000000 in
set_option maxRecDepth 100000 in
theorem parts_any (s t : ByteArray) (w : World) (hs : s.size ≤ maxLen) (ht : t.size ≤ maxLen) (hr : Regs w) :
    Calls Tryd.prog 6 #[.string s, .string t] w fun e w' => e = .returned (.bool true) ∧ Below w.heap.size w w' := by
  unfold maxLen at hs ht
  obtain ⟨i0, hi, hz0, hz1, hz2⟩ := info_parts info_string
  by_cases h1 : (1000 : Int) < (s.size : Int)
  · have g1 : decide ((1000 : Int) < (s.size : Int)) = true := decide_eq_true h1
    go_enter Tryd.func6, Tryd.ntmps6
    go_wp2_with fail
    refine (head_any _ hr).mono ?_
    rintro e wv1 ⟨rfl, hB⟩
    go_wp2_with fail
    go_ret
    exact ⟨rfl, hB⟩
  · have g1 : decide ((1000 : Int) < (s.size : Int)) = false := decide_eq_false h1
    by_cases h2 : (1000 : Int) < (t.size : Int)
    · have g2 : decide ((1000 : Int) < (t.size : Int)) = true := decide_eq_true h2
      go_enter Tryd.func6, Tryd.ntmps6
      go_wp2_with fail
      refine (head_any _ hr).mono ?_
      rintro e wv2 ⟨rfl, hB⟩
      go_wp2_with fail
      go_ret
      exact ⟨rfl, hB⟩
    · have g2 : decide ((1000 : Int) < (t.size : Int)) = false := decide_eq_false h2
      have e1 : (⟨#[10]⟩ : ByteArray).size = 1 := rfl
      have e2 : (⟨#[32]⟩ : ByteArray).size = 1 := rfl
      have z1 : (s ++ ⟨#[10]⟩ : ByteArray).size = s.size + 1 := by rw [cat_size, e1]
      have z2 : (s ++ ⟨#[32]⟩ : ByteArray).size = s.size + 1 := by rw [cat_size, e2]
      have z3 : (s ++ ⟨#[10]⟩ ++ t : ByteArray).size = s.size + 1 + t.size := by rw [cat_size, z1]
      have z4 : (s ++ ⟨#[32]⟩ ++ t : ByteArray).size = s.size + 1 + t.size := by rw [cat_size, z2]
      have hcat1 := fun W => run_string_add_sum (P := Tryd.prog) (w := W) s ⟨#[10]⟩ (by rw [e1]; omega)
      have hcat2 := fun W => run_string_add_sum (P := Tryd.prog) (w := W) (s ++ ⟨#[10]⟩) t (by rw [z1]; omega)
      have hcat3 := fun W => run_string_add_sum (P := Tryd.prog) (w := W) s ⟨#[32]⟩ (by rw [e2]; omega)
      have hcat4 := fun W => run_string_add_sum (P := Tryd.prog) (w := W) (s ++ ⟨#[32]⟩) t (by rw [z2]; omega)
      have k1 := lines_len (s ++ ⟨#[10]⟩ : ByteArray).data.toList
      have k2 := lines_len t.data.toList
      have k3 := words_len s.data.toList
      have k4 := words_len t.data.toList
      rw [← Lib.size_eq] at k1 k2 k3 k4
      have y1 : (s ++ ⟨#[10]⟩ : ByteArray).size ≤ 2001 := by omega
      have y3 : (s ++ ⟨#[10]⟩ ++ t : ByteArray).size ≤ 2001 := by omega
      have y4 : (s ++ ⟨#[32]⟩ ++ t : ByteArray).size ≤ 2001 := by omega
      have L1 := Lib.hid (show WordM.lines (s ++ ⟨#[10]⟩ ++ t : ByteArray).data.toList = WordM.lines (s ++ ⟨#[10]⟩ : ByteArray).data.toList ++ WordM.lines t.data.toList by rw [cat_data, cat_data, List.append_assoc]; exact WordM.lines_cat _ _)
      have L2 := Lib.hid (show WordM.words (s ++ ⟨#[32]⟩ ++ t : ByteArray).data.toList = WordM.words s.data.toList ++ WordM.words t.data.toList by rw [cat_data, cat_data, List.append_assoc]; exact WordM.words_cat _ _)
      generalize (s ++ ⟨#[10]⟩ ++ t : ByteArray) = S3 at *
      generalize (s ++ ⟨#[32]⟩ ++ t : ByteArray) = S4 at *
      generalize (s ++ ⟨#[10]⟩ : ByteArray) = S1 at *
      generalize (s ++ ⟨#[32]⟩ : ByteArray) = S2 at *
      clear e1 e2 z1 z2 z3 z4
      go_enter Tryd.func6, Tryd.ntmps6
      go_wp2_with fail
      refine (head_any _ hr).mono ?_
      rintro e wv3 ⟨rfl, hB⟩
      go_wp2_with fail
      refine (lines_any S1 _ (by omega)).mono ?_
      rintro e wA ⟨vA, rfl, hoA, hbA⟩
      replace hB := chain hB hbA
      go_wp2_with fail
      refine (lines_any S3 _ (by omega)).mono ?_
      rintro e wB ⟨vB, rfl, hoB, hbB⟩
      replace hB := chain hB hbB
      rw [L1.out] at hoB
      have hBB := hB
      obtain ⟨v1, w1, hr1, ho1, hb1⟩ := app_next i0 hi hz0 hz1 hz2 (own_empty wB) (own_below (own_below hoA hbB) (below_empty wB)) (by simp; omega) (by simp)
      have Hhr1 := Lib.hid hr1
      clear hr1
      rw [List.nil_append] at ho1
      replace hb1 := (below_empty wB).trans hb1
      clear hoA hbA hbB
      go_wp2_with (at_builtin; refine wpList_append_run rfl _ _ 24 rfl _ _ _ rfl rfl Hhr1.out ?_)
      refine (lines_any t _ (by omega)).mono ?_
      rintro e wC ⟨vC, rfl, hoC, hbC⟩
      obtain ⟨v2, w2, hr2, ho2, hb2⟩ := app_next i0 hi hz0 hz1 hz2 (own_below ho1 hbC) hoC (by omega) (Nat.le_trans hb1.size hbC.size)
      have Hhr2 := Lib.hid hr2
      clear hr2
      have hbb := (chain hb1 hbC).trans hb2
      replace hB := chain hBB hbb
      have hs1 := same_two hoB hbb ho2
      clear ho1 hoC hoB hbC hb2 hbb hb1 hBB ho2
      go_wp2_with (at_builtin; refine wpList_append_run rfl _ _ 24 rfl _ _ _ rfl rfl Hhr2.out ?_)
      refine hs1.mono ?_
      rintro e w3 ⟨rfl, nd, rfl⟩
      replace hB := below_drewN hB nd
      clear hs1
      go_wp2_with fail
      refine (words_any S4 _ (by omega)).mono ?_
      rintro e wD ⟨vD, rfl, hoD, hbD⟩
      replace hB := chain hB hbD
      rw [L2.out] at hoD
      have hBB := hB
      clear hbD
      go_wp2_with fail
      refine (words_any s _ (by omega)).mono ?_
      rintro e wE ⟨vE, rfl, hoE, hbE⟩
      have hq := (below_empty wD).trans (hbE.mono (by simp))
      obtain ⟨v4, w4, hr4, ho4, hb4⟩ := app_next i0 hi hz0 hz1 hz2 (own_below (own_empty wD) hbE) hoE (by simp; omega) hq.size
      have Hhr4 := Lib.hid hr4
      clear hr4
      rw [List.nil_append] at ho4
      replace hq := hq.trans hb4
      clear hoE hbE
      go_wp2_with (at_builtin; refine wpList_append_run rfl _ _ 24 rfl _ _ _ rfl rfl Hhr4.out ?_)
      refine (words_any t _ (by omega)).mono ?_
      rintro e wF ⟨vF, rfl, hoF, hbF⟩
      obtain ⟨v5, w5, hr5, ho5, hb5⟩ := app_next i0 hi hz0 hz1 hz2 (own_below ho4 hbF) hoF (by omega) (Nat.le_trans hq.size hbF.size)
      have Hhr5 := Lib.hid hr5
      clear hr5
      have hbb := (chain hq hbF).trans hb5
      replace hB := chain hBB hbb
      have hs2 := same_two hoD hbb ho5
      clear ho4 hoF hoD hbF hb5 hbb hq hBB ho5
      go_wp2_with (at_builtin; refine wpList_append_run rfl _ _ 24 rfl _ _ _ rfl rfl Hhr5.out ?_)
      refine hs2.mono ?_
      rintro e w6 ⟨rfl, nd2, rfl⟩
      replace hB := below_drewN hB nd2
      clear hs2
      go_wp2_with fail
      go_ret
      exact ⟨rfl, hB⟩
end Go.Proofs.YtmdheolmefkbaaaDoor
