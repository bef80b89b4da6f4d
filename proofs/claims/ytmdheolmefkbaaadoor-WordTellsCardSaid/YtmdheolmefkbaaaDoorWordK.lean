/-
  THE LAWS OF LAYER 2, AS WALKS OVER ANY WORLD that holds the registers: each returns true.
-/
import Derived.Test.YtmdheolmefkbaaaDoorNameR
import Derived.OpenShut
namespace Go.Proofs.YtmdheolmefkbaaaDoor
open Go.RowKit
set_option linter.unusedVariables false
open WordM (L)

theorem strs_lit (w : World) (ls : List L) (T : TypeId) (h : ls.length ≤ maxLen) : Strs (w.heap.size + 1) (w.alloc (.cells (svs ls).toArray T)) (.slice (some ⟨w.heap.size, 0, none⟩) ls.length ls.length) ls := by
  refine ⟨_, _, rfl, Nat.le_refl _, h, fun _ => ⟨w.heap.size, rfl, by omega, fun j hj => ?_⟩⟩
  rw [World.cell?_alloc_at _ _ _ _ rfl]
  show ((svs ls).toArray)[j]? = _
  simp [svs, hj]
theorem same_yes (B : Nat) (va vb : Value) (a : List L) (w : World) (ha : Strs B w va a) (hb : Strs B w vb a) :
    Calls Tryd.prog 10 #[va, vb] w fun e w' => e = .returned (.bool true) ∧ ∃ n, w' = w.drewN n := by
  have := same_any B va vb a a w ha hb
  rw [show sameB a a = true from decide_eq_true rfl] at this
  exact this
/-- Alike, the second one being written out. -/
theorem same_lit {W0 w : World} {v : Value} {ls : List L} {T : TypeId} (ho : w.ownsRow W0.heap.size 9 1 v ls.length (svs ls)) (h : ls.length ≤ maxLen := by decide) :
    Calls Tryd.prog 10 #[v, .slice (some ⟨w.heap.size, 0, none⟩) ls.length ls.length] (w.alloc (.cells (svs ls).toArray T)) fun e w' => e = .returned (.bool true) ∧ Below w.heap.size w w' :=
  (same_yes (w.heap.size + 1) _ _ ls _ (strs_more (strs_below (strs_own ho) ((Below.refl _ _).alloc (Nat.le_refl _) _)) (by omega)) (strs_lit w ls T h)).mono fun _ _ ⟨h1, n, h2⟩ => ⟨h1, by rw [h2]; exact below_drewN ((Below.refl _ _).alloc (Nat.le_refl _) _) n⟩

theorem hl1 : WordM.lines (⟨#[97, 10, 10, 98, 32, 99, 10]⟩ : ByteArray).data.toList = [[97], [], [98, 32, 99]] := by decide +kernel
theorem hl2 : WordM.lines (⟨#[97, 10, 98]⟩ : ByteArray).data.toList = [[97], [98]] := by decide +kernel
theorem hl3 : WordM.lines (⟨#[]⟩ : ByteArray).data.toList = [] := by decide +kernel
theorem hl4 : WordM.words (⟨#[32, 32, 109, 111, 118, 32, 101, 97, 120, 32, 32, 91, 120, 93, 32]⟩ : ByteArray).data.toList = [[109, 111, 118], [101, 97, 120], [91, 120, 93]] := by decide +kernel
theorem hl5 : WordM.words (⟨#[32]⟩ : ByteArray).data.toList = [] := by decide +kernel
theorem hl6 : WordM.nameB (⟨#[97, 57]⟩ : ByteArray).data.toList = true := by decide +kernel
theorem hl7 : WordM.nameB (⟨#[57, 97]⟩ : ByteArray).data.toList = false := by decide +kernel
theorem hl8 : WordM.nameB (⟨#[109, 111, 118]⟩ : ByteArray).data.toList = false := by decide +kernel
theorem hl9 : WordM.nameB (⟨#[101, 98, 120]⟩ : ByteArray).data.toList = false := by decide +kernel
theorem hl10 : WordM.nameB (⟨#[97, 98, 99, 100, 101, 102, 103, 104, 105]⟩ : ByteArray).data.toList = false := by decide +kernel
theorem hl11 : WordM.nameB (⟨#[]⟩ : ByteArray).data.toList = false := by decide +kernel
theorem hl12 : WordM.regNo (⟨#[101, 99, 120]⟩ : ByteArray).data.toList = 2 := by decide +kernel
theorem hl13 : WordM.regNo (⟨#[120]⟩ : ByteArray).data.toList = -1 := by decide +kernel
theorem hl14 : WordM.regName 3 = [101, 100, 120] := by decide +kernel
theorem hl15 : WordM.regName 4 = [] := by decide +kernel

set_option maxHeartbeats 4000000 in
set_option maxRecDepth 100000 in
theorem head_any (w : World) (hr : Regs w) :
    Calls Tryd.prog 9 #[] w fun e w' => e = .returned (.bool true) ∧ Below w.heap.size w w' := by
  go_enter Tryd.func9, Tryd.ntmps9
  go_wp2_with fail
  refine (lines_any _ _ (by decide)).mono ?_
  rw [hl1]
  rintro e w1 ⟨v1, rfl, ho1, hb1⟩
  have hB := hb1
  clear hb1
  go_wp2_with fail
  refine (same_lit ho1).mono ?_
  rintro e wv1 ⟨rfl, hv1⟩
  replace hB := chain hB hv1
  clear hv1
  clear ho1
  go_wp2_with fail
  refine (lines_any _ _ (by decide)).mono ?_
  rw [hl2]
  rintro e w2 ⟨v2, rfl, ho2, hb2⟩
  replace hB := chain hB hb2
  clear hb2
  go_wp2_with fail
  refine (same_lit ho2).mono ?_
  rintro e wv2 ⟨rfl, hv2⟩
  replace hB := chain hB hv2
  clear hv2
  clear ho2
  go_wp2_with fail
  refine (lines_any _ _ (by decide)).mono ?_
  rw [hl3]
  rintro e w3 ⟨v3, rfl, ho3, hb3⟩
  replace hB := chain hB hb3
  clear hb3
  obtain ⟨A3, c3, rfl, _, _, _⟩ := strs_own ho3
  clear ho3
  go_wp2_with fail
  refine (words_any _ _ (by decide)).mono ?_
  rw [hl4]
  rintro e w4 ⟨v4, rfl, ho4, hb4⟩
  replace hB := chain hB hb4
  clear hb4
  go_wp2_with fail
  refine (same_lit ho4).mono ?_
  rintro e wv4 ⟨rfl, hv4⟩
  replace hB := chain hB hv4
  clear hv4
  clear ho4
  go_wp2_with fail
  refine (words_any _ _ (by decide)).mono ?_
  rw [hl5]
  rintro e w5 ⟨v5, rfl, ho5, hb5⟩
  replace hB := chain hB hb5
  clear hb5
  obtain ⟨A5, c5, rfl, _, _, _⟩ := strs_own ho5
  clear ho5
  go_wp2_with fail
  refine (name_any _ _ (hr.below hB)).mono ?_
  rw [hl6]
  rintro e wv6 ⟨rfl, rfl⟩
  go_wp2_with fail
  refine (name_any _ _ (hr.below hB)).mono ?_
  rw [hl7]
  rintro e wv7 ⟨rfl, rfl⟩
  go_wp2_with fail
  refine (name_any _ _ (hr.below hB)).mono ?_
  rw [hl8]
  rintro e wv8 ⟨rfl, rfl⟩
  go_wp2_with fail
  refine (name_any _ _ (hr.below hB)).mono ?_
  rw [hl9]
  rintro e wv9 ⟨rfl, rfl⟩
  go_wp2_with fail
  refine (name_any _ _ (hr.below hB)).mono ?_
  rw [hl10]
  rintro e wv10 ⟨rfl, rfl⟩
  go_wp2_with fail
  refine (name_any _ _ (hr.below hB)).mono ?_
  rw [hl11]
  rintro e wv11 ⟨rfl, rfl⟩
  go_wp2_with fail
  refine (reg_any _ _ (hr.below hB)).mono ?_
  rw [hl12]
  rintro e wv12 ⟨rfl, rfl⟩
  go_wp2_with fail
  refine (reg_any _ _ (hr.below hB)).mono ?_
  rw [hl13]
  rintro e wv13 ⟨rfl, rfl⟩
  go_wp2_with fail
  refine (regname_any _ _ (hr.below hB)).mono ?_
  rw [hl14]
  rintro e wv14 ⟨rfl, rfl⟩
  go_wp2_with fail
  refine (regname_any _ _ (hr.below hB)).mono ?_
  rw [hl15]
  rintro e wv15 ⟨rfl, rfl⟩
  go_wp2_with fail
  go_ret
  exact ⟨rfl, hB⟩

end Go.Proofs.YtmdheolmefkbaaaDoor
