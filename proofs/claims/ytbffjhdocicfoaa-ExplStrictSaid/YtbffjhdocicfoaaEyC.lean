/-
  slices.rotateCmpFunc over ends with places: two parts one behind the other change places.
-/
import Derived.Test.YtbffjhdocicfoaaK36
namespace Go.Proofs.Ytbffjhdocicfoaa
open Go.RowKit
set_option linter.unusedVariables false
set_option linter.unusedSimpArgs false
open OtM EyM

/-- What is left to be turned: between X and Y stand U and V. -/
structure RotK (B b g n cap : Nat) (w0 : World) (goal : List EV) (m i j : Nat) (W : World) : Prop where
  ex : ∃ X U V Y, SR B b g n cap w0 (X ++ U ++ V ++ Y) W ∧ U.length = i ∧ V.length = j ∧ X.length + i = m ∧ X ++ V ++ U ++ Y = goal
  lo : i ≤ m
  hi : m + j ≤ n
theorem RotK.left {B b g n cap : Nat} {w0 : World} {goal : List EV} {m i j : Nat} {W : World} (h : RotK B b g n cap w0 goal m i j W) (hij : j < i) :
    ∃ zs, SR B b g n cap w0 zs W ∧ ∀ W', SR B b g n cap w0 (swapN zs (m - i) m j) W' → RotK B b g n cap w0 goal m (i - j) j W' := by
  obtain ⟨⟨X, U, V, Y, h1, h2, h3, h4, h5⟩, lo, hi⟩ := h
  refine ⟨_, h1, fun W' h' => ?_⟩
  have e := swapN_is j X (U.take j) (U.drop j) V Y (a := m - i) (q := m) (by rw [List.length_take]; omega) h3 (by omega) (by rw [List.length_drop]; omega)
  have e2 : X ++ U.take j ++ U.drop j ++ V ++ Y = X ++ U ++ V ++ Y := by rw [List.append_assoc X, List.take_append_drop]
  rw [e2] at e
  rw [e] at h'
  refine ⟨⟨X ++ V, U.drop j, U.take j, Y, ?_, by rw [List.length_drop]; omega, by rw [List.length_take]; omega, by rw [List.length_append]; omega, ?_⟩, by omega, hi⟩
  · exact h'
  · rw [← h5, List.append_assoc (X ++ V), List.take_append_drop]
theorem RotK.right {B b g n cap : Nat} {w0 : World} {goal : List EV} {m i j : Nat} {W : World} (h : RotK B b g n cap w0 goal m i j W) (hij : i < j) :
    ∃ zs, SR B b g n cap w0 zs W ∧ ∀ W', SR B b g n cap w0 (swapN zs (m - i) (m + j - i) i) W' → RotK B b g n cap w0 goal m i (j - i) W' := by
  obtain ⟨⟨X, U, V, Y, h1, h2, h3, h4, h5⟩, lo, hi⟩ := h
  refine ⟨_, h1, fun W' h' => ?_⟩
  have e := swapN_is i X U (V.take (j - i)) (V.drop (j - i)) Y (a := m - i) (q := m + j - i) h2 (by rw [List.length_drop]; omega) (by omega) (by rw [List.length_take]; omega)
  have e2 : X ++ U ++ V.take (j - i) ++ V.drop (j - i) ++ Y = X ++ U ++ V ++ Y := by rw [List.append_assoc (X ++ U), List.take_append_drop]
  rw [e2] at e
  rw [e] at h'
  refine ⟨⟨X, V.drop (j - i), V.take (j - i), U ++ Y, ?_, by rw [List.length_drop]; omega, by rw [List.length_take]; omega, by omega, ?_⟩, by omega, by omega⟩
  · simpa using h'
  · rw [← h5, List.append_assoc X (V.take (j - i)), List.take_append_drop]; simp
theorem RotK.last {B b g n cap : Nat} {w0 : World} {goal : List EV} {m i : Nat} {W : World} (h : RotK B b g n cap w0 goal m i i W) :
    ∃ zs, SR B b g n cap w0 zs W ∧ swapN zs (m - i) m i = goal := by
  obtain ⟨⟨X, U, V, Y, h1, h2, h3, h4, h5⟩, lo, hi⟩ := h
  refine ⟨_, h1, ?_⟩
  have e := swapN_is i X U [] V Y (a := m - i) (q := m) h2 h3 (by omega) (by simp; omega)
  simp only [List.append_nil] at e
  rw [e]; exact h5
set_option maxHeartbeats 4000000 in
set_option maxRecDepth 100000 in
theorem erot_any {B b g n cap : Nat} {w0 : World} {X U V Y : List EV} (a m q : Nat) (w : World) (h : SR B b g n cap w0 (X ++ U ++ V ++ Y) w) (ha : X.length = a) (hm : a + U.length = m) (hq : m + V.length = q) (hu : 0 < U.length) (hv : 0 < V.length) (hn : n ≤ 1000000) :
    Calls Try.prog 91 #[.slice (some ⟨g, 0, none⟩) n cap, .int .i64 (a : Int), .int .i64 (m : Int), .int .i64 (q : Int), oF] w (SRet B b g n cap w0 (X ++ V ++ U ++ Y)) := by
  have hlen := h.len
  simp only [List.length_append] at hlen
  have H0 := Lib.hid (show RotK B b g n cap w0 (X ++ V ++ U ++ Y) m (m - a) (q - m) w from ⟨⟨X, U, V, Y, h, by omega, by omega, by omega, rfl⟩, by omega, by omega⟩)
  have hmn : q ≤ n := by omega
  have hma : a < m := by omega
  have hmq : m < q := by omega
  obtain ⟨goal, hgoal⟩ : ∃ z, z = X ++ V ++ U ++ Y := ⟨_, rfl⟩
  rw [← hgoal] at H0 ⊢
  clear hgoal h ha hm hq hu hv hlen
  have HSW := Lib.hid (fun (zs : List EV) (a q k : Nat) (W : World) (h : SR B b g n cap w0 zs W) (hk : a + k ≤ n) (hq : q + k ≤ n) => eswap_any a q k W h hk hq hn)
  obtain ⟨i0, hi0⟩ : ∃ x, x = m - a := ⟨_, rfl⟩
  obtain ⟨j0, hj0⟩ : ∃ x, x = q - m := ⟨_, rfl⟩
  rw [← hi0, ← hj0] at H0
  have w1 : IntKind.i64.wrap ((m : Int) - (a : Int)) = (i0 : Int) := by rw [IntWalk.i64_in _ (by omega)]; omega
  have w2 : IntKind.i64.wrap ((q : Int) - (m : Int)) = (j0 : Int) := by rw [IntWalk.i64_in _ (by omega)]; omega
  have hp0 : 0 < i0 := by omega
  have hp1 : 0 < j0 := by omega
  clear hi0 hj0
  go_enter Try.func91, Try.ntmps91
  go_wp2
  go_loopw [10, 11] (fun x y wr => ∃ i j : Nat, 0 < i ∧ 0 < j ∧ x = .int .i64 i ∧ y = .int .i64 j ∧ Hid (RotK B b g n cap w0 goal m i j wr)) (fun x y _ => (intOf x).toNat + (intOf y).toNat)
  case atStart => exact ⟨i0, j0, hp0, hp1, rfl, rfl, H0⟩
  case round =>
    obtain ⟨i, j, hi, hj, rfl, rfl, HK⟩ := hrel
    have hlo := HK.out.lo
    have hhi := HK.out.hi
    obtain ⟨p, hp⟩ : ∃ x, x = m - i := ⟨_, rfl⟩
    have w3 : IntKind.i64.wrap ((m : Int) - (i : Int)) = (p : Int) := by rw [IntWalk.i64_in _ (by omega)]; omega
    by_cases h1 : i = j
    · subst h1
      obtain ⟨zs, h2, h3⟩ := HK.out.last
      rw [← hp] at h3
      have HC := Lib.hid (HSW.out zs p m i wr h2 (by omega) (by omega))
      rw [h3] at HC
      clear h2 h3 hp
      go_wp2_with fail
      refine HC.out.mono ?_
      rintro e w' ⟨rfl, hs⟩
      have HS := Lib.hid hs
      clear hs
      go_wp2
      refine bodyPost_end (v := .tuple #[]) (by simp [results, Try.results91, go_sem]) rfl ?_
      exact ⟨rfl, HS.out⟩
    · rcases Nat.lt_or_gt_of_ne h1 with hlt | hlt
      · obtain ⟨zs, h2, h3⟩ := HK.out.right hlt
        rw [← hp] at h3
        obtain ⟨r, hr⟩ : ∃ x, x = m + j - i := ⟨_, rfl⟩
        rw [← hr] at h3
        have w4 : IntKind.i64.wrap ((m : Int) + (j : Int)) = ((m + j : Nat) : Int) := by rw [IntWalk.i64_in _ (by omega)]; omega
        obtain ⟨mj, hmj⟩ : ∃ x, x = m + j := ⟨_, rfl⟩
        rw [← hmj] at w4
        have w5 : IntKind.i64.wrap ((mj : Int) - (i : Int)) = (r : Int) := by rw [IntWalk.i64_in _ (by omega)]; omega
        obtain ⟨s, hs⟩ : ∃ x, x = j - i := ⟨_, rfl⟩
        rw [← hs] at h3
        have w6 : IntKind.i64.wrap ((j : Int) - (i : Int)) = (s : Int) := by rw [IntWalk.i64_in _ (by omega)]; omega
        have HC := Lib.hid (HSW.out zs p r i wr h2 (by omega) (by omega))
        have HN := Lib.hid h3
        have hs1 : 0 < s := by omega
        have hs2 : s < j := by omega
        have h1' : ¬ (i : Int) = (j : Int) := by omega
        clear h2 h3 hp hr hmj hs
        go_wp2_with fail
        refine HC.out.mono ?_
        rintro e w' ⟨rfl, hs⟩
        have HS := Lib.hid (HN.out _ hs)
        clear hs
        go_wp2
        go_roundw
        case rel => exact ⟨i, s, hi, hs1, rfl, rfl, HS⟩
        case measure => simp [intOf]; omega
      · obtain ⟨zs, h2, h3⟩ := HK.out.left hlt
        rw [← hp] at h3
        obtain ⟨s, hs⟩ : ∃ x, x = i - j := ⟨_, rfl⟩
        rw [← hs] at h3
        have w6 : IntKind.i64.wrap ((i : Int) - (j : Int)) = (s : Int) := by rw [IntWalk.i64_in _ (by omega)]; omega
        have HC := Lib.hid (HSW.out zs p m j wr h2 (by omega) (by omega))
        have HN := Lib.hid h3
        have hs1 : 0 < s := by omega
        have hs2 : s < i := by omega
        have h1' : ¬ (i : Int) = (j : Int) := by omega
        clear h2 h3 hp hs
        go_wp2_with fail
        refine HC.out.mono ?_
        rintro e w' ⟨rfl, hs⟩
        have HS := Lib.hid (HN.out _ hs)
        clear hs
        go_wp2
        go_roundw
        case rel => exact ⟨s, j, hs1, hj, rfl, rfl, HS⟩
        case measure => simp [intOf]; omega
end Go.Proofs.Ytbffjhdocicfoaa
