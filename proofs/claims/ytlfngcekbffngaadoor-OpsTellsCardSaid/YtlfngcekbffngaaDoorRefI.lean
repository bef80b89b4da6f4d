/-
  THE DOCUMENT's inner: a text between two others, over any world.
-/
import Derived.Test.YtlfngcekbffngaaDoorKit2
import Derived.Test.YtlfngcekbffngaaDoorRefM
import Derived.Test.YtlfngcekbffngaaDoorTrim
namespace Go.Proofs.YtlfngcekbffngaaDoor
open Go.RowKit
set_option linter.unusedVariables false
set_option linter.unusedSimpArgs false
open WordM (L)

set_option maxHeartbeats 1000000 in
set_option maxRecDepth 100000 in
theorem innC_short (s : ByteArray) (w : World) (h : (s.size : Int) ≤ 1) :
    Calls Tryd.prog 28 #[.string s, .string ⟨#[]⟩, .string ⟨#[58]⟩] w fun e w' => e = .returned (.string ⟨#[]⟩) ∧ w = w' := by
  go_enter Tryd.func28, Tryd.ntmps28
  go_wp2
  go_ret
  exact ⟨rfl, rfl⟩
set_option maxHeartbeats 1000000 in
set_option maxRecDepth 100000 in
theorem innC_no (s : ByteArray) (w : World) (k : Nat) (hk : s.size = k + 1) (h0 : 1 ≤ k) (hs : k ≤ 100000) (q0 : (s.extract 0 0).toList = []) (h2 : ((s.extract k (k + 1)).toList == [58]) = false) :
    Calls Tryd.prog 28 #[.string s, .string ⟨#[]⟩, .string ⟨#[58]⟩] w fun e w' => e = .returned (.string ⟨#[]⟩) ∧ w = w' := by
  go_enter Tryd.func28, Tryd.ntmps28
  go_wp2
  go_ret
  exact ⟨rfl, rfl⟩
set_option maxHeartbeats 1000000 in
set_option maxRecDepth 100000 in
theorem innC_yes (s : ByteArray) (w : World) (k : Nat) (hk : s.size = k + 1) (h0 : 1 ≤ k) (hs : k ≤ 100000) (q0 : (s.extract 0 0).toList = []) (h2 : ((s.extract k (k + 1)).toList == [58]) = true) :
    Calls Tryd.prog 28 #[.string s, .string ⟨#[]⟩, .string ⟨#[58]⟩] w fun e w' => e = .returned (.string (s.extract 0 k)) ∧ w = w' := by
  go_enter Tryd.func28, Tryd.ntmps28
  go_wp2
  go_ret
  exact ⟨rfl, rfl⟩
theorem innC_any (s : ByteArray) (w : World) (hs : s.size ≤ 100000) :
    Calls Tryd.prog 28 #[.string s, .string ⟨#[]⟩, .string ⟨#[58]⟩] w fun e w' => e = .returned (.string ⟨(OpsM.innC s.data.toList).toArray⟩) ∧ w = w' := by
  have hz := Lib.size_eq s
  rcases List.eq_nil_or_concat s.data.toList with e | ⟨r, d, e⟩
  · rw [show OpsM.innC s.data.toList = [] by rw [e]; rfl]
    exact innC_short s w (by rw [e, List.length_nil] at hz; omega)
  · rw [List.concat_eq_append] at e
    have hk : s.size = r.length + 1 := by rw [Lib.size_eq, e]; simp
    have hx : (s.extract r.length (r.length + 1)).toList = [d] := by rw [extract_full, e]; simp
    have q0 : (s.extract 0 0).toList = [] := by rw [extract_full]; simp
    by_cases h1 : 1 ≤ r.length
    · by_cases h2 : d = 58
      · subst h2
        have e2 : s.extract 0 r.length = ⟨(OpsM.innC s.data.toList).toArray⟩ := by
          apply ba_of
          rw [Lib.extract_data, e]
          unfold OpsM.innC
          rw [if_pos ⟨by simp; omega, by simp⟩]; simp
        rw [← e2]
        exact innC_yes s w r.length hk h1 (by omega) q0 (by rw [hx]; rfl)
      · rw [show OpsM.innC s.data.toList = [] by rw [e]; unfold OpsM.innC; rw [if_neg (by simp [h2])]]
        exact innC_no s w r.length hk h1 (by omega) q0 (by rw [hx]; simp [h2])
    · rw [show OpsM.innC s.data.toList = [] by rw [e]; unfold OpsM.innC; rw [if_neg (by simp; omega)]]
      exact innC_short s w (by omega)

set_option maxHeartbeats 1000000 in
set_option maxRecDepth 100000 in
theorem innB_short (s : ByteArray) (w : World) (h : (s.size : Int) ≤ 2) :
    Calls Tryd.prog 28 #[.string s, .string ⟨#[91]⟩, .string ⟨#[93]⟩] w fun e w' => e = .returned (.string ⟨#[]⟩) ∧ w = w' := by
  go_enter Tryd.func28, Tryd.ntmps28
  go_wp2
  go_ret
  exact ⟨rfl, rfl⟩
set_option maxHeartbeats 1000000 in
set_option maxRecDepth 100000 in
theorem innB_no1 (s : ByteArray) (w : World) (h0 : 3 ≤ s.size) (h2 : ((s.extract 0 1).toList == [91]) = false) :
    Calls Tryd.prog 28 #[.string s, .string ⟨#[91]⟩, .string ⟨#[93]⟩] w fun e w' => e = .returned (.string ⟨#[]⟩) ∧ w = w' := by
  go_enter Tryd.func28, Tryd.ntmps28
  go_wp2
  go_ret
  exact ⟨rfl, rfl⟩
set_option maxHeartbeats 1000000 in
set_option maxRecDepth 100000 in
theorem innB_no2 (s : ByteArray) (w : World) (k : Nat) (hk : s.size = k + 1) (h0 : 2 ≤ k) (hs : k ≤ 100000) (h1 : ((s.extract 0 1).toList == [91]) = true) (h2 : ((s.extract k (k + 1)).toList == [93]) = false) :
    Calls Tryd.prog 28 #[.string s, .string ⟨#[91]⟩, .string ⟨#[93]⟩] w fun e w' => e = .returned (.string ⟨#[]⟩) ∧ w = w' := by
  go_enter Tryd.func28, Tryd.ntmps28
  go_wp2
  go_ret
  exact ⟨rfl, rfl⟩
set_option maxHeartbeats 1000000 in
set_option maxRecDepth 100000 in
theorem innB_yes (s : ByteArray) (w : World) (k : Nat) (hk : s.size = k + 1) (h0 : 2 ≤ k) (hs : k ≤ 100000) (h1 : ((s.extract 0 1).toList == [91]) = true) (h2 : ((s.extract k (k + 1)).toList == [93]) = true) :
    Calls Tryd.prog 28 #[.string s, .string ⟨#[91]⟩, .string ⟨#[93]⟩] w fun e w' => e = .returned (.string (s.extract 1 k)) ∧ w = w' := by
  go_enter Tryd.func28, Tryd.ntmps28
  go_wp2
  go_ret
  exact ⟨rfl, rfl⟩
theorem innB_any (s : ByteArray) (w : World) (hs : s.size ≤ 100000) :
    Calls Tryd.prog 28 #[.string s, .string ⟨#[91]⟩, .string ⟨#[93]⟩] w fun e w' => e = .returned (.string ⟨(OpsM.innB s.data.toList).toArray⟩) ∧ w = w' := by
  have hz := Lib.size_eq s
  rcases List.eq_nil_or_concat s.data.toList with e | ⟨r, d, e⟩
  · rw [show OpsM.innB s.data.toList = [] by rw [e]; rfl]
    exact innB_short s w (by rw [e, List.length_nil] at hz; omega)
  · rw [List.concat_eq_append] at e
    have hk : s.size = r.length + 1 := by rw [Lib.size_eq, e]; simp
    have hx : (s.extract r.length (r.length + 1)).toList = [d] := by rw [extract_full, e]; simp
    cases r with
    | nil =>
      rw [show OpsM.innB s.data.toList = [] by rw [e]; unfold OpsM.innB; rw [if_neg (by simp)]]
      exact innB_short s w (by simp at hk; omega)
    | cons c r =>
      have hy : (s.extract 0 1).toList = [c] := by rw [extract_full, e]; simp
      by_cases h1 : 1 ≤ r.length
      · by_cases hc : c = 91
        · by_cases h2 : d = 93
          · subst h2; subst hc
            have e2 : s.extract 1 (91 :: r).length = ⟨(OpsM.innB s.data.toList).toArray⟩ := by
              apply ba_of
              rw [Lib.extract_data, e]
              unfold OpsM.innB
              rw [if_pos ⟨by simp; omega, rfl, List.getLast?_concat⟩]; simp
            rw [← e2]
            exact innB_yes s w (91 :: r).length hk (by simp; omega) (by omega) (by rw [hy]; rfl) (by rw [hx]; rfl)
          · rw [show OpsM.innB s.data.toList = [] by rw [e]; unfold OpsM.innB; rw [if_neg (by intro hh; have := hh.2.2; rw [List.getLast?_concat] at this; injection this with this; exact h2 this)]]
            exact innB_no2 s w (c :: r).length hk (by simp; omega) (by omega) (by rw [hy, hc]; rfl) (by rw [hx]; simp [h2])
        · rw [show OpsM.innB s.data.toList = [] by rw [e]; unfold OpsM.innB; rw [if_neg (by intro hh; have := hh.2.1; simp at this; exact hc this)]]
          exact innB_no1 s w (by simp at hk; omega) (by rw [hy]; simp [hc])
      · rw [show OpsM.innB s.data.toList = [] by rw [e]; unfold OpsM.innB; rw [if_neg (by simp; omega)]]
        exact innB_short s w (by simp at hk; omega)
end Go.Proofs.YtlfngcekbffngaaDoor
