/-
  THE LIBRARY's TrimPrefix AND TrimSuffix AT ONE BYTE, over any world.
-/
import Derived.Test.YtlfngcekbffngaaDoorKit
import Derived.Test.YtlfngcekbffngaaDoorOpsM
namespace Go.Proofs.YtlfngcekbffngaaDoor
open Go.RowKit
set_option linter.unusedVariables false
open WordM (L)

theorem ba_of {s : ByteArray} {l : L} (h : s.data.toList = l) : s = ⟨l.toArray⟩ := by subst h; rfl
theorem extract_full (s : ByteArray) (a b : Nat) : (s.extract a b).toList = (s.data.toList.drop a).take (b - a) := by rw [Lib.toList_data, Lib.extract_data]
theorem nil_of_size {s : ByteArray} (h : s.size < 1) : s.data.toList = [] := by
  have := Lib.size_eq s
  exact List.eq_nil_of_length_eq_zero (by omega)

set_option maxHeartbeats 1000000 in
set_option maxRecDepth 100000 in
theorem tprefix_nil (s : ByteArray) (c : UInt8) (w : World) (h1 : (s.size : Int) < 1) :
    Calls Tryd.prog 59 #[.string s, .string ⟨#[c]⟩] w fun e w' => e = .returned (.string s) ∧ w = w' := by
  go_enter Tryd.func59, Tryd.ntmps59
  go_wp2
  go_ret
  exact ⟨rfl, rfl⟩
set_option maxHeartbeats 1000000 in
set_option maxRecDepth 100000 in
theorem tprefix_yes (s : ByteArray) (c : UInt8) (w : World) (h1 : 1 ≤ (s.size : Int)) (h2 : ((s.extract 0 1).toList == [c]) = true) :
    Calls Tryd.prog 59 #[.string s, .string ⟨#[c]⟩] w fun e w' => e = .returned (.string (s.extract 1 s.size)) ∧ w = w' := by
  go_enter Tryd.func59, Tryd.ntmps59
  go_wp2
  go_ret
  exact ⟨rfl, rfl⟩
set_option maxHeartbeats 1000000 in
set_option maxRecDepth 100000 in
theorem tprefix_no (s : ByteArray) (c : UInt8) (w : World) (h1 : 1 ≤ (s.size : Int)) (h2 : ((s.extract 0 1).toList == [c]) = false) :
    Calls Tryd.prog 59 #[.string s, .string ⟨#[c]⟩] w fun e w' => e = .returned (.string s) ∧ w = w' := by
  go_enter Tryd.func59, Tryd.ntmps59
  go_wp2
  go_ret
  exact ⟨rfl, rfl⟩
theorem tprefix_any (s : ByteArray) (c : UInt8) (w : World) :
    Calls Tryd.prog 59 #[.string s, .string ⟨#[c]⟩] w fun e w' => e = .returned (.string ⟨(OpsM.offHead c s.data.toList).toArray⟩) ∧ w = w' := by
  by_cases h1 : (s.size : Int) < 1
  · have e := nil_of_size (s := s) (by omega)
    rw [show OpsM.offHead c s.data.toList = s.data.toList by rw [e]; rfl]
    exact tprefix_nil s c w h1
  · have hx : (s.extract 0 1).toList = s.data.toList.take 1 := by rw [extract_full]; simp
    have hc : s.data.toList ≠ [] := by intro e; have := Lib.size_eq s; rw [e, List.length_nil] at this; omega
    obtain ⟨d, r, e⟩ := List.exists_cons_of_ne_nil hc
    by_cases h2 : d = c
    · subst h2
      have e2 : s.extract 1 s.size = ⟨(OpsM.offHead d s.data.toList).toArray⟩ := by
        apply ba_of
        rw [Lib.extract_data, Lib.size_eq, e]
        simp [OpsM.offHead]
      rw [← e2]
      exact tprefix_yes s d w (by omega) (by rw [hx, e]; simp)
    · rw [show OpsM.offHead c s.data.toList = s.data.toList by rw [e]; simp [OpsM.offHead, h2]]
      exact tprefix_no s c w (by omega) (by rw [hx, e]; simp [h2])

set_option maxHeartbeats 1000000 in
set_option maxRecDepth 100000 in
theorem tsuffix_nil (s : ByteArray) (c : UInt8) (w : World) (h1 : (s.size : Int) < 1) :
    Calls Tryd.prog 51 #[.string s, .string ⟨#[c]⟩] w fun e w' => e = .returned (.string s) ∧ w = w' := by
  go_enter Tryd.func51, Tryd.ntmps51
  go_wp2
  go_ret
  exact ⟨rfl, rfl⟩
set_option maxHeartbeats 1000000 in
set_option maxRecDepth 100000 in
theorem tsuffix_yes (s : ByteArray) (c : UInt8) (w : World) (k : Nat) (hk : s.size = k + 1) (hs : k ≤ 100000000000) (h2 : ((s.extract k (k + 1)).toList == [c]) = true) :
    Calls Tryd.prog 51 #[.string s, .string ⟨#[c]⟩] w fun e w' => e = .returned (.string (s.extract 0 k)) ∧ w = w' := by
  go_enter Tryd.func51, Tryd.ntmps51
  go_wp2
  go_ret
  exact ⟨rfl, rfl⟩
set_option maxHeartbeats 1000000 in
set_option maxRecDepth 100000 in
theorem tsuffix_no (s : ByteArray) (c : UInt8) (w : World) (k : Nat) (hk : s.size = k + 1) (hs : k ≤ 100000000000) (h2 : ((s.extract k (k + 1)).toList == [c]) = false) :
    Calls Tryd.prog 51 #[.string s, .string ⟨#[c]⟩] w fun e w' => e = .returned (.string s) ∧ w = w' := by
  go_enter Tryd.func51, Tryd.ntmps51
  go_wp2
  go_ret
  exact ⟨rfl, rfl⟩
theorem tsuffix_any (s : ByteArray) (c : UInt8) (w : World) (hs : s.size ≤ 100000000000) :
    Calls Tryd.prog 51 #[.string s, .string ⟨#[c]⟩] w fun e w' => e = .returned (.string ⟨(OpsM.offEnd c s.data.toList).toArray⟩) ∧ w = w' := by
  rcases List.eq_nil_or_concat s.data.toList with e | ⟨r, d, e⟩
  · rw [show OpsM.offEnd c s.data.toList = s.data.toList by rw [e]; rfl]
    exact tsuffix_nil s c w (by have := Lib.size_eq s; rw [e, List.length_nil] at this; omega)
  · rw [List.concat_eq_append] at e
    have hk : s.size = r.length + 1 := by rw [Lib.size_eq, e]; simp
    have hx : (s.extract r.length (r.length + 1)).toList = [d] := by rw [extract_full, e]; simp
    by_cases h2 : d = c
    · subst h2
      have e2 : s.extract 0 r.length = ⟨(OpsM.offEnd d s.data.toList).toArray⟩ := by
        apply ba_of
        rw [Lib.extract_data, e]
        simp [OpsM.offEnd]
      rw [← e2]
      exact tsuffix_yes s d w r.length hk (by omega) (by rw [hx]; simp)
    · rw [show OpsM.offEnd c s.data.toList = s.data.toList by rw [e]; simp [OpsM.offEnd, h2]]
      exact tsuffix_no s c w r.length hk (by omega) (by rw [hx]; simp [h2])
end Go.Proofs.YtlfngcekbffngaaDoor
