/-
  the library's Cut at one byte, over any world.
  the library's Cut at one byte: chunks.
-/
import Derived.Test.YtmpjcfehabnhgaaDoorK00
set_option linter.unusedVariables false
set_option linter.unusedSimpArgs false
namespace Go.Proofs.YtmpjcfehabnhgaaDoor
open Go.RowKit
set_option linter.unusedVariables false
set_option maxHeartbeats 1000000 in
set_option maxRecDepth 100000 in
theorem indexByte_any (s : ByteArray) (c : UInt8) (w : World) :
    Calls Tryd.prog 69 #[.string s, .int .u8 c.toNat] w fun e w' => e = .returned (.int .i64 (Lib.indexByte s.data.toList c)) ∧ w = w' := by
  go_enter Tryd.func69, Tryd.ntmps69
  go_wp2
  rw [run_callFunc_extern Tryd.func73 (by kernel_rfl) (by kernel_rfl) (by kernel_rfl) (e := Extern.BytealgIndexByte.indexByte) (by kernel_rfl), Lib.run_indexByteString]
  simp only [Result.andThen]
  rw [Oper.upon_value]
  go_wp2
  go_ret
  exact ⟨rfl, rfl⟩
set_option maxHeartbeats 1000000 in
set_option maxRecDepth 100000 in
theorem index_other (s : ByteArray) (c : UInt8) (w : World) (hq : ([c] == s.toList) = false) :
    Calls Tryd.prog 67 #[.string s, .string ⟨#[c]⟩] w fun e w' => e = .returned (.int .i64 (Lib.indexByte s.data.toList c)) ∧ w = w' := by
  go_enter Tryd.func67, Tryd.ntmps67
  go_wp2_with (go_at_call 69; refine (indexByte_any _ _ _).mono ?_; rintro e w' ⟨rfl, rfl⟩)
  go_ret
  exact ⟨rfl, rfl⟩
set_option maxHeartbeats 1000000 in
set_option maxRecDepth 100000 in
theorem index_same (c : UInt8) (w : World) :
    Calls Tryd.prog 67 #[.string ⟨#[c]⟩, .string ⟨#[c]⟩] w fun e w' => e = .returned (.int .i64 0) ∧ w = w' := by
  go_enter Tryd.func67, Tryd.ntmps67
  go_wp2
  go_ret
  exact ⟨rfl, rfl⟩
theorem index_any (s : ByteArray) (c : UInt8) (w : World) :
    Calls Tryd.prog 67 #[.string s, .string ⟨#[c]⟩] w fun e w' => e = .returned (.int .i64 (Lib.indexByte s.data.toList c)) ∧ w = w' := by
  by_cases h : [c] = s.data.toList
  · have e : s = ⟨#[c]⟩ := by
      apply ByteArray.ext; apply Array.toList_inj.1; rw [← h]
    subst e
    have : Lib.indexByte (⟨#[c]⟩ : ByteArray).data.toList c = 0 := by simp [Lib.indexByte]
    rw [this]
    exact index_same c w
  · exact index_other s c w (by rw [Lib.toList_data, beq_dec]; exact decide_eq_false h)
/-- What stands ahead of the first c, behind it, and whether it is there. -/
def cutA (c : UInt8) (s : ByteArray) : ByteArray := if Lib.indexByte s.data.toList c = -1 then s else s.extract 0 (Lib.indexByte s.data.toList c).toNat
def cutR (c : UInt8) (s : ByteArray) : ByteArray := if Lib.indexByte s.data.toList c = -1 then ⟨#[]⟩ else s.extract ((Lib.indexByte s.data.toList c).toNat + 1) s.size
def cutB (c : UInt8) (s : ByteArray) : Bool := decide (Lib.indexByte s.data.toList c ≠ -1)
set_option maxHeartbeats 1000000 in
set_option maxRecDepth 100000 in
theorem lcut_no (s : ByteArray) (c : UInt8) (w : World) (h : Lib.indexByte s.data.toList c = -1) :
    Calls Tryd.prog 65 #[.string s, .string ⟨#[c]⟩] w fun e w' => e = .returned (.tuple #[.string s, .string ⟨#[]⟩, .bool false]) ∧ w = w' := by
  have hi : ∀ W, Calls Tryd.prog 67 #[.string s, .string ⟨#[c]⟩] W fun e w' => e = .returned (.int .i64 (-1)) ∧ W = w' := fun W => by rw [← h]; exact index_any s c W
  have HI := Lib.hid hi
  clear hi h
  go_enter Tryd.func65, Tryd.ntmps65
  go_wp2_with (go_at_call 67; refine (HI.out _).mono ?_; rintro e w' ⟨rfl, rfl⟩)
  go_ret3
  exact ⟨rfl, rfl⟩
set_option maxHeartbeats 1000000 in
set_option maxRecDepth 100000 in
theorem lcut_yes (s : ByteArray) (c : UInt8) (w : World) (k : Nat) (hk : k < s.size) (hs : s.size ≤ maxLen) (h : Lib.indexByte s.data.toList c = (k : Int)) :
    Calls Tryd.prog 65 #[.string s, .string ⟨#[c]⟩] w fun e w' => e = .returned (.tuple #[.string (s.extract 0 k), .string (s.extract (k + 1) s.size), .bool true]) ∧ ∃ n, w' = w.drewN n := by
  have hi : ∀ W, Calls Tryd.prog 67 #[.string s, .string ⟨#[c]⟩] W fun e w' => e = .returned (.int .i64 k) ∧ W = w' := fun W => by rw [← h]; exact index_any s c W
  have HI := Lib.hid hi
  clear hi h
  unfold maxLen at hs
  have hw1 : IntKind.i64.wrap ((k : Int) + 1) = (k : Int) + 1 := IntWalk.i64_in _ (by omega)
  have hw2 : 0 ≤ (k : Int) + 1 := by omega
  have hw3 : ((k : Int) + 1).toNat = k + 1 := by omega
  go_enter Tryd.func65, Tryd.ntmps65
  go_wp2_with (go_at_call 67; refine (HI.out _).mono ?_; rintro e w' ⟨rfl, rfl⟩)
  go_quiet (fail)
  go_wp2
  go_ret3
  exact ⟨rfl, _, rfl⟩
theorem lcut_any (s : ByteArray) (c : UInt8) (w : World) (hs : s.size ≤ maxLen) :
    Calls Tryd.prog 65 #[.string s, .string ⟨#[c]⟩] w fun e w' => e = .returned (.tuple #[.string (cutA c s), .string (cutR c s), .bool (cutB c s)]) ∧ ∃ n, w' = w.drewN n := by
  unfold cutA cutR cutB
  rcases WordM.idx_spec c s.data.toList with ⟨e, _⟩ | ⟨a, r, e, _, h⟩
  · rw [e]; simp only [if_true, ne_eq, not_true, decide_false]
    exact (lcut_no s c w e).mono fun _ _ ⟨h1, h2⟩ => ⟨h1, 0, by rw [← h2]; rfl⟩
  · have hl : a.length < s.size := by rw [Lib.size_eq, e]; simp
    have hne : ¬ ((a.length : Int) = -1) := by omega
    rw [h, if_neg hne, if_neg hne]
    simp only [Int.toNat_natCast, ne_eq, hne, not_false_eq_true, decide_true]
    exact lcut_yes s c w a.length hl hs h
set_option maxHeartbeats 1000000 in
set_option maxRecDepth 100000 in
theorem cut_any (s : ByteArray) (c : UInt8) (w : World) (hs : s.size ≤ maxLen) :
    Calls Tryd.prog 59 #[.string s, .string ⟨#[c]⟩] w fun e w' => e = .returned (.tuple #[.string (cutA c s), .string (cutR c s), .bool (cutB c s)]) ∧ ∃ n, w' = w.drewN n := by
  go_enter Tryd.func59, Tryd.ntmps59
  go_wp2_with (go_at_call 65; refine (lcut_any _ _ _ hs).mono ?_; rintro e w' ⟨rfl, n, rfl⟩)
  go_ret3
  exact ⟨rfl, n, rfl⟩
theorem cutR_size (c : UInt8) (s : ByteArray) : (cutR c s).size ≤ s.size := by
  unfold cutR; split
  · exact Nat.zero_le _
  · simp
end Go.Proofs.YtmpjcfehabnhgaaDoor
namespace Go.Proofs.YtmpjcfehabnhgaaDoor
open Go.RowKit
set_option linter.unusedVariables false
/-- One chunk more. -/
theorem cut_chunks (c : UInt8) (s : ByteArray) (h : s.data.toList ≠ []) :
    WordM.chunks c s.data.toList = (cutA c s).data.toList :: WordM.chunks c (cutR c s).data.toList ∧ (cutR c s).size < s.size := by
  unfold cutA cutR
  rcases WordM.idx_spec c s.data.toList with ⟨e, hn⟩ | ⟨a, r, e, hn, hi⟩
  · rw [e, if_pos rfl, if_pos rfl, WordM.chunks_none c _ hn h]
    refine ⟨rfl, ?_⟩
    rw [Lib.size_eq s]
    exact List.length_pos_iff.2 h
  · have hne : ¬ ((a.length : Int) = -1) := by omega
    rw [hi, if_neg hne, if_neg hne, Int.toNat_natCast]
    have hz : s.size = a.length + 1 + r.length := by rw [Lib.size_eq, e]; simp; omega
    constructor
    · rw [Lib.extract_data, Lib.extract_data, e]
      rw [WordM.chunks_app c a r hn]
      congr 1
      · simp
      · congr 1
        rw [hz]
        simp
    · simp; omega
end Go.Proofs.YtmpjcfehabnhgaaDoor
