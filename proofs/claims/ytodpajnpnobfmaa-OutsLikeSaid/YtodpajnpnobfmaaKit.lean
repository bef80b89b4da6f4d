/-
  SMALL FACTS that many texts of the seat use. Of no function of the program.
-/
import Derived.Test.YtodpajnpnobfmaaRows
import Derived.WalkKit
import Derived.WalkSpells
import Derived.WalkLawsBesides
import Derived.Lib.Hide
import Derived.Lib.Strings
import Derived.Lib.Bytealg
import Derived.Laws.BytesArg
import Derived.Laws.Concat
import Derived.IntWalk
import Derived.OpenShut
import Derived.Deep.QuietTactic
import Derived.BigQuiet
import Derived.LoopTactic
import Derived.RegionTactic
import Derived.Maps.AppendAt
import Derived.Test.YtodpajnpnobfmaaWordM
import Derived.Test.YtodpajnpnobfmaaNumM
set_option linter.unusedSimpArgs false
namespace Go.Proofs.Ytodpajnpnobfmaa
open Go.RowKit
open WordM (L)
set_option linter.unusedVariables false
theorem beq_dec (a b : List UInt8) : (a == b) = decide (a = b) := by
  by_cases h : a = b <;> simp [h]
theorem take_snoc (s : ByteArray) (k : Nat) (h : k < s.size) : s.data.toList.take (k + 1) = s.data.toList.take k ++ [s[k]] := by
  rw [List.take_succ_eq_append_getElem (by simpa using h)]; rfl
theorem drop_at (s : ByteArray) (k : Nat) (h : k < s.size) : s.data.toList.drop k = s[k] :: s.data.toList.drop (k + 1) := by
  rw [List.drop_eq_getElem_cons (by simpa using h)]; rfl
theorem u8_beq (x c : UInt8) : ((x.toNat : Int) == (c.toNat : Int)) = decide (x = c) := by
  by_cases h : x = c
  · subst h; simp
  · rw [decide_eq_false h, beq_eq_false_iff_ne]
    intro e
    exact h (UInt8.toNat_inj.1 (by omega))
theorem ret_int {k : IntKind} {a b : Int} (h : a = b) : Ending.returned (.int k a) = .returned (.int k b) := by rw [h]
theorem nil_cat (l : List UInt8) : (⟨#[]⟩ : ByteArray) ++ ⟨l.toArray⟩ = ⟨l.toArray⟩ := by
  apply ByteArray.ext
  rw [ByteArray.data_append]
  simp
theorem conv_one (P : Program) (src e dst : TypeId) (hs : P.underlying src = some (.slice e)) (he : P.underlying e = some (.int .u8)) (hd : P.underlying dst = some .string) (b : UInt8) (W : World) (te : TypeId) :
    (convert src dst (.slice (some ⟨W.heap.size, 0, none⟩) 1 1)).run P (W.alloc (.cells #[.int .u8 (b.toNat : Int)] te)) = .ok (.string ⟨#[b]⟩) (W.alloc (.cells #[.int .u8 (b.toNat : Int)] te)) := by
  have := run_convert_bytes_arg (P := P) (W.alloc (.cells #[.int .u8 (b.toNat : Int)] te)) src e hs he W.heap.size 0 1 1 [(b.toNat : Int)] rfl (fun i hi => by
    obtain rfl : i = 0 := by omega
    rw [World.cell?_alloc_at _ _ _ _ rfl]
    rfl) dst hd
  rw [this]
  congr 2
  unfold strOfNums
  simp
theorem conv_one' (P : Program) (src e dst : TypeId) (hs : P.underlying src = some (.slice e)) (he : P.underlying e = some (.int .u8)) (hd : P.underlying dst = some .string) (b : UInt8) (X : Int) (hX : X = (b.toNat : Int)) (te : TypeId) (W : World) :
    (convert src dst (.slice (some ⟨W.heap.size, 0, none⟩) 1 1)).run P (W.alloc (.cells #[.int .u8 X] te)) = .ok (.string ⟨#[b]⟩) (W.alloc (.cells #[.int .u8 X] te)) := by
  subst hX
  exact conv_one P src e dst hs he hd b W te
theorem one_cat (b : UInt8) (l : List UInt8) : (⟨#[b]⟩ : ByteArray) ++ ⟨l.toArray⟩ = ⟨(b :: l).toArray⟩ := rfl
theorem first_byte (s : ByteArray) (h : 0 < s.size) : s.data.toList.head? = some s[0] := by
  have : s.data.toList[0]? = some s[0] := by
    rw [List.getElem?_eq_getElem (by rw [← Lib.size_eq]; exact h)]; rfl
  rw [← this]; exact List.head?_eq_getElem?
theorem take_full (s : ByteArray) : s.data.toList.take s.size = s.data.toList := List.take_of_length_le (by rw [← Lib.size_eq]; exact Nat.le_refl _)
theorem cat_one (l : ByteArray) (b : UInt8) : (l ++ (⟨#[b]⟩ : ByteArray)).data.toList = l.data.toList ++ [b] := by
  rw [ByteArray.data_append]
  simp
theorem cat_one_size (l : ByteArray) (b : UInt8) : (l ++ (⟨#[b]⟩ : ByteArray)).size = l.size + 1 := by
  rw [Lib.size_eq, cat_one, Lib.size_eq]; simp
theorem inR_wf {n : Int} (h : (Lit.int .i64 n).wf = true) : NumM.inR n := bounds_i64 h
theorem head_at (s : ByteArray) (h : 0 < s.size) : s.data.toList.headD 0 = s[0] := by
  have : s.data.toList[0]? = some s[0] := by
    rw [List.getElem?_eq_getElem (by rw [← Lib.size_eq]; exact h)]; rfl
  rw [List.headD_eq_head?_getD, List.head?_eq_getElem?, this]; rfl
theorem strq (s : ByteArray) (l : L) (b : Bool) (h : decide (s.data.toList = l) = b) : (s.toList == l) = b ∧ (l == s.toList) = b := by
  rw [Lib.toList_data, beq_dec, beq_dec, h]
  refine ⟨rfl, ?_⟩
  rw [← h]; congr 1; exact propext ⟨Eq.symm, Eq.symm⟩
/-- Frames' literals, in short (walks of regions by hand). -/
theorem pt8 : type_of% (And.intro @List.getElem_toArray.{0} (And.intro @List.getElem_cons_zero.{0} (And.intro @List.getElem_cons_succ.{0} (And.intro @Array.getInternal_eq_getElem.{0} (And.intro @List.setIfInBounds_toArray.{0} (And.intro @List.set_cons_zero.{0} @List.set_cons_succ.{0})))))) := ⟨@List.getElem_toArray, @List.getElem_cons_zero, @List.getElem_cons_succ, @Array.getInternal_eq_getElem, @List.setIfInBounds_toArray, @List.set_cons_zero, @List.set_cons_succ⟩
theorem chain {w a b : World} (h : Below w.heap.size w a) (k : Below a.heap.size a b) : Below w.heap.size w b := h.trans (k.mono h.size)
theorem below_drewN {B : Nat} {a w : World} (h : Below B a w) (n : Nat) : Below B a (w.drewN n) := ⟨h.os, h.tape, h.output, h.size, h.block⟩
end Go.Proofs.Ytodpajnpnobfmaa
