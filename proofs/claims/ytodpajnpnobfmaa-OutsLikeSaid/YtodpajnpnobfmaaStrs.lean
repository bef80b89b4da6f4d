/-
  SLICES OF STRINGS: what it says that a value is a slice whose cells are given texts; what a call says that hands one back. Of no function of the program.
-/
import Derived.Test.YtodpajnpnobfmaaRows
import Derived.Test.YtodpajnpnobfmaaKit
import Derived.WalkKit
import Derived.Maps.AppendAt
import Derived.RangeFuncBox
import Derived.Lib.Hide
import Derived.Deep.QuietTactic
import Derived.Lib.Strings
set_option linter.unusedSimpArgs false
namespace Go.Proofs.Ytodpajnpnobfmaa
open Go.RowKit
set_option linter.unusedVariables false
open WordM (L)

/-- A text as a value. -/
def sv (l : L) : Value := .string ⟨l.toArray⟩
def svs (ls : List L) : List Value := ls.map sv
theorem str_eta (s : ByteArray) : (⟨s.data.toList.toArray⟩ : ByteArray) = s := rfl
theorem sv_data (s : ByteArray) : sv s.data.toList = .string s := rfl
theorem svs_len (ls : List L) : (svs ls).length = ls.length := by simp [svs]
theorem svs_snoc (ls : List L) (l : L) : svs (ls ++ [l]) = svs ls ++ [sv l] := by simp [svs]
theorem svs_app (a b : List L) : svs (a ++ b) = svs a ++ svs b := by simp [svs]

/-- The value v is a slice that reads as the texts ls, in a block below B. -/
def Strs (B : Nat) (w : World) (v : Value) (ls : List L) : Prop :=
  ∃ A c, v = .slice A ls.length c ∧ ls.length ≤ c ∧ c ≤ maxLen ∧
    (0 < ls.length → ∃ b f, A = some ⟨b, f, none⟩ ∧ b < B ∧ ∀ j (h : j < ls.length), w.cell? ⟨b, f + j, none⟩ = some (sv ls[j]))

theorem strs_below {B : Nat} {w w' : World} {v : Value} {ls : List L} (h : Strs B w v ls) (hb : Below B w w') : Strs B w' v ls := by
  obtain ⟨A, c, e, h1, h2, h3⟩ := h
  refine ⟨A, c, e, h1, h2, fun k => ?_⟩
  obtain ⟨b, f, e2, h4, h5⟩ := h3 k
  exact ⟨b, f, e2, h4, fun j hj => (hb.cell (p := ⟨b, f + j, none⟩) h4).trans (h5 j hj)⟩
theorem strs_more {B B' : Nat} {w : World} {v : Value} {ls : List L} (h : Strs B w v ls) (hb : B ≤ B') : Strs B' w v ls := by
  obtain ⟨A, c, e, h1, h2, h3⟩ := h
  refine ⟨A, c, e, h1, h2, fun k => ?_⟩
  obtain ⟨b, f, e2, h4, h5⟩ := h3 k
  exact ⟨b, f, e2, by omega, h5⟩
theorem strs_own {base T : Nat} {w : World} {v : Value} {ls : List L} (h : w.ownsRow base T 1 v ls.length (svs ls)) : Strs w.heap.size w v ls := by
  obtain ⟨h0, h⟩ := h
  rcases h with ⟨rfl, h1⟩ | ⟨g, cap, cur, rfl, h2, h3, h4, h5, h6, h7⟩
  · refine ⟨none, 0, by rw [h1], by omega, by unfold maxLen; omega, fun k => by omega⟩
  · refine ⟨_, cap, rfl, h4, h5, fun k => ⟨g, 0, rfl, (Array.getElem?_eq_some_iff.1 h3).1, fun j hj => ?_⟩⟩
    rw [Nat.zero_add]
    have : w.cell? ⟨g, j, none⟩ = cur[j]? := by simp [World.cell?, h3]
    rw [this]
    have e : (svs ls)[j]? = some (sv ls[j]) := by simp [svs, hj]
    rw [← h7, List.getElem?_take_of_lt (by omega), Array.getElem?_toList] at e
    exact e
/-- What a slice owns it owns on, while nothing below its block's bound turns. -/
theorem own_below {base e size n : Nat} {w w' : World} {v : Value} {xs : List Value} (h : w.ownsRow base e size v n xs) (hb : Below w.heap.size w w') : w'.ownsRow base e size v n xs :=
  h.kept (row := none) ⟨hb.os, hb.tape, hb.output, hb.size, fun k hk _ => hb.block k hk⟩ (by
    rcases h.2 with ⟨rfl, _⟩ | ⟨g, cap, cur, rfl, _⟩
    · exact .inl rfl
    · right; simp [Value.ownBlock])
theorem own_base {base base' e size n : Nat} {w : World} {v : Value} {xs : List Value} (h : w.ownsRow base e size v n xs) (hb : base' ≤ base) : w.ownsRow base' e size v n xs := by
  obtain ⟨h0, h⟩ := h
  refine ⟨h0, ?_⟩
  rcases h with h | ⟨g, cap, cur, h1, h2, h3⟩
  · exact .inl h
  · exact .inr ⟨g, cap, cur, h1, by omega, h3⟩

/-- What a call says that hands back a slice of the texts ls, in memory of its own. -/
def RetStrs (ls : List L) (w : World) (e : Ending) (w' : World) : Prop :=
  ∃ v, e = .returned v ∧ w'.ownsRow w.heap.size 9 1 v ls.length (svs ls) ∧ Below w.heap.size w w'

theorem own_drewN {base e size n : Nat} {w : World} {v : Value} {xs : List Value} (h : w.ownsRow base e size v n xs) (k : Nat) : (w.drewN k).ownsRow base e size v n xs := h
/-- Behind an append onto what the call itself made: all that lay below stays. -/
theorem below_append {B base e size n : Nat} {W0 W w1 : World} {v : Value} {xs : List Value} (hB : Below B W0 W) (hown : W.ownsRow base e size v n xs) (hbb : B ≤ base) (hs : B ≤ W.heap.size) (hg : W.grownBy w1 v.ownBlock) : Below B W0 w1 := by
  refine hB.grown hg hs fun j ej => ?_
  have := hown.lt j ej
  omega
theorem info_string : (Try.prog.info? 9).map (fun i => (i.zero, i.size, i.bytes)) = some (some (.string ⟨#[]⟩), 1, 16) := by kernel_rfl
end Go.Proofs.Ytodpajnpnobfmaa
