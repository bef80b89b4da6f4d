/-
  tso.able: the picks that can be done, one by one, for every loop body.
-/
import Derived.RangeFuncNested
import Derived.RangeFuncBound
import Derived.RangeFuncCalls
import Derived.RangeFuncLeaves
import Derived.RangeFuncBox
import Derived.Shelf.Abstract
import Derived.WalkKit
import Derived.OwnWalkIn
import Derived.TacticsInMore
import Derived.LoopNIn
import Derived.LoopIn
import Derived.Maps.OwnIn
import Derived.Test.YtbgjamoflbdhoaaK04
import Derived.Test.YtbgjamoflbdhoaaK17
import Derived.Test.YtbgjamoflbdhoaaK08
namespace Go.Proofs.Ytbgjamoflbdhoaa
open Go.RowKit Go.Shelf
set_option linter.unusedVariables false
set_option linter.unusedSimpArgs false
attribute [local go_sem] Oper.semAt_some
open CodM (St Pg rightP)
open ScM

/-- What a round keeps: whatever lay below n₀, and the two blocks, where they hold cells. -/
def KpD (n₀ g1 g2 : Nat) (W W' : World) : Prop := KpS n₀ g1 W W' ∧ KpS n₀ g2 W W'
theorem KpD.t {n₀ g1 g2 : Nat} {A B C : World} (h : KpD n₀ g1 g2 A B) (k : KpD n₀ g1 g2 B C) : KpD n₀ g1 g2 A C := ⟨h.1.t k.1, h.2.t k.2⟩
theorem KpD.b {n₀ g1 g2 : Nat} {w : World} (hn : n₀ ≤ w.heap.size) (W : World) (l : Nat) (o o' : Obj) (hl : w.heap.size ≤ l) (h : W.heap[l]? = some o) (hc : o.isCells = false) (hw : o.isWalk = false) : KpD n₀ g1 g2 W (W.putObj l o') :=
  ⟨KpS.b hn W l o o' hl h hc hw, KpS.b hn W l o o' hl h hc hw⟩
theorem KpD.grown {n₀ g1 g2 : Nat} {W W' : World} {row : Option Nat} (hn : n₀ ≤ W.heap.size) (hg : W.grownBy W' row) (hr : ∀ r, row = some r → n₀ ≤ r ∧ r ≠ g1 ∧ r ≠ g2) : KpD n₀ g1 g2 W W' :=
  ⟨KpS.grown hn hg (fun r e => ⟨(hr r e).1, (hr r e).2.1⟩), KpS.grown hn hg (fun r e => ⟨(hr r e).1, (hr r e).2.2⟩)⟩
theorem KpD.refl {n₀ g1 g2 : Nat} (W : World) : KpD n₀ g1 g2 W W := ⟨⟨Below.refl _ _, fun _ h _ => h⟩, ⟨Below.refl _ _, fun _ h _ => h⟩⟩
theorem KpS.box {n₀ g : Nat} {W W' : World} {T : TypeId} {cs : Array Value} (h : KpS n₀ g W W') (hb : BoxC W g T cs) : BoxC W' g T cs := h.2 _ hb rfl
theorem own_none {w : World} {b T s n : Nat} {v : Value} {xs : List Value} (h : w.ownsRow b T s v n xs) {r : Nat} (e : v.ownBlock = some r) : b ≤ r ∧ ∃ cur, w.heap[r]? = some (.cells cur T (0, 0)) := by
  rcases h.2 with ⟨rfl, _⟩ | ⟨g, cap, cur, rfl, hbg, hg, _⟩
  · cases e
  · injection e with e
    have e : g = r := e
    subst e
    exact ⟨hbg, cur, hg⟩
theorem cell_two_new (W : World) (a b : Value) (T : TypeId) : ∀ j u, [a, b][j]? = some u → (W.alloc (.cells #[a, b] T)).cell? ((⟨W.heap.size, 0, none⟩ : Addr).add j) = some u := fun j u h => by
  have hb := BoxC.new W T #[a, b]
  match j, h with
  | 0, h => exact hb.cell 0 _ (by simpa using h)
  | 1, h => exact hb.cell 1 _ (by simpa using h)
  | j + 2, h => simp at h
end Go.Proofs.Ytbgjamoflbdhoaa
