/-
  STATES OF THE CALL's OWN, 2: how they grow, and stay behind stores into boxes; what functions of states hand back.
-/
import Derived.Test.YtodpajnpnobfmaaScL
namespace Go.Proofs.Ytodpajnpnobfmaa
open Go.RowKit
set_option linter.unusedVariables false
set_option linter.unusedSimpArgs false
open BfM (Wr plc)

theorem grown_set (W : World) (b i : Nat) (v : Value) : W.grownBy (W.setCell ⟨b, i, none⟩ v) (some b) :=
  ⟨rfl, rfl, rfl, by simp, fun k _ hk => heap_setCell_other W ⟨b, i, none⟩ k v (fun e => hk (by rw [e]))⟩
/-- Block g is a box of these cells. -/
def BoxC (W : World) (g : Nat) (T : TypeId) (cs : Array Value) : Prop := W.heap[g]? = some (.cells cs T (0, 0))
theorem BoxC.lt {W : World} {g : Nat} {T : TypeId} {cs : Array Value} (h : BoxC W g T cs) : g < W.heap.size := (Array.getElem?_eq_some_iff.1 h).1
theorem BoxC.cell {W : World} {g : Nat} {T : TypeId} {cs : Array Value} (h : BoxC W g T cs) (i : Nat) (v : Value) (hv : cs[i]? = some v) : W.cell? ⟨g, i, none⟩ = some v := by simp [World.cell?, show W.heap[g]? = _ from h, hv]
theorem BoxC.frozen {W : World} {g : Nat} {T : TypeId} {cs : Array Value} (h : BoxC W g T cs) (i : Nat) : W.frozen? ⟨g, i, none⟩ = false := by simp [World.frozen?, show W.heap[g]? = _ from h]
theorem BoxC.below {W W' : World} {B g : Nat} {T : TypeId} {cs : Array Value} (h : BoxC W g T cs) (hb : Below B W W') (hg : g < B) : BoxC W' g T cs := (hb.block g hg).trans h
theorem BoxC.new (W : World) (T : TypeId) (cs : Array Value) : BoxC (W.alloc (.cells cs T)) W.heap.size T cs := World.alloc_heap_new W _
theorem BoxC.alloc {W : World} {g : Nat} {T : TypeId} {cs : Array Value} (h : BoxC W g T cs) (o : Obj) : BoxC (W.alloc o) g T cs := h.below (below_al (Below.refl _ W) o) h.lt
theorem BoxC.set {W : World} {g : Nat} {T : TypeId} {cs : Array Value} (h : BoxC W g T cs) (i : Nat) (v : Value) : BoxC (W.setCell ⟨g, i, none⟩ v) g T (cs.setIfInBounds i v) := heap_setCell_same W g i cs T v h
theorem BoxC.other {W : World} {g b : Nat} {T : TypeId} {cs : Array Value} (h : BoxC W g T cs) (hne : g ≠ b) (i : Nat) (v : Value) : BoxC (W.setCell ⟨b, i, none⟩ v) g T cs :=
  ((grown_set W b i v).block g h.lt (fun e => by injection e with e; exact hne e)).trans h
/-- A row that grows is no box. -/
theorem BoxC.grown {W W' : World} {g b s n : Nat} {T T2 : TypeId} {cs : Array Value} {v : Value} {xs : List Value} (h : BoxC W g T cs) (hT : T ≠ T2) (ho : W.ownsRow b T2 s v n xs) (hg : W.grownBy W' v.ownBlock) : BoxC W' g T cs := by
  refine (hg.block g h.lt (fun e => ?_)).trans h
  replace e := e.symm
  rcases ho.2 with ⟨rfl, _⟩ | ⟨g1, c1, cur1, rfl, _, hh1, _⟩
  · cases e
  · injection e with e
    have e : g1 = g := e
    subst e
    rw [show W.heap[g1]? = _ from h] at hh1; injection hh1 with hh1; injection hh1 with _ hh1
    exact hT hh1
theorem own_apart {W : World} {b1 b2 s1 s2 n m : Nat} {T1 T2 : TypeId} {u v : Value} {xs ys : List Value} (hT : T1 ≠ T2) (h1 : W.ownsRow b1 T1 s1 u n xs) (h2 : W.ownsRow b2 T2 s2 v m ys) : u.ownBlock = none ∨ u.ownBlock ≠ v.ownBlock := by
  rcases h1.2 with ⟨rfl, _⟩ | ⟨g, cap, cur, rfl, hb, hg, _⟩
  · exact .inl rfl
  rcases h2.2 with ⟨rfl, _⟩ | ⟨g2, cap2, cur2, rfl, hb2, hg2, _⟩
  · right; simp [Value.ownBlock]
  right
  intro e
  have e : g = g2 := by simpa [Value.ownBlock] using e
  subst e
  rw [hg] at hg2
  injection hg2 with hg2
  injection hg2 with _ h _
  exact hT h
theorem own_grown {W W' : World} {b1 b2 s1 s2 n m : Nat} {T1 T2 : TypeId} {u v : Value} {xs ys : List Value} (hT : T1 ≠ T2) (h1 : W.ownsRow b1 T1 s1 u n xs) (h2 : W.ownsRow b2 T2 s2 v m ys) (hg : W.grownBy W' v.ownBlock) : W'.ownsRow b1 T1 s1 u n xs :=
  h1.kept hg (own_apart hT h1 h2)
end Go.Proofs.Ytodpajnpnobfmaa
