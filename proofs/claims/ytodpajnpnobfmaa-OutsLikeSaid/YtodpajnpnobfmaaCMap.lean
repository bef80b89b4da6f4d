/-
  MAPS THAT COUNT NAMES: what it says that a map of the call's own holds, of each text, a number; valid.labels.
-/
import Derived.Test.YtodpajnpnobfmaaLns
import Derived.Maps.Own
import Derived.Maps.OwnOps
import Derived.Maps.OwnSet
import Derived.Maps.Views
namespace Go.Proofs.Ytodpajnpnobfmaa
open Go.RowKit Go.WideMaps Go.Maps
set_option linter.unusedVariables false
set_option linter.unusedSimpArgs false
open WordM (L)

theorem strKey : Keyed Try.prog 9 := string_keyed Try.underlying9
theorem zeroInt (w : World) : (zeroValue 3).run Try.prog w = .ok (.int .i64 0) w := by kernel_rfl
abbrev MD := DataW Unit
/-- Block b is a map of at most n entries, whose number at each text s is f s. -/
def CMap (w : World) (b n : Nat) (f : L → Int) (D : MD) : Prop :=
  w.ownsMap Try.prog 9 (plainElem Try.prog 3) b n D ∧ ∀ s : L, D.atKey (.string s) (.lit (.int .i64 0)) = .lit (.int .i64 (f s))
theorem CMap.made (w : World) : CMap (w.alloc (.map #[] 0)) w.heap.size 0 (fun _ => 0) (.map []) := ⟨World.ownsMap_made _ _ _ _, fun s => rfl⟩
theorem CMap.below {w w' : World} {b n : Nat} {f : L → Int} {D : MD} (h : CMap w b n f D) (hb : Below w.heap.size w w') : CMap w' b n f D := by
  obtain ⟨⟨es, clock, he, h1, h2, h3⟩, h4⟩ := h
  have hlt : b < w.heap.size := (Array.getElem?_eq_some_iff.1 he).1
  exact ⟨⟨es, clock, (hb.block b hlt).trans he, h1, h2, h3⟩, h4⟩
theorem CMap.lt {w : World} {b n : Nat} {f : L → Int} {D : MD} (h : CMap w b n f D) : b < w.heap.size := by
  obtain ⟨⟨es, clock, he, _⟩, _⟩ := h
  exact (Array.getElem?_eq_some_iff.1 he).1
theorem CMap.more {w : World} {b n m : Nat} {f g : L → Int} {D : MD} (h : CMap w b n f D) (hnm : n ≤ m) (hfg : ∀ s, f s = g s) : CMap w b m g D := by
  obtain ⟨⟨es, clock, he, h1, h2, h3⟩, h4⟩ := h
  exact ⟨⟨es, clock, he, h1, Nat.le_trans h2 hnm, h3⟩, fun s => by rw [h4 s, hfg s]⟩
theorem CMap.val {w : World} {b n : Nat} {f : L → Int} {D : MD} (h : CMap w b n f D) {s : L} {c : Int} (hat : D.atKey (.string s) (.lit (.int .i64 0)) = .lit (.int .i64 c)) : c = f s := by
  have := hat.symm.trans (h.2 s)
  injection this with e
  injection e
theorem CMap.put {w w1 : World} {b n m : Nat} {f : L → Int} {D : MD} {s : L} {x : Int} (h : CMap w b n f D) (hown : w1.ownsMap Try.prog 9 (plainElem Try.prog 3) b m (D.put (.string s) (.lit (.int .i64 x)))) :
    CMap w1 b m (fun t => if t = s then x else f t) (D.put (.string s) (.lit (.int .i64 x))) := by
  refine ⟨hown, fun t => ?_⟩
  show (D.put (.string s) (.lit (.int .i64 x))).atKey (.string t) (.lit (.int .i64 0)) = .lit (.int .i64 (if t = s then x else f t))
  by_cases e : t = s
  · subst e
    rw [if_pos rfl]
    exact atKey_put_same (h.1.isMap) (by trivial) _ _
  · rw [if_neg e]
    exact (atKey_put_other (fun h => e (by injection h)) _ _).trans (h.2 t)

/-- How often a label stands in some lines. -/
def lcnt (ls : List OpsM.Ln) (s : L) : Nat := (ls.filter (fun l => decide (l.op = 11) && decide (l.label = s))).length
theorem lcnt_take (ls : List OpsM.Ln) (k : Nat) (h : k < ls.length) (s : L) : lcnt (ls.take (k + 1)) s = lcnt (ls.take k) s + if ls[k].op = 11 ∧ ls[k].label = s then 1 else 0 := by
  unfold lcnt
  rw [List.take_succ_eq_append_getElem h, List.filter_append, List.length_append]
  by_cases c : ls[k].op = 11 ∧ ls[k].label = s
  · rw [if_pos c, List.filter_cons_of_pos (by simp [c.1, c.2])]; rfl
  · rw [if_neg c, List.filter_cons_of_neg (by simpa using c)]; rfl
theorem lcnt_le (ls : List OpsM.Ln) (s : L) : lcnt ls s ≤ ls.length := List.length_filter_le _ _
def LbRel (ls : List OpsM.Ln) (w : World) (i : Value) (wr : World) : Prop :=
  ∃ (k : Nat) (D : MD), k ≤ ls.length ∧ i = .int .i64 k ∧ CMap wr w.heap.size k (fun s => (lcnt (ls.take k) s : Int)) D ∧ Below w.heap.size w wr
end Go.Proofs.Ytodpajnpnobfmaa
