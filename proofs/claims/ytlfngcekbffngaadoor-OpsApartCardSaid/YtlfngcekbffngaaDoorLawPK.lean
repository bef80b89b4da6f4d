/-
  OpsApart, as a walk over any world that holds the registers: it returns true: what it keeps.
-/
import Derived.Test.YtlfngcekbffngaaDoorLawL
import Derived.Deep.DeepCutAuto
import Derived.Deep.RegionHeld3
namespace Go.Proofs.YtlfngcekbffngaaDoor
open Go.RowKit
set_option linter.unusedVariables false
set_option linter.unusedSimpArgs false
open WordM (L)

theorem keep_ln {w W w' : World} {g1 g2 : Nat} {x0 x1 x2 x3 x4 y0 y1 y2 y3 y4 : Value} {p q : World → Prop} (hp : p W → p w') (hq : q W → q w') (hb : Below W.heap.size W w')
    (h : W.cell? ⟨g1, 0, none⟩ = some x0 ∧ W.cell? ⟨g1, 1, none⟩ = some x1 ∧ W.cell? ⟨g1, 2, none⟩ = some x2 ∧ W.cell? ⟨g1, 3, none⟩ = some x3 ∧ W.cell? ⟨g1, 4, none⟩ = some x4 ∧
      W.cell? ⟨g2, 0, none⟩ = some y0 ∧ W.cell? ⟨g2, 1, none⟩ = some y1 ∧ W.cell? ⟨g2, 2, none⟩ = some y2 ∧ W.cell? ⟨g2, 3, none⟩ = some y3 ∧ W.cell? ⟨g2, 4, none⟩ = some y4 ∧ p W ∧ q W ∧ Regs W ∧ Below w.heap.size w W) :
    w'.cell? ⟨g1, 0, none⟩ = some x0 ∧ w'.cell? ⟨g1, 1, none⟩ = some x1 ∧ w'.cell? ⟨g1, 2, none⟩ = some x2 ∧ w'.cell? ⟨g1, 3, none⟩ = some x3 ∧ w'.cell? ⟨g1, 4, none⟩ = some x4 ∧
      w'.cell? ⟨g2, 0, none⟩ = some y0 ∧ w'.cell? ⟨g2, 1, none⟩ = some y1 ∧ w'.cell? ⟨g2, 2, none⟩ = some y2 ∧ w'.cell? ⟨g2, 3, none⟩ = some y3 ∧ w'.cell? ⟨g2, 4, none⟩ = some y4 ∧ p w' ∧ q w' ∧ Regs w' ∧ Below w.heap.size w w' := by
  obtain ⟨h0, h1, h2, h3, h4, k0, k1, k2, k3, k4, a, c, hr, hB⟩ := h
  exact ⟨kc hb h0, kc hb h1, kc hb h2, kc hb h3, kc hb h4, kc hb k0, kc hb k1, kc hb k2, kc hb k3, kc hb k4, hp a, hq c, hr.below hb, chain hB hb⟩
theorem regs_ln {w W : World} {a0 a1 a2 a3 a4 a5 a6 a7 a8 a9 p q : Prop} (h : a0 ∧ a1 ∧ a2 ∧ a3 ∧ a4 ∧ a5 ∧ a6 ∧ a7 ∧ a8 ∧ a9 ∧ p ∧ q ∧ Regs W ∧ Below w.heap.size w W) : Regs W := h.2.2.2.2.2.2.2.2.2.2.2.2.1
theorem keep_at {w W w' : World} {g1 g2 : Nat} {x0 x1 x2 y0 y1 y2 : Value} (hb : Below W.heap.size W w')
    (h : W.cell? ⟨g1, 0, none⟩ = some x0 ∧ W.cell? ⟨g1, 1, none⟩ = some x1 ∧ W.cell? ⟨g1, 2, none⟩ = some x2 ∧ W.cell? ⟨g2, 0, none⟩ = some y0 ∧ W.cell? ⟨g2, 1, none⟩ = some y1 ∧ W.cell? ⟨g2, 2, none⟩ = some y2 ∧ Regs W ∧ Below w.heap.size w W) :
    w'.cell? ⟨g1, 0, none⟩ = some x0 ∧ w'.cell? ⟨g1, 1, none⟩ = some x1 ∧ w'.cell? ⟨g1, 2, none⟩ = some x2 ∧ w'.cell? ⟨g2, 0, none⟩ = some y0 ∧ w'.cell? ⟨g2, 1, none⟩ = some y1 ∧ w'.cell? ⟨g2, 2, none⟩ = some y2 ∧ Regs w' ∧ Below w.heap.size w w' := by
  obtain ⟨h0, h1, h2, k0, k1, k2, hr, hB⟩ := h
  exact ⟨kc hb h0, kc hb h1, kc hb h2, kc hb k0, kc hb k1, kc hb k2, hr.below hb, chain hB hb⟩
theorem regs_at {w W : World} {a0 a1 a2 a3 a4 a5 : Prop} (h : a0 ∧ a1 ∧ a2 ∧ a3 ∧ a4 ∧ a5 ∧ Regs W ∧ Below w.heap.size w W) : Regs W := h.2.2.2.2.2.2.1
theorem words_differ {op n op2 n2 : Int} {r o b r2 o2 b2 : L} (hn : NumM.inR n) (hn2 : NumM.inR n2) (h1 : OpsM.right op r o b n = true) (h2 : OpsM.right op2 r2 o2 b2 n2 = true)
    (hne : ¬ (op = op2 ∧ r = r2 ∧ o = o2 ∧ b = b2 ∧ n = n2)) : sameB (OpsM.words op r o b n) (OpsM.words op2 r2 o2 b2 n2) = false := by
  refine decide_eq_false fun e => hne ?_
  have := OpsM.words_inj (l := ⟨op, r, o, b, n⟩) (m := ⟨op2, r2, o2, b2, n2⟩) h1 h2 hn hn2 e
  injection this with a1 a2 a3 a4 a5
  exact ⟨a1, a2, a3, a4, a5⟩
theorem aword_differ {t m t2 m2 : Int} {nm nm2 : L} (hm : NumM.inR m) (hm2 : NumM.inR m2) (h1 : AtomM.asked t nm = true) (h2 : AtomM.asked t2 nm2 = true)
    (hne : ¬ (t = t2 ∧ nm = nm2 ∧ m = m2)) : AtomM.word t nm m ≠ AtomM.word t2 nm2 m2 := fun e => hne (by
  have := AtomM.word_inj (a := ⟨t, nm, m⟩) (b := ⟨t2, nm2, m2⟩) h1 h2 hm hm2 e
  injection this with a1 a2 a3
  exact ⟨a1, a2, a3⟩)
theorem ba_ne {a b : ByteArray} (h : a ≠ b) : a.data.toList ≠ b.data.toList := fun e => h (by apply ByteArray.ext; exact Array.toList_inj.1 e)
end Go.Proofs.YtlfngcekbffngaaDoor
