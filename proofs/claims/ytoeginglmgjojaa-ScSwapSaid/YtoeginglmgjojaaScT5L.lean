/-
  LAYER 10: the walk of ScSwap: mathematics.
-/
import Derived.Test.YtoeginglmgjojaaK02
import Derived.Test.YtoeginglmgjojaaScAt
import Derived.Deep.RegionHeld3
import Derived.Deep.DeepCutAuto
namespace Go.Proofs.Ytoeginglmgjojaa
open Go.RowKit
set_option linter.unusedVariables false
set_option linter.unusedSimpArgs false
open CodM (St Pg rightP hReg hLoc)
open BfM (Wr plc)
open ScM

theorem stM_eq (x : St) (m r : List Int) : ScM.stM x m r = if x.op = 3 ∨ x.op = 4 ∨ x.op = 5 then m.set x.loc.toNat (if x.op = 4 then x.n else nth r x.reg) else m := by
  by_cases o3 : x.op = 3
  · simp [ScM.stM, o3]
  by_cases o4 : x.op = 4
  · simp [ScM.stM, o4]
  by_cases o5 : x.op = 5
  · simp [ScM.stM, o5]
  · simp [ScM.stM, o3, o4, o5]
theorem nth_set {m : List Int} {i : Nat} {z k : Int} (h : i ≠ k.toNat) : nth (m.set i z) k = nth m k := by
  unfold nth
  simp [List.getD_eq_getElem?_getD, List.getElem?_set_ne h]
/-- Do two steps touch no location in common? -/
def Apart (x y : St) : Prop := 2 ≤ x.op → x.op ≤ 5 → 2 ≤ y.op → y.op ≤ 5 → x.loc.toNat ≠ y.loc.toNat
theorem stM_comm {x y : St} (h : Apart x y) (m r q : List Int) : ScM.stM y (ScM.stM x m r) q = ScM.stM x (ScM.stM y m q) r := by
  rw [stM_eq y, stM_eq x m, stM_eq x, stM_eq y m]
  by_cases hx : x.op = 3 ∨ x.op = 4 ∨ x.op = 5
  · by_cases hy : y.op = 3 ∨ y.op = 4 ∨ y.op = 5
    · rw [if_pos hx, if_pos hy, if_pos hy, if_pos hx]
      exact List.set_comm _ _ (h (by omega) (by omega) (by omega) (by omega))
    · rw [if_pos hx, if_neg hy, if_neg hy, if_pos hx]
  · by_cases hy : y.op = 3 ∨ y.op = 4 ∨ y.op = 5
    · rw [if_neg hx, if_pos hy, if_neg hx]
    · rw [if_neg hx, if_neg hy, if_neg hx]
theorem stT_apart {x y : St} (h : Apart x y) (m r : List Int) (g : Th) : stT y (ScM.stM x m r) g = stT y m g := by
  have e : stR y (ScM.stM x m r) g.regs = stR y m g.regs := by
    by_cases hy : y.op = 2 ∨ y.op = 5
    · have hn : nth (ScM.stM x m r) y.loc = nth m y.loc := by
        rw [stM_eq]
        by_cases hx : x.op = 3 ∨ x.op = 4 ∨ x.op = 5
        · rw [if_pos hx]; exact nth_set (h (by omega) (by omega) (by omega) (by omega))
        · rw [if_neg hx]
      unfold stR
      rw [hn]
    · have h2 : ¬ y.op = 2 := fun e => hy (Or.inl e)
      have h5 : ¬ y.op = 5 := fun e => hy (Or.inr e)
      unfold stR
      simp [h2, h5]
  unfold stT
  rw [e]
theorem atS_set {P : Pg} {m m' : List Int} {l : List Th} {k j : Nat} {a : Th} (hne : k ≠ j) : atS P ⟨m', l.set k a⟩ (j : Int) = atS P ⟨m, l⟩ (j : Int) := by
  unfold atS
  simp only [Int.toNat_natCast]
  rw [List.getElem?_set_ne hne]
theorem swap_steps {P : Pg} {s : Sta} {k j : Nat} {x y : St} (hx : atS P s (k : Int) = some x) (hy : atS P s (j : Int) = some y) (hne : k ≠ j) (h : Apart x y) :
    atS P (stp P s (k : Int)) (j : Int) = some y ∧ stp P (stp P s (k : Int)) (j : Int) = stp P (stp P s (j : Int)) (k : Int) := by
  obtain ⟨k', e1, a1, a2, a3, ax⟩ := atS_some hx
  obtain ⟨j', e2, b1, b2, b3, bx⟩ := atS_some hy
  obtain rfl : k = k' := by omega
  obtain rfl : j = j' := by omega
  have sk := stp_at a1 a2 a3
  have sj := stp_at b1 b2 b3
  rw [← ax] at sk
  rw [← bx] at sj
  have hyk : atS P (stp P s (k : Int)) (j : Int) = some y := by
    rw [sk, atS_set (m := s.mem) hne]; exact hy
  have hxj : atS P (stp P s (j : Int)) (k : Int) = some x := by
    rw [sj, atS_set (m := s.mem) (Ne.symm hne)]; exact hx
  refine ⟨hyk, ?_⟩
  have ek : ∀ (q : Sta) (t : Int) (z : St) (g : Th), atS P q t = some z → q.ths[t.toNat]? = some g → stp P q t = ⟨ScM.stM z q.mem g.regs, q.ths.set t.toNat (stT z q.mem g)⟩ := fun q t z g h1 h2 => by
    unfold stp; rw [h1, h2]
  have gj : (stp P s (k : Int)).ths[j]? = some s.ths[j] := by
    rw [sk]; show (s.ths.set k _)[j]? = _
    rw [List.getElem?_set_ne hne]; exact List.getElem?_eq_getElem b1
  have gk : (stp P s (j : Int)).ths[k]? = some s.ths[k] := by
    rw [sj]; show (s.ths.set j _)[k]? = _
    rw [List.getElem?_set_ne (Ne.symm hne)]; exact List.getElem?_eq_getElem a1
  rw [ek _ _ _ _ hyk gj, ek _ _ _ _ hxj gk, sk, sj]
  have h' : Apart y x := fun p1 p2 p3 p4 e => h p3 p4 p1 p2 e.symm
  simp only [Int.toNat_natCast]
  rw [stM_comm h, stT_apart h, stT_apart h', List.set_comm _ _ hne]
/-- What At hands back, as a step and whether there is one. -/
theorem atV_of (P : Pg) (s : Sta) (t : Int) : ∃ x q, atV P s t = .tuple #[stV x, .bool q] ∧ (q = true → atS P s t = some x) := by
  unfold atV
  cases h : atS P s t with
  | some x => exact ⟨x, true, rfl, fun _ => rfl⟩
  | none => exact ⟨⟨0, 0, 0, 0, 0⟩, false, rfl, fun e => by cases e⟩
end Go.Proofs.Ytoeginglmgjojaa
