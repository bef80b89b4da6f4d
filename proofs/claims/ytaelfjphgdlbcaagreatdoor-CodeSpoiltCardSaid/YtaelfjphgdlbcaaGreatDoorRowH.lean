/-
  WHAT THE THREE LISTED VARIABLES GIVE THE WALKS (the table of registers, that of what kinds of steps have, the type of errors), and that the door's own heap holds them.
-/
import Derived.Test.YtaelfjphgdlbcaaGreatDoorRowLE
import Derived.Test.YtaelfjphgdlbcaaGreatDoorCd1
namespace Go.Proofs.YtaelfjphgdlbcaaGreatDoor
open Go.ChangeShapes Go.WideShapes Go.ChangeAt Go.WideMaps Go.WideElems Go.RowKit
set_option linter.unusedVariables false
set_option linter.unusedSimpArgs false
set_option maxRecDepth 100000

theorem laidMet_head {P : Program} {x : String × DataW Unit} {r : List (String × DataW Unit)} {W : World} (h : laidMet P (x :: r) W) : laidMet P [x] W := by
  obtain ⟨ps, ⟨g, t, cs, fuel, p, q, h1, h2, h3, h4, hr, rfl⟩, hn, hc⟩ := h
  refine ⟨_, ⟨g, t, cs, fuel, p, [], h1, h2, h3, h4, rfl, rfl⟩, ?_, fun b off hm => hc b off ?_⟩
  · rw [List.append_nil]; exact (List.nodup_append.1 hn).1
  · rw [List.append_nil] at hm; exact List.mem_append_left _ hm
theorem laidMet_tail {P : Program} {x : String × DataW Unit} {r : List (String × DataW Unit)} {W : World} (h : laidMet P (x :: r) W) : laidMet P r W := by
  obtain ⟨ps, ⟨g, t, cs, fuel, p, q, h1, h2, h3, h4, hr, rfl⟩, hn, hc⟩ := h
  exact ⟨q, hr, (List.nodup_append.1 hn).2.1, fun b off hm => hc b off (List.mem_append_right _ hm)⟩
theorem bool_cell {H : Type} {enc : TypeId × Value → H} {P : Program} {w : World} {base : Nat} {spare : Nat → Bool} {held : Bool} {fuel : Nat} {t : TypeId} {c : Value} {x : DataW H × List MemPlace} {b : Bool} (ht : P.underlying t = some .bool) (h : DataW.trod enc P w base spare held fuel t [c] = some x) (hx : x.1 = .lit (.bool b)) : c = .bool b := by
  obtain ⟨b', e, rfl⟩ := DataW.trod_bool ht h
  injection e with e _
  injection hx with hx
  injection hx with hx
  rw [e, hx]
theorem part_cells {H : Type} {enc : TypeId × Value → H} {w : World} {base : Nat} {spare : Nat → Bool} {held : Bool} {fuel : Nat} {l : List Value} {x : DataW H × List MemPlace} {a b c d : Bool}
    (h : DataW.trod enc Tryz.prog w base spare held fuel 86 l = some x) (hx : x.1 = .agg [.lit (.bool a), .lit (.bool b), .lit (.bool c), .lit (.bool d)]) :
    l[0]? = some (.bool a) ∧ l[1]? = some (.bool b) ∧ l[2]? = some (.bool c) ∧ l[3]? = some (.bool d) := by
  obtain ⟨xs, n, rfl, rfl, hl, hxl, hg⟩ := DataW.trod_struct Tryz.underlying86 h
  have c4 : Tryz.prog.cellsOf 86 = 4 := by kernel_rfl
  have c1 : Tryz.prog.cellsOf 4 = 1 := by kernel_rfl
  rw [c4] at hl
  injection hx with hx
  have key : ∀ (i : Nat) (hi : i < 4) (bb : Bool), DataW.trod enc Tryz.prog w base spare held n 4 ((l.drop i).take (Tryz.prog.cellsOf 4)) = xs[i]? → (xs.map (·.1))[i]? = some (.lit (.bool bb)) → l[i]? = some (.bool bb) := by
    intro i hi bb h1 e
    have h2 : (l.drop i).take 1 = [l[i]] := by
      rw [List.drop_eq_getElem_cons (by omega)]; rfl
    rw [c1, h2] at h1
    rw [List.getElem?_map] at e
    cases e2 : xs[i]? with
    | none => rw [e2] at e; cases e
    | some y =>
      rw [e2] at e h1
      have := bool_cell Tryz.underlying4 h1 (Option.some.inj e)
      rw [List.getElem?_eq_getElem (by omega), this]
  rw [hx] at key
  exact ⟨key 0 (by omega) a (hg 0 _ rfl) rfl, key 1 (by omega) b (hg 1 _ rfl) rfl, key 2 (by omega) c (hg 2 _ rfl) rfl, key 3 (by omega) d (hg 3 _ rfl) rfl⟩
theorem gParts : Tryz.prog.globalNamed "fencepost/code.parts" = some 0 := by kernel_rfl
theorem tParts : (Tryz.prog.globals[0]?).map (·.type) = some 87 := by kernel_rfl
theorem of_parts {W : World} (h : laidMet Tryz.prog [("fencepost/code.parts", Rows.laid_fencepost_code_parts)] W) : PartsG W := by
  obtain ⟨ps, ⟨g0, t0, cs0, f0, p0, q0, hg0, ht0, hv0, hd0, _⟩, _, _⟩ := h
  obtain rfl := Option.some.inj (gParts.symm.trans hg0)
  obtain rfl := Option.some.inj (tParts.symm.trans ht0)
  obtain ⟨xs, m1, rfl, hx1, hlen, hn4, hel⟩ := DataW.trod_array Tryz.underlying87 hd0
  have c4 : Tryz.prog.cellsOf 86 = 4 := by kernel_rfl
  have c44 : Tryz.prog.cellsOf 87 = 44 := by kernel_rfl
  rw [c44] at hlen
  simp only [c4] at hel
  injection hx1 with hx1 _
  injection hx1 with hx1
  have hk := fun j => World.var?_cell hg0 hv0 j
  have key : ∀ (o : Nat) (ho : o < 11) (a b c d : Bool), (xs.map (·.1))[o]? = some (.agg [.lit (.bool a), .lit (.bool b), .lit (.bool c), .lit (.bool d)]) →
      W.cell? ⟨0, o * 4, none⟩ = some (.bool a) ∧ W.cell? ⟨0, o * 4 + 1, none⟩ = some (.bool b) ∧ W.cell? ⟨0, o * 4 + 2, none⟩ = some (.bool c) ∧ W.cell? ⟨0, o * 4 + 3, none⟩ = some (.bool d) := by
    intro o ho a b c d e
    rw [List.getElem?_map] at e
    cases e2 : xs[o]? with
    | none => rw [e2] at e; cases e
    | some y =>
      rw [e2] at e
      obtain ⟨h0, h1, h2, h3⟩ := part_cells ((hel o ho).trans e2) (Option.some.inj e)
      rw [List.getElem?_take_of_lt (by omega), List.getElem?_drop, Array.getElem?_toList] at h0 h1 h2 h3
      exact ⟨(hk _).trans h0, (hk _).trans h1, (hk _).trans h2, (hk _).trans h3⟩
  rw [← hx1] at key
  intro o ho
  match o, ho with
  | 0, h => exact key 0 h _ _ _ _ rfl
  | 1, h => exact key 1 h _ _ _ _ rfl
  | 2, h => exact key 2 h _ _ _ _ rfl
  | 3, h => exact key 3 h _ _ _ _ rfl
  | 4, h => exact key 4 h _ _ _ _ rfl
  | 5, h => exact key 5 h _ _ _ _ rfl
  | 6, h => exact key 6 h _ _ _ _ rfl
  | 7, h => exact key 7 h _ _ _ _ rfl
  | 8, h => exact key 8 h _ _ _ _ rfl
  | 9, h => exact key 9 h _ _ _ _ rfl
  | 10, h => exact key 10 h _ _ _ _ rfl
def laidThree : List (String × DataW Unit) := [("errors.errorType", Rows.laid_errors_errorType), ("fencepost/word.regs", Rows.laid_fencepost_word_regs), ("fencepost/code.parts", Rows.laid_fencepost_code_parts)]
theorem three_of {W : World} (h : laidMetH Tryz.prog laidThree W) : Regs W ∧ EA.ErrG W ∧ PartsG W := by
  have h' : laidMet Tryz.prog (("fencepost/word.regs", Rows.laid_fencepost_word_regs) :: [("fencepost/code.parts", Rows.laid_fencepost_code_parts)]) W ∧ handlesMet Tryz.prog [("errors.errorType", Rows.laid_errors_errorType)] W := h
  have h2 := two_of (show laidMetH Tryz.prog laidTwo W from ⟨laidMet_head h'.1, h'.2⟩)
  exact ⟨h2.1, h2.2, of_parts (laidMet_tail h'.1)⟩
theorem door_three (os : Os) (args : Array Value) : laidMetH Tryz.prog laidThree ((World.doorLaid Tryz.prog 400 os).forCall (fun _ _ => 0) ⟨#[], args, []⟩).memory :=
  laidMetH_of_parts3 (fuel := 8) (laidMet_of_run' 8 (by kernel_rfl) (by kernel_rfl)) (by kernel_rfl) (by kernel_rfl)
end Go.Proofs.YtaelfjphgdlbcaaGreatDoor
