/-
  THE DOCUMENT's Get, of two words, over any world.
-/
import Derived.Test.YtlfngcekbffngaaDoorRefJ
import Derived.Test.YtlfngcekbffngaaDoorNumR
import Derived.Deep.RegionHeld3
namespace Go.Proofs.YtlfngcekbffngaaDoor
open Go.RowKit
set_option linter.unusedVariables false
set_option linter.unusedSimpArgs false
open WordM (L)

set_option maxHeartbeats 2000000 in
set_option maxRecDepth 100000 in
theorem rget3_2 (g f c : Nat) (b : ByteArray) (w : World) (ls : List L) (cs : List OpsM.Ln) (res : OpsM.Ln × Bool) (hg : g < w.heap.size) (hc : 2 ≤ c) (h1 : w.cell? ⟨g, f + 1, none⟩ = some (.string b))
    (HA : GFacts w (.slice (some ⟨g, f, none⟩) 2 c) ls cs res) (hE : cs = [⟨8, [], [], b.data.toList, 0⟩, ⟨9, [], [], b.data.toList, 0⟩, ⟨10, [], [], b.data.toList, 0⟩]) :
    Calls Tryd.prog 13 #[.slice (some ⟨g, f, none⟩) 2 c] w fun e w' => e = .returned (.tuple #[lnw res.1, .bool res.2]) ∧ Below w.heap.size w w' := by
  have HF := Lib.hid HA
  have HE := Lib.hid hE
  have hlen : cs.length = 3 := by rw [hE]; rfl
  have HLen := Lib.hid hlen
  clear HA hE hlen
  go_enter Tryd.func13, Tryd.ntmps13
  go_wp2
  go_region_held3 (fun w' => w'.cell? ⟨g, f + 1, none⟩ = some (.string b)) (first | (with_reducible assumption) | (exact cell_drew (cell_drew (cell_alloc (cell_alloc (cell_alloc h1))))) | (exact cell_drew (cell_alloc (cell_alloc h1))) | (exact cell_drew (cell_alloc h1)) | go_keep) (fail)
  all_goals
    go_wp2
    go_loopw [9] (fun i wr => GRel ls cs w (w.heap.size + 2) i wr) (fun i _ => 3 - (intOf i).toNat)
    case atStart =>
      refine grel_start (below_drewN (((Below.refl _ _).alloc (by simp) _).alloc (by simp) _) 2) ?_
      rw [HE.out]
      exact cands_drew (cands_drew (cands_at (by simp) rfl))
    case round =>
      obtain ⟨k, hk, rfl, hall, hB, hC, h0⟩ := hrel
      have HA := Lib.hid hall
      clear hall
      have hl3 := HLen.out
      by_cases hlt : k < cs.length
      · obtain ⟨e0, e1, e2, e3, e4⟩ := hC k hlt
        have hl := HF.out.L cs[k] (List.getElem_mem hlt)
        have hra := HF.out.R cs[k] (List.getElem_mem hlt)
        have hRR := fun W => rrightw_any cs[k] W hl.1 hl.2.1 hl.2.2
        have hWW := fun W => rwordsw_any cs[k] W hra hl.1 hl.2.1 hl.2.2
        have hok := Lib.hid (show OpsM.okL ls cs[k] = (OpsM.rightL cs[k] && decide (OpsM.wordsL cs[k] = ls)) from rfl)
        have hgk := cands_lt hC k hlt
        unfold lnw lnv at hRR hWW
        have hk3 : k < 3 := by omega
        have HRR := Lib.hid hRR
        have HWW := Lib.hid hWW
        clear hRR hWW hl3 hl
        cases hrb : OpsM.rightL cs[k]
        · rw [hrb] at HRR hok
          have hno : Hid (OpsM.okL ls cs[k] = false) := Lib.hid (by rw [hok.out]; rfl)
          clear hok hrb HWW
          go_wp2_with fail
          refine (HRR.out _).mono ?_
          rintro e w1 ⟨rfl, hb⟩
          have HN := Lib.hid (grel_next hlt HA.out hB hC h0 hno.out hb)
          go_wp2
          go_roundw
          case rel => exact HN.out
          case measure => simp [intOf]; omega
        · rw [hrb] at HRR hok
          clear hrb
          generalize OpsM.wordsL cs[k] = ws at *
          have HSt := Lib.hid HF.out.S
          go_wp2_with fail
          refine (HRR.out _).mono ?_
          rintro e w1 ⟨rfl, hb⟩
          obtain ⟨d0, d1, d2, d3, d4⟩ := cands_below hC hb k hlt
          go_wp2_with fail
          refine (HWW.out _).mono ?_
          rintro e w2 ⟨u, rfl, how, hb2⟩
          have S1 := Lib.hid (strs_own how)
          have hb12 := chain hb hb2
          have S2 := Lib.hid (strs_more (strs_below HSt.out (chain hB hb12)) (chain hB hb12).size)
          clear how
          go_wp2_with fail
          refine (same_any _ _ _ _ _ _ S1.out S2.out).mono ?_
          rintro e w3 ⟨rfl, n, rfl⟩
          have hb13 := below_drewN hb12 n
          by_cases hq : ws = ls
          · have hq2 : sameB ws ls = true := decide_eq_true hq
            have hy := Lib.hid (HF.out.F k hlt HA.out (by rw [hok.out, decide_eq_true hq]; rfl))
            clear hq hok
            obtain ⟨f0, f1, f2, f3, f4⟩ := cands_below hC hb13 k hlt
            obtain ⟨c0, g0⟩ := box0_below h0 hb13 0 _ rfl
            obtain ⟨c1, g1⟩ := box0_below h0 hb13 1 _ rfl
            obtain ⟨c2, g2⟩ := box0_below h0 hb13 2 _ rfl
            obtain ⟨c3, g3⟩ := box0_below h0 hb13 3 _ rfl
            obtain ⟨c4, g4⟩ := box0_below h0 hb13 4 _ rfl
            have hz : w.heap.size < w2.heap.size := lt_of_cell (W := w2) c0
            go_wp2
            exact bodyPost_ret (v := .tuple #[lnw cs[k], .bool true]) (by simp [results, Tryd.results13, go_sem, lnw, lnv, c0, c1, c2, c3, c4, hz]) rfl ⟨by rw [hy.out], (((((chain hB hb13).setCell (Nat.le_refl _) _).setCell (Nat.le_refl _) _).setCell (Nat.le_refl _) _).setCell (Nat.le_refl _) _).setCell (Nat.le_refl _) _⟩
          · have hq2 : sameB ws ls = false := decide_eq_false hq
            have hno := Lib.hid (show OpsM.okL ls cs[k] = false by rw [hok.out, decide_eq_false hq]; rfl)
            clear hq hok
            have HN := Lib.hid (grel_next hlt HA.out hB hC h0 hno.out hb13)
            go_wp2
            go_roundw
            case rel => exact HN.out
            case measure => simp [intOf]; omega
      · obtain rfl : cs.length = k := by omega
        have hy := Lib.hid (HF.out.M HA.out)
        obtain ⟨c0, g0⟩ := h0 0 _ rfl
        obtain ⟨c1, g1⟩ := h0 1 _ rfl
        obtain ⟨c2, g2⟩ := h0 2 _ rfl
        obtain ⟨c3, g3⟩ := h0 3 _ rfl
        obtain ⟨c4, g4⟩ := h0 4 _ rfl
        have hz : w.heap.size < wr.heap.size := lt_of_cell c0
        go_wp2
        exact bodyPost_ret (v := .tuple #[lnw OpsM.zero, .bool false]) (by simp [results, Tryd.results13, go_sem, lnw, lnv, OpsM.zero, c0, c1, c2, c3, c4, hz]) rfl ⟨by rw [hy.out], ((((hB.setCell (Nat.le_refl _) _).setCell (Nat.le_refl _) _).setCell (Nat.le_refl _) _).setCell (Nat.le_refl _) _).setCell (Nat.le_refl _) _⟩
end Go.Proofs.YtlfngcekbffngaaDoor
