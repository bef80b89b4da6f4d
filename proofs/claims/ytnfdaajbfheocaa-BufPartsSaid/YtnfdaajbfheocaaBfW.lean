/-
  BufView, as a walk: it returns true.
-/
import Derived.Test.YtnfdaajbfheocaaBfH
import Derived.Test.YtnfdaajbfheocaaBfD
import Derived.Test.YtnfdaajbfheocaaBfF
import Derived.Deep.RegionHeld3
import Derived.Deep.DeepCutAuto
namespace Go.Proofs.Ytnfdaajbfheocaa
open Go.RowKit
set_option linter.unusedVariables false
set_option linter.unusedSimpArgs false
open BfM

theorem plc_of {m : Nat} {l : Int} (h1 : ¬ l < 0) (h2 : ¬ (m : Int) ≤ l) : plc m l = true := decide_eq_true ⟨by omega, by omega⟩
theorem ok_of {m : Nat} {b : List Wr} (h : ∀ j (hj : j < b.length), plc m b[j].loc = true) : ok m b := fun x hx => by
  obtain ⟨j, hj, rfl⟩ := List.mem_iff_getElem.1 hx
  exact h j hj
set_option maxHeartbeats 8000000 in
set_option maxRecDepth 100000 in
theorem bview_law {vb vm : Value} {b : List Wr} {m : List Int} (l : Int) (w : World) (hb : Wrs w.heap.size w vb b) (hm : Ints w.heap.size w vm m) :
    Calls Try.prog 4 #[vb, vm, .int .i64 l] w fun e w' => e = .returned (.bool true) ∧ Below w.heap.size w w' := by
  have HHd := Lib.hid (fun W => bhead_any W)
  have HVb := Lib.hid (fun W (hW : Below w.heap.size w W) => show Wrs W.heap.size W vb b from (hb.below hW).more hW.size)
  have HVm := Lib.hid (fun W (hW : Below w.heap.size w W) => show Ints W.heap.size W vm m from (hm.below hW).more hW.size)
  obtain ⟨Ab, cb, rfl, hb1, hb2, hb0, hb3⟩ := hb
  obtain ⟨Am, cm, rfl, hm1, hm2, hm0, hm3⟩ := hm
  unfold maxLen at hb2 hm2
  have HGP := Lib.hid (fun W (hW : Below w.heap.size w W) => bgreat_any W (HVb.out W hW) (HVm.out W hW))
  have hb4 := wr_at (c := cb) hb3
  go_enter Try.func4, Try.ntmps4
  go_wp2_with fail
  refine (HHd.out _).mono ?_
  rintro e w1 ⟨rfl, hB⟩
  clear HHd
  go_wp2_with fail
  refine (HGP.out _ hB).mono ?_
  rintro e w2 ⟨gb, rfl, hsx, hbb⟩
  replace hB := chain hB hbb
  clear hbb HGP hb3
  cases gb
  case true =>
    go_wp2
    go_ret
    exact ⟨rfl, hB⟩
  obtain ⟨hl3, hm3'⟩ := hsx rfl
  clear hsx
  have hl6 : b.length ≤ 1000000 := by omega
  have hm6 : m.length ≤ 1000000 := by omega
  have HVi := Lib.hid (fun W (hW : Below w.heap.size w W) => view_any l W (HVb.out W hW) (HVm.out W hW) (Nat.le_refl _) hl6 hm6)
  have HAll := Lib.hid (fun W (hW : Below w.heap.size w W) => all_any W (HVb.out W hW) (HVm.out W hW) (Nat.le_refl _) hl6 hm6)
  clear HVb HVm hm3
  go_wp2
  go_loopw [8] (fun i wr => ∃ k : Nat, k ≤ b.length ∧ i = .int .i64 k ∧ (∀ j (hj : j < b.length), j < k → plc m.length b[j].loc = true) ∧ Below w.heap.size w wr) (fun i _ => b.length - (intOf i).toNat)
  case atStart => exact ⟨0, Nat.zero_le _, rfl, fun j _ h => absurd h (Nat.not_lt_zero j), hB⟩
  case round =>
    clear hB
    obtain ⟨k, hk, rfl, hok, hB⟩ := hrel
    have HOK := Lib.hid hok
    clear hok
    by_cases hlt : k < b.length
    · obtain ⟨b2, f2, rfl, hbb2, hc2⟩ := hb4 (by omega)
      obtain ⟨y0, y1⟩ := hc2 k hlt
      have z0 := (hB.cell (p := ⟨b2, f2 + k * 2, none⟩) hbb2).trans y0
      have HST := Lib.hid (fun (h1 : ¬ b[k].loc < 0) (h2 : ¬ (m.length : Int) ≤ b[k].loc) j (hj : j < b.length) (hjk : j < k + 1) => show plc m.length b[j].loc = true from by
        by_cases e : j = k
        · subst e; exact plc_of h1 h2
        · exact HOK.out j hj (by omega))
      obtain ⟨x, hx⟩ : ∃ x, x = b[k] := ⟨_, rfl⟩
      rw [← hx] at z0 HST
      clear hx y0 y1 hc2 hb4
      by_cases h1 : x.loc < 0
      · go_wp2
        go_ret
        exact ⟨rfl, hB⟩
      by_cases h2 : (m.length : Int) ≤ x.loc
      · go_wp2
        go_ret
        exact ⟨rfl, hB⟩
      have HN := Lib.hid (HST.out h1 h2)
      go_wp2
      go_roundw
      case rel => exact ⟨k + 1, by omega, by go_num, HN.out, hB⟩
      case measure => simp [intOf]; omega
    · obtain rfl : b.length = k := by omega
      have HO := Lib.hid (show ok m.length b from ok_of (fun j hj => HOK.out j hj hj))
      clear hb4 HOK
      go_wp2_with fail
      refine (HAll.out _ hB).mono ?_
      rintro e w3 ⟨y, rfl, ho, hbb⟩
      have hAL := all_len b m
      unfold OwnI at ho
      rw [hAL] at ho
      obtain ⟨Ay, cy, rfl⟩ := own_slice ho
      replace hB := chain hB hbb
      have HOY := Lib.hid ho
      clear hbb ho HAll
      by_cases hp : plc m.length l = true
      · obtain ⟨n, hn⟩ := view_some (b := b) (m := m) hp
        have hV : viewV b m l = .tuple #[.int .i64 n, .bool true] := by unfold viewV; rw [hn]
        rw [hV] at HVi
        have hat := all_view b m l HO.out hp
        rw [hn] at hat
        unfold plc at hp
        rw [decide_eq_true_eq] at hp
        obtain ⟨h1, h2⟩ := hp
        obtain ⟨q, rfl⟩ : ∃ q : Nat, l = q := ⟨l.toNat, by omega⟩
        have hq : q < m.length := by omega
        obtain ⟨g, c, e, hg1, hg2, hg3, hg4⟩ := own_form HOY.out (by omega)
        injection e with e _ e3
        subst e; subst e3
        have hcl : w3.cell? ⟨g, q, none⟩ = some (.int .i64 n) := by
          rw [HOY.out.cellAt q (by omega)]
          obtain ⟨hq', hat⟩ := List.getElem?_eq_some_iff.1 hat
          have := flat_at inC_len (all b m) q 0 (by rw [hAL]; exact hq) (by omega)
          rw [Nat.mul_one] at this
          rw [Nat.add_zero] at this
          rw [this]
          simp only [Int.toNat_natCast] at hat
          rw [hat]; rfl
        clear hat hn hV hAL hg4
        go_wp2_with fail
        refine (HVi.out _ hB).mono ?_
        rintro e w4 ⟨rfl, hbb⟩
        replace hB := chain hB hbb
        replace hcl := kc hbb hcl
        clear hbb HVi
        go_wp2
        go_ret
        exact ⟨rfl, hB⟩
      · rw [Bool.not_eq_true] at hp
        have hn := view_none (b := b) (m := m) HO.out hp
        have hV : viewV b m l = .tuple #[.int .i64 0, .bool false] := by unfold viewV; rw [hn]
        rw [hV] at HVi
        unfold plc at hp
        rw [decide_eq_false_iff_not] at hp
        clear hn hV hAL
        by_cases h1 : 0 ≤ l
        · have h2 : ¬ l < m.length := fun h => hp ⟨h1, h⟩
          clear hp
          go_wp2_with fail
          refine (HVi.out _ hB).mono ?_
          rintro e w4 ⟨rfl, hbb⟩
          replace hB := chain hB hbb
          clear hbb HVi
          go_wp2
          go_ret
          exact ⟨rfl, hB⟩
        · clear hp
          go_wp2_with fail
          refine (HVi.out _ hB).mono ?_
          rintro e w4 ⟨rfl, hbb⟩
          replace hB := chain hB hbb
          clear hbb HVi
          go_wp2
          go_ret
          exact ⟨rfl, hB⟩
end Go.Proofs.Ytnfdaajbfheocaa
