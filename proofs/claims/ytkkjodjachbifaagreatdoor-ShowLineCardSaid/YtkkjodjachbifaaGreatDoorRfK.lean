/-
  THE DOCUMENT's Get, of no words, and of many, over any world.
  THE DOCUMENT's Get, of one word, over any world.
  THE DOCUMENT's Get, of two words, over any world.
  THE DOCUMENT's Get, of three words, over any world.
  THE DOCUMENT's Get, of any row of words, over any world.
-/
import Derived.Test.YtkkjodjachbifaaGreatDoorRef
import Derived.Test.YtkkjodjachbifaaGreatDoorNums
import Derived.Deep.RegionHeld3
import Derived.Deep.RegionLawGrows
import Derived.Test.YtkkjodjachbifaaGreatDoorOpsA
namespace Go.Proofs.YtkkjodjachbifaaGreatDoor
open Go.RowKit
set_option linter.unusedVariables false
set_option linter.unusedSimpArgs false
open WordM (L)

set_option maxHeartbeats 2000000 in
set_option maxRecDepth 100000 in
theorem rget3_0 (A : Option Addr) (c : Nat) (w : World) :
    Calls Tryz.prog 22 #[.slice A 0 c] w fun e w' => e = .returned (.tuple #[lnw OpsM.zero, .bool false]) ∧ Below w.heap.size w w' := by
  go_enter Tryz.func22, Tryz.ntmps22
  go_wp2
  go_loopw [9] (fun i wr => i = .int .i64 0 ∧ wr = w.alloc (.cells #[.int .i64 0, .string ⟨#[]⟩, .string ⟨#[]⟩, .string ⟨#[]⟩, .int .i64 0] 28)) (fun _ _ => 0)
  case atStart => exact ⟨rfl, rfl⟩
  case round =>
    obtain ⟨rfl, rfl⟩ := hrel
    go_wp2
    exact bodyPost_ret (v := .tuple #[lnw OpsM.zero, .bool false]) (by simp [results, Tryz.results22, go_sem, lnw, lnv, OpsM.zero]) rfl ⟨rfl, (Below.refl _ _).alloc (Nat.le_refl _) _⟩
set_option maxHeartbeats 2000000 in
set_option maxRecDepth 100000 in
theorem rget3_4 (A : Option Addr) (n c : Nat) (h4 : 4 ≤ n) (w : World) :
    Calls Tryz.prog 22 #[.slice A n c] w fun e w' => e = .returned (.tuple #[lnw OpsM.zero, .bool false]) ∧ Below w.heap.size w w' := by
  have q1 : ((n : Int) == 1) = false := beq_eq_false_iff_ne.2 (by omega)
  have q2 : ((n : Int) == 2) = false := beq_eq_false_iff_ne.2 (by omega)
  have q3 : ((n : Int) == 3) = false := beq_eq_false_iff_ne.2 (by omega)
  clear h4
  go_enter Tryz.func22, Tryz.ntmps22
  go_wp2
  go_loopw [9] (fun i wr => i = .int .i64 0 ∧ wr = w.alloc (.cells #[.int .i64 0, .string ⟨#[]⟩, .string ⟨#[]⟩, .string ⟨#[]⟩, .int .i64 0] 28)) (fun _ _ => 0)
  case atStart => exact ⟨rfl, rfl⟩
  case round =>
    obtain ⟨rfl, rfl⟩ := hrel
    go_wp2
    exact bodyPost_ret (v := .tuple #[lnw OpsM.zero, .bool false]) (by simp [results, Tryz.results22, go_sem, lnw, lnv, OpsM.zero]) rfl ⟨rfl, (Below.refl _ _).alloc (Nat.le_refl _) _⟩
end Go.Proofs.YtkkjodjachbifaaGreatDoor
namespace Go.Proofs.YtkkjodjachbifaaGreatDoor
open Go.RowKit
set_option linter.unusedVariables false
set_option linter.unusedSimpArgs false
open WordM (L)

set_option maxHeartbeats 2000000 in
set_option maxRecDepth 100000 in
theorem rget3_1 (g f c : Nat) (a : ByteArray) (w : World) (ls : List L) (cs : List OpsM.Ln) (res : OpsM.Ln × Bool) (hg : g < w.heap.size) (hc : 1 ≤ c) (h0 : w.cell? ⟨g, f, none⟩ = some (.string a)) (ha : a.size ≤ 100000)
    (HA : GFacts w (.slice (some ⟨g, f, none⟩) 1 c) ls cs res) (hE : cs = [⟨6, [], [], [], 0⟩, ⟨11, [], [], OpsM.innC a.data.toList, 0⟩]) :
    Calls Tryz.prog 22 #[.slice (some ⟨g, f, none⟩) 1 c] w fun e w' => e = .returned (.tuple #[lnw res.1, .bool res.2]) ∧ Below w.heap.size w w' := by
  have HF := Lib.hid HA
  have HE := Lib.hid hE
  have hlen : cs.length = 2 := by rw [hE]; rfl
  have HLen := Lib.hid hlen
  clear HA hE hlen
  have HI := Lib.hid (fun W => innC_any a W ha)
  go_enter Tryz.func22, Tryz.ntmps22
  go_wp2_with fail
  refine (HI.out _).mono ?_
  rintro e w1 ⟨rfl, rfl⟩
  go_wp2
  all_goals
    go_loopw [9] (fun i wr => GRel ls cs w (w.heap.size + 2) i wr) (fun i _ => 2 - (intOf i).toNat)
    case atStart =>
      refine grel_start (below_drewN (((Below.refl _ _).alloc (by simp) _).alloc (by simp) _) 1) ?_
      rw [HE.out]
      exact cands_drew (cands_at (by simp) rfl)
    case round =>
      obtain ⟨k, hk, rfl, hall, hB, hC, h0⟩ := hrel
      have HA := Lib.hid hall
      clear hall
      have hl3 := HLen.out
      by_cases hlt : k < cs.length
      · obtain ⟨e0, e1, e2, e3, e4⟩ := hC k hlt
        have hl := HF.out.L cs[k] (List.getElem_mem hlt)
        have hra := HF.out.R cs[k] (List.getElem_mem hlt)
        have hRR := fun W => rrightw_any cs[k] W hl.1 hl.2.1 hl.2.2
        have hWW := fun W => rwordsw_any cs[k] W hra hl.1 hl.2.1 hl.2.2
        have hok := Lib.hid (show OpsM.okL ls cs[k] = (OpsM.rightL cs[k] && decide (OpsM.wordsL cs[k] = ls)) from rfl)
        have hgk := cands_lt hC k hlt
        unfold lnw lnv at hRR hWW
        have hk3 : k < 2 := by omega
        have HRR := Lib.hid hRR
        have HWW := Lib.hid hWW
        clear hRR hWW hl3 hl
        cases hrb : OpsM.rightL cs[k]
        · rw [hrb] at HRR hok
          have hno : Hid (OpsM.okL ls cs[k] = false) := Lib.hid (by rw [hok.out]; rfl)
          clear hok hrb HWW
          go_wp2_with fail
          refine (HRR.out _).mono ?_
          rintro e w1 ⟨rfl, hb⟩
          have HN := Lib.hid (grel_next hlt HA.out hB hC h0 hno.out hb)
          go_wp2
          go_roundw
          case rel => exact HN.out
          case measure => simp [intOf]; omega
        · rw [hrb] at HRR hok
          clear hrb
          generalize OpsM.wordsL cs[k] = ws at *
          have HSt := Lib.hid HF.out.S
          go_wp2_with fail
          refine (HRR.out _).mono ?_
          rintro e w1 ⟨rfl, hb⟩
          obtain ⟨d0, d1, d2, d3, d4⟩ := cands_below hC hb k hlt
          go_wp2_with fail
          refine (HWW.out _).mono ?_
          rintro e w2 ⟨u, rfl, how, hb2⟩
          have S1 := Lib.hid (strs_own how)
          have hb12 := chain hb hb2
          have S2 := Lib.hid (strs_more (strs_below HSt.out (chain hB hb12)) (chain hB hb12).size)
          clear how
          go_wp2_with fail
          refine (same_any _ _ _ _ _ _ S1.out S2.out).mono ?_
          rintro e w3 ⟨rfl, n, rfl⟩
          have hb13 := below_drewN hb12 n
          by_cases hq : ws = ls
          · have hq2 : sameB ws ls = true := decide_eq_true hq
            have hy := Lib.hid (HF.out.F k hlt HA.out (by rw [hok.out, decide_eq_true hq]; rfl))
            clear hq hok
            obtain ⟨f0, f1, f2, f3, f4⟩ := cands_below hC hb13 k hlt
            obtain ⟨c0, g0⟩ := box0_below h0 hb13 0 _ rfl
            obtain ⟨c1, g1⟩ := box0_below h0 hb13 1 _ rfl
            obtain ⟨c2, g2⟩ := box0_below h0 hb13 2 _ rfl
            obtain ⟨c3, g3⟩ := box0_below h0 hb13 3 _ rfl
            obtain ⟨c4, g4⟩ := box0_below h0 hb13 4 _ rfl
            have hz : w.heap.size < w2.heap.size := lt_of_cell (W := w2) c0
            go_wp2
            exact bodyPost_ret (v := .tuple #[lnw cs[k], .bool true]) (by simp [results, Tryz.results22, go_sem, lnw, lnv, c0, c1, c2, c3, c4, hz]) rfl ⟨by rw [hy.out], (((((chain hB hb13).setCell (Nat.le_refl _) _).setCell (Nat.le_refl _) _).setCell (Nat.le_refl _) _).setCell (Nat.le_refl _) _).setCell (Nat.le_refl _) _⟩
          · have hq2 : sameB ws ls = false := decide_eq_false hq
            have hno := Lib.hid (show OpsM.okL ls cs[k] = false by rw [hok.out, decide_eq_false hq]; rfl)
            clear hq hok
            have HN := Lib.hid (grel_next hlt HA.out hB hC h0 hno.out hb13)
            go_wp2
            go_roundw
            case rel => exact HN.out
            case measure => simp [intOf]; omega
      · obtain rfl : cs.length = k := by omega
        have hy := Lib.hid (HF.out.M HA.out)
        obtain ⟨c0, g0⟩ := h0 0 _ rfl
        obtain ⟨c1, g1⟩ := h0 1 _ rfl
        obtain ⟨c2, g2⟩ := h0 2 _ rfl
        obtain ⟨c3, g3⟩ := h0 3 _ rfl
        obtain ⟨c4, g4⟩ := h0 4 _ rfl
        have hz : w.heap.size < wr.heap.size := lt_of_cell c0
        go_wp2
        exact bodyPost_ret (v := .tuple #[lnw OpsM.zero, .bool false]) (by simp [results, Tryz.results22, go_sem, lnw, lnv, OpsM.zero, c0, c1, c2, c3, c4, hz]) rfl ⟨by rw [hy.out], ((((hB.setCell (Nat.le_refl _) _).setCell (Nat.le_refl _) _).setCell (Nat.le_refl _) _).setCell (Nat.le_refl _) _).setCell (Nat.le_refl _) _⟩
end Go.Proofs.YtkkjodjachbifaaGreatDoor
namespace Go.Proofs.YtkkjodjachbifaaGreatDoor
open Go.RowKit
set_option linter.unusedVariables false
set_option linter.unusedSimpArgs false
open WordM (L)

set_option maxHeartbeats 2000000 in
set_option maxRecDepth 100000 in
theorem rget3_2 (g f c : Nat) (b : ByteArray) (w : World) (ls : List L) (cs : List OpsM.Ln) (res : OpsM.Ln × Bool) (hg : g < w.heap.size) (hc : 2 ≤ c) (h1 : w.cell? ⟨g, f + 1, none⟩ = some (.string b))
    (HA : GFacts w (.slice (some ⟨g, f, none⟩) 2 c) ls cs res) (hE : cs = [⟨8, [], [], b.data.toList, 0⟩, ⟨9, [], [], b.data.toList, 0⟩, ⟨10, [], [], b.data.toList, 0⟩]) :
    Calls Tryz.prog 22 #[.slice (some ⟨g, f, none⟩) 2 c] w fun e w' => e = .returned (.tuple #[lnw res.1, .bool res.2]) ∧ Below w.heap.size w w' := by
  have HF := Lib.hid HA
  have HE := Lib.hid hE
  have hlen : cs.length = 3 := by rw [hE]; rfl
  have HLen := Lib.hid hlen
  clear HA hE hlen
  go_enter Tryz.func22, Tryz.ntmps22
  go_wp2
  go_region_held3 (fun w' => w'.cell? ⟨g, f + 1, none⟩ = some (.string b)) (first | (with_reducible assumption) | (exact cell_drew (cell_drew (cell_alloc (cell_alloc (cell_alloc h1))))) | (exact cell_drew (cell_alloc (cell_alloc h1))) | (exact cell_drew (cell_alloc h1)) | go_keep) (fail)
  all_goals
    go_wp2
    go_loopw [9] (fun i wr => GRel ls cs w (w.heap.size + 2) i wr) (fun i _ => 3 - (intOf i).toNat)
    case atStart =>
      refine grel_start (below_drewN (((Below.refl _ _).alloc (by simp) _).alloc (by simp) _) 2) ?_
      rw [HE.out]
      exact cands_drew (cands_drew (cands_at (by simp) rfl))
    case round =>
      obtain ⟨k, hk, rfl, hall, hB, hC, h0⟩ := hrel
      have HA := Lib.hid hall
      clear hall
      have hl3 := HLen.out
      by_cases hlt : k < cs.length
      · obtain ⟨e0, e1, e2, e3, e4⟩ := hC k hlt
        have hl := HF.out.L cs[k] (List.getElem_mem hlt)
        have hra := HF.out.R cs[k] (List.getElem_mem hlt)
        have hRR := fun W => rrightw_any cs[k] W hl.1 hl.2.1 hl.2.2
        have hWW := fun W => rwordsw_any cs[k] W hra hl.1 hl.2.1 hl.2.2
        have hok := Lib.hid (show OpsM.okL ls cs[k] = (OpsM.rightL cs[k] && decide (OpsM.wordsL cs[k] = ls)) from rfl)
        have hgk := cands_lt hC k hlt
        unfold lnw lnv at hRR hWW
        have hk3 : k < 3 := by omega
        have HRR := Lib.hid hRR
        have HWW := Lib.hid hWW
        clear hRR hWW hl3 hl
        cases hrb : OpsM.rightL cs[k]
        · rw [hrb] at HRR hok
          have hno : Hid (OpsM.okL ls cs[k] = false) := Lib.hid (by rw [hok.out]; rfl)
          clear hok hrb HWW
          go_wp2_with fail
          refine (HRR.out _).mono ?_
          rintro e w1 ⟨rfl, hb⟩
          have HN := Lib.hid (grel_next hlt HA.out hB hC h0 hno.out hb)
          go_wp2
          go_roundw
          case rel => exact HN.out
          case measure => simp [intOf]; omega
        · rw [hrb] at HRR hok
          clear hrb
          generalize OpsM.wordsL cs[k] = ws at *
          have HSt := Lib.hid HF.out.S
          go_wp2_with fail
          refine (HRR.out _).mono ?_
          rintro e w1 ⟨rfl, hb⟩
          obtain ⟨d0, d1, d2, d3, d4⟩ := cands_below hC hb k hlt
          go_wp2_with fail
          refine (HWW.out _).mono ?_
          rintro e w2 ⟨u, rfl, how, hb2⟩
          have S1 := Lib.hid (strs_own how)
          have hb12 := chain hb hb2
          have S2 := Lib.hid (strs_more (strs_below HSt.out (chain hB hb12)) (chain hB hb12).size)
          clear how
          go_wp2_with fail
          refine (same_any _ _ _ _ _ _ S1.out S2.out).mono ?_
          rintro e w3 ⟨rfl, n, rfl⟩
          have hb13 := below_drewN hb12 n
          by_cases hq : ws = ls
          · have hq2 : sameB ws ls = true := decide_eq_true hq
            have hy := Lib.hid (HF.out.F k hlt HA.out (by rw [hok.out, decide_eq_true hq]; rfl))
            clear hq hok
            obtain ⟨f0, f1, f2, f3, f4⟩ := cands_below hC hb13 k hlt
            obtain ⟨c0, g0⟩ := box0_below h0 hb13 0 _ rfl
            obtain ⟨c1, g1⟩ := box0_below h0 hb13 1 _ rfl
            obtain ⟨c2, g2⟩ := box0_below h0 hb13 2 _ rfl
            obtain ⟨c3, g3⟩ := box0_below h0 hb13 3 _ rfl
            obtain ⟨c4, g4⟩ := box0_below h0 hb13 4 _ rfl
            have hz : w.heap.size < w2.heap.size := lt_of_cell (W := w2) c0
            go_wp2
            exact bodyPost_ret (v := .tuple #[lnw cs[k], .bool true]) (by simp [results, Tryz.results22, go_sem, lnw, lnv, c0, c1, c2, c3, c4, hz]) rfl ⟨by rw [hy.out], (((((chain hB hb13).setCell (Nat.le_refl _) _).setCell (Nat.le_refl _) _).setCell (Nat.le_refl _) _).setCell (Nat.le_refl _) _).setCell (Nat.le_refl _) _⟩
          · have hq2 : sameB ws ls = false := decide_eq_false hq
            have hno := Lib.hid (show OpsM.okL ls cs[k] = false by rw [hok.out, decide_eq_false hq]; rfl)
            clear hq hok
            have HN := Lib.hid (grel_next hlt HA.out hB hC h0 hno.out hb13)
            go_wp2
            go_roundw
            case rel => exact HN.out
            case measure => simp [intOf]; omega
      · obtain rfl : cs.length = k := by omega
        have hy := Lib.hid (HF.out.M HA.out)
        obtain ⟨c0, g0⟩ := h0 0 _ rfl
        obtain ⟨c1, g1⟩ := h0 1 _ rfl
        obtain ⟨c2, g2⟩ := h0 2 _ rfl
        obtain ⟨c3, g3⟩ := h0 3 _ rfl
        obtain ⟨c4, g4⟩ := h0 4 _ rfl
        have hz : w.heap.size < wr.heap.size := lt_of_cell c0
        go_wp2
        exact bodyPost_ret (v := .tuple #[lnw OpsM.zero, .bool false]) (by simp [results, Tryz.results22, go_sem, lnw, lnv, OpsM.zero, c0, c1, c2, c3, c4, hz]) rfl ⟨by rw [hy.out], ((((hB.setCell (Nat.le_refl _) _).setCell (Nat.le_refl _) _).setCell (Nat.le_refl _) _).setCell (Nat.le_refl _) _).setCell (Nat.le_refl _) _⟩
end Go.Proofs.YtkkjodjachbifaaGreatDoor
namespace Go.Proofs.YtkkjodjachbifaaGreatDoor
open Go.RowKit
set_option linter.unusedVariables false
set_option linter.unusedSimpArgs false
open WordM (L)

theorem info_line : (Tryz.prog.info? 28).map (fun i => (i.zero, i.size, i.bytes)) = some (some (.agg #[.int .i64 0, .string ⟨#[]⟩, .string ⟨#[]⟩, .string ⟨#[]⟩, .int .i64 0]), 5, 64) := by kernel_rfl
theorem kc2 {W w' : World} {g i : Nat} {v : Value} (hB : Below W.heap.size W w') (h : W.cell? ⟨g, i, none⟩ = some v) : w'.cell? ⟨g, i, none⟩ = some v := (hB.cell (p := ⟨g, i, none⟩) (lt_of_cell h)).trans h
theorem cells_new (w : World) (cs : List Value) (t : TypeId) : ∀ j u, cs[j]? = some u → (w.alloc (.cells cs.toArray t)).cell? ((⟨w.heap.size, 0, none⟩ : Addr).add j) = some u := by
  intro j u hj
  rw [show ((⟨w.heap.size, 0, none⟩ : Addr).add j) = ⟨w.heap.size, j, none⟩ by simp [Addr.add]; intro e; exact e.symm]
  rw [World.cell?_alloc_at _ _ _ _ rfl]
  simpa using hj
theorem one_cells : ∀ (cs : List OpsM.Ln), ∀ u ∈ lncs cs, u.oneCell' = true
  | [], u, h => by simp [lncs] at h
  | l :: r, u, h => by
    rcases List.mem_append.1 (show u ∈ lnc l ++ lncs r from h) with h | h
    · simp only [lnc, List.mem_cons, List.not_mem_nil, or_false] at h
      rcases h with rfl | rfl | rfl | rfl | rfl <;> rfl
    · exact one_cells r u h
theorem lncs_len : ∀ cs : List OpsM.Ln, (lncs cs).length = cs.length * 5
  | [] => rfl
  | l :: r => by
    show (lnc l ++ lncs r).length = (r.length + 1) * 5
    rw [List.length_append, lncs_len r]
    show 5 + r.length * 5 = _
    omega
theorem cands_own {w : World} {base T : Nat} {v : Value} {n : Nat} {cs : List OpsM.Ln} {m : Nat} (h : w.ownsRow base T 5 v n ([] ++ lncs cs)) (hm : n = m) (hpos : 0 < n) (hn : n = cs.length) :
    ∃ g cap, v = .slice (some ⟨g, 0, none⟩) m cap ∧ m ≤ cap ∧ Cands w g cs := by
  subst hm
  have h2 := h
  obtain ⟨_, h'⟩ := h
  rcases h' with ⟨_, e⟩ | ⟨g, cap, cur, rfl, _, _, h4, _, _, _⟩
  · omega
  · refine ⟨g, cap, rfl, h4, fun k hk => ?_⟩
    have key : ∀ j, j < 5 → w.cell? ⟨g, k * 5 + j, none⟩ = (lnc cs[k])[j]? := fun j hj => by
      rw [h2.cellAt _ (by omega), List.nil_append, lncs_at cs k hk j hj]
    exact ⟨key 0 (by omega), key 1 (by omega), key 2 (by omega), key 3 (by omega), key 4 (by omega)⟩
theorem below_k3 {w w1 w' : World} {o2 : Obj} {t : TypeId} (hB1 : Below (w.alloc (.cells #[.int .i64 0, .string ⟨#[]⟩, .string ⟨#[]⟩, .string ⟨#[]⟩, .int .i64 0] t)).heap.size (w.alloc (.cells #[.int .i64 0, .string ⟨#[]⟩, .string ⟨#[]⟩, .string ⟨#[]⟩, .int .i64 0] t)) w1)
    (hg : (w1.alloc o2).drew.grownBy w' none) : Below (w.heap.size + 1) (w.alloc (.cells #[.int .i64 0, .string ⟨#[]⟩, .string ⟨#[]⟩, .string ⟨#[]⟩, .int .i64 0] t)) w' := by
  have hle : w.heap.size + 1 ≤ w1.heap.size := by have := hB1.size; simp at this; exact this
  have h1 : Below (w.heap.size + 1) (w.alloc (.cells #[.int .i64 0, .string ⟨#[]⟩, .string ⟨#[]⟩, .string ⟨#[]⟩, .int .i64 0] t)) (w1.alloc o2).drew := below_drewN ((hB1.mono (by simp)).alloc hle _) 1
  exact Below.grown h1 hg (by simp; omega) (fun j ej => by cases ej)

set_option maxHeartbeats 2000000 in
set_option maxRecDepth 100000 in
theorem rget3_3 (g f c : Nat) (b d : ByteArray) (w : World) (ls : List L) (cs : List OpsM.Ln) (res : OpsM.Ln × Bool) (hg : g < w.heap.size) (hc : 3 ≤ c) (h1 : w.cell? ⟨g, f + 1, none⟩ = some (.string b)) (h2 : w.cell? ⟨g, f + 2, none⟩ = some (.string d)) (hb : b.size ≤ 100000) (hd : d.size ≤ 100000)
    (HA : GFacts w (.slice (some ⟨g, f, none⟩) 3 c) ls cs res) (hE : cs = [⟨1, b.data.toList, [], [], (NumM.get d.data.toList).1⟩, ⟨2, b.data.toList, OpsM.innB d.data.toList, [], 0⟩, ⟨3, d.data.toList, OpsM.innB b.data.toList, [], 0⟩, ⟨4, [], OpsM.innB b.data.toList, [], (NumM.get d.data.toList).1⟩, ⟨5, d.data.toList, OpsM.innB b.data.toList, [], 0⟩, ⟨7, b.data.toList, [], [], (NumM.get d.data.toList).1⟩]) :
    Calls Tryz.prog 22 #[.slice (some ⟨g, f, none⟩) 3 c] w fun e w' => e = .returned (.tuple #[lnw res.1, .bool res.2]) ∧ Below w.heap.size w w' := by
  obtain ⟨i0, hi, hz0, hz1, hz2⟩ := info_parts info_line
  have HF := Lib.hid HA
  have HE := Lib.hid hE
  have hlen : cs.length = 6 := by rw [hE]; rfl
  have HLen := Lib.hid hlen
  clear HA hE hlen
  have HI := Lib.hid (fun W => innB_any b W hb)
  have HJ := Lib.hid (fun W => innB_any d W hd)
  have HG := Lib.hid (fun W => rget_any d W (by unfold maxLen; omega))
  clear hb hd
  generalize OpsM.innB b.data.toList = ib at *
  generalize OpsM.innB d.data.toList = id at *
  generalize NumM.get d.data.toList = gd at *
  obtain ⟨n1, i1⟩ := gd
  go_enter Tryz.func22, Tryz.ntmps22
  go_wp2_with fail
  refine (HG.out _).mono ?_
  rintro e w1 ⟨rfl, hB1⟩
  have x1 : w1.cell? ⟨g, f + 1, none⟩ = some (.string b) := (hB1.cell (p := ⟨g, f + 1, none⟩) (by simp; omega)).trans (cell_alloc h1)
  have x2 : w1.cell? ⟨g, f + 2, none⟩ = some (.string d) := (hB1.cell (p := ⟨g, f + 2, none⟩) (by simp; omega)).trans (cell_alloc h2)
  go_wp2_with fail
  refine (HI.out _).mono ?_
  rintro e w2 ⟨rfl, rfl⟩
  go_wp2_with fail
  refine (HJ.out _).mono ?_
  rintro e w3 ⟨rfl, rfl⟩
  go_wp2
  go_region_held3 (fun w' => w'.cell? ⟨g, f + 1, none⟩ = some (.string b) ∧ w'.cell? ⟨g, f + 2, none⟩ = some (.string d)) (first | (with_reducible assumption) | (exact ⟨kc2 (Below.grown (Below.refl _ _) hgrow (Nat.le_refl _) (fun j ej => by cases ej)) (cell_drew (cell_alloc x1)), kc2 (Below.grown (Below.refl _ _) hgrow (Nat.le_refl _) (fun j ej => by cases ej)) (cell_drew (cell_alloc x2))⟩) | (exact ⟨cell_drew (cell_alloc x1), cell_drew (cell_alloc x2)⟩) | (exact ⟨cell_drew x1, cell_drew x2⟩) | go_keep)
    (first | (refine step_append_grows rfl _ _ 44 rfl 28 i0 (.agg #[.int .i64 0, .string ⟨#[]⟩, .string ⟨#[]⟩, .string ⟨#[]⟩, .int .i64 0]) 5 64 Tryz.underlying44 hi hz0 hz1 hz2 rfl (by decide) none 0 0 [] rfl (fun _ => ⟨rfl, rfl⟩) rfl (fun _ h => by cases h) ⟨w1.heap.size, 0, none⟩ 6 6 (lncs [⟨1, b.data.toList, [], [], n1⟩, ⟨2, b.data.toList, id, [], 0⟩, ⟨3, d.data.toList, ib, [], 0⟩, ⟨4, [], ib, [], n1⟩, ⟨5, d.data.toList, ib, [], 0⟩, ⟨7, b.data.toList, [], [], n1⟩]) rfl rfl (fun j u h => cell_drew (cells_new w1 _ _ j u h)) (one_cells _) (by decide) (by unfold maxLen; decide) (by decide) ?_; intro v' w' hown hgrow))
  all_goals
    obtain ⟨gA, cap, rfl, hcap, hC0⟩ := cands_own (m := 6) hown rfl (by decide) rfl
    have hB0 : Below (w.heap.size + 1) (w.alloc (.cells #[.int .i64 0, .string ⟨#[]⟩, .string ⟨#[]⟩, .string ⟨#[]⟩, .int .i64 0] 28)) w' := below_k3 hB1 hgrow
    clear hown hgrow
    go_wp2
    go_loopw [9] (fun i wr => GRel ls cs w gA i wr) (fun i _ => 6 - (intOf i).toNat)
    case atStart =>
      refine grel_start hB0 ?_
      rw [HE.out]
      exact hC0
    case round =>
      obtain ⟨k, hk, rfl, hall, hB, hC, h0⟩ := hrel
      have HA := Lib.hid hall
      clear hall
      have hl3 := HLen.out
      by_cases hlt : k < cs.length
      · obtain ⟨e0, e1, e2, e3, e4⟩ := hC k hlt
        have hl := HF.out.L cs[k] (List.getElem_mem hlt)
        have hra := HF.out.R cs[k] (List.getElem_mem hlt)
        have hRR := fun W => rrightw_any cs[k] W hl.1 hl.2.1 hl.2.2
        have hWW := fun W => rwordsw_any cs[k] W hra hl.1 hl.2.1 hl.2.2
        have hok := Lib.hid (show OpsM.okL ls cs[k] = (OpsM.rightL cs[k] && decide (OpsM.wordsL cs[k] = ls)) from rfl)
        have hgk := cands_lt hC k hlt
        unfold lnw lnv at hRR hWW
        have hk3 : k < 6 := by omega
        have HRR := Lib.hid hRR
        have HWW := Lib.hid hWW
        clear hRR hWW hl3 hl
        cases hrb : OpsM.rightL cs[k]
        · rw [hrb] at HRR hok
          have hno : Hid (OpsM.okL ls cs[k] = false) := Lib.hid (by rw [hok.out]; rfl)
          clear hok hrb HWW
          go_wp2_with fail
          refine (HRR.out _).mono ?_
          rintro e w1 ⟨rfl, hb⟩
          have HN := Lib.hid (grel_next hlt HA.out hB hC h0 hno.out hb)
          go_wp2
          go_roundw
          case rel => exact HN.out
          case measure => simp [intOf]; omega
        · rw [hrb] at HRR hok
          clear hrb
          generalize OpsM.wordsL cs[k] = ws at *
          have HSt := Lib.hid HF.out.S
          go_wp2_with fail
          refine (HRR.out _).mono ?_
          rintro e w1 ⟨rfl, hb⟩
          obtain ⟨d0, d1, d2, d3, d4⟩ := cands_below hC hb k hlt
          go_wp2_with fail
          refine (HWW.out _).mono ?_
          rintro e w2 ⟨u, rfl, how, hb2⟩
          have S1 := Lib.hid (strs_own how)
          have hb12 := chain hb hb2
          have S2 := Lib.hid (strs_more (strs_below HSt.out (chain hB hb12)) (chain hB hb12).size)
          clear how
          go_wp2_with fail
          refine (same_any _ _ _ _ _ _ S1.out S2.out).mono ?_
          rintro e w3 ⟨rfl, n, rfl⟩
          have hb13 := below_drewN hb12 n
          by_cases hq : ws = ls
          · have hq2 : sameB ws ls = true := decide_eq_true hq
            have hy := Lib.hid (HF.out.F k hlt HA.out (by rw [hok.out, decide_eq_true hq]; rfl))
            clear hq hok
            obtain ⟨f0, f1, f2, f3, f4⟩ := cands_below hC hb13 k hlt
            obtain ⟨c0, g0⟩ := box0_below h0 hb13 0 _ rfl
            obtain ⟨c1, g1⟩ := box0_below h0 hb13 1 _ rfl
            obtain ⟨c2, g2⟩ := box0_below h0 hb13 2 _ rfl
            obtain ⟨c3, g3⟩ := box0_below h0 hb13 3 _ rfl
            obtain ⟨c4, g4⟩ := box0_below h0 hb13 4 _ rfl
            have hz : w.heap.size < w2.heap.size := lt_of_cell (W := w2) c0
            go_wp2
            exact bodyPost_ret (v := .tuple #[lnw cs[k], .bool true]) (by simp [results, Tryz.results22, go_sem, lnw, lnv, c0, c1, c2, c3, c4, hz]) rfl ⟨by rw [hy.out], (((((chain hB hb13).setCell (Nat.le_refl _) _).setCell (Nat.le_refl _) _).setCell (Nat.le_refl _) _).setCell (Nat.le_refl _) _).setCell (Nat.le_refl _) _⟩
          · have hq2 : sameB ws ls = false := decide_eq_false hq
            have hno := Lib.hid (show OpsM.okL ls cs[k] = false by rw [hok.out, decide_eq_false hq]; rfl)
            clear hq hok
            have HN := Lib.hid (grel_next hlt HA.out hB hC h0 hno.out hb13)
            go_wp2
            go_roundw
            case rel => exact HN.out
            case measure => simp [intOf]; omega
      · obtain rfl : cs.length = k := by omega
        have hy := Lib.hid (HF.out.M HA.out)
        obtain ⟨c0, g0⟩ := h0 0 _ rfl
        obtain ⟨c1, g1⟩ := h0 1 _ rfl
        obtain ⟨c2, g2⟩ := h0 2 _ rfl
        obtain ⟨c3, g3⟩ := h0 3 _ rfl
        obtain ⟨c4, g4⟩ := h0 4 _ rfl
        have hz : w.heap.size < wr.heap.size := lt_of_cell c0
        go_wp2
        exact bodyPost_ret (v := .tuple #[lnw OpsM.zero, .bool false]) (by simp [results, Tryz.results22, go_sem, lnw, lnv, OpsM.zero, c0, c1, c2, c3, c4, hz]) rfl ⟨by rw [hy.out], ((((hB.setCell (Nat.le_refl _) _).setCell (Nat.le_refl _) _).setCell (Nat.le_refl _) _).setCell (Nat.le_refl _) _).setCell (Nat.le_refl _) _⟩
end Go.Proofs.YtkkjodjachbifaaGreatDoor
namespace Go.Proofs.YtkkjodjachbifaaGreatDoor
open Go.RowKit
set_option linter.unusedVariables false
set_option linter.unusedSimpArgs false
open WordM (L)

theorem innC_len (s : L) : (OpsM.innC s).length ≤ s.length := by
  unfold OpsM.innC
  split <;> simp
theorem innB_len (s : L) : (OpsM.innB s).length ≤ s.length := by
  unfold OpsM.innB
  split
  · simp; omega
  · simp
theorem cand_len (ls : List L) (hs : ∀ l ∈ ls, l.length ≤ 100000) : ∀ c ∈ OpsM.cands ls, c.reg.length ≤ 100000 ∧ c.loc.length ≤ 100000 ∧ c.label.length ≤ 100000 := by
  intro c hc
  match ls, hs, hc with
  | [], _, hc => simp [OpsM.cands] at hc
  | [a], hs, hc =>
    have h1 := hs a (by simp)
    have h2 := innC_len a
    simp only [OpsM.cands, List.mem_cons, List.not_mem_nil, or_false] at hc
    rcases hc with rfl | rfl <;> simp <;> omega
  | [a, b], hs, hc =>
    have h1 := hs b (by simp)
    simp only [OpsM.cands, List.mem_cons, List.not_mem_nil, or_false] at hc
    rcases hc with rfl | rfl | rfl <;> simp <;> omega
  | [a, b, d], hs, hc =>
    have h1 := hs b (by simp)
    have h2 := hs d (by simp)
    have h3 := innB_len b
    have h4 := innB_len d
    simp only [OpsM.cands, List.mem_cons, List.not_mem_nil, or_false] at hc
    rcases hc with rfl | rfl | rfl | rfl | rfl | rfl <;> simp <;> omega
  | a :: b :: d :: e :: r, _, hc => simp [OpsM.cands] at hc
theorem gfacts {w : World} {v : Value} {ls : List L} (h : Strs w.heap.size w v ls) (hs : ∀ l ∈ ls, l.length ≤ 100000) : GFacts w v ls (OpsM.cands ls) (OpsM.get ls) where
  S := h
  L := cand_len ls hs
  R := OpsM.cand_range ls
  F := fun k h ha hy => by rw [← OpsM.rget_eq]; exact rget_hit h ha hy
  M := fun ha => by rw [← OpsM.rget_eq]; exact rget_miss ha
/-- The document's Get is Get. -/
theorem rget3_any {B : Nat} {v : Value} {ls : List L} (w : World) (h : Strs B w v ls) (hBB : B ≤ w.heap.size) (hs : ∀ l ∈ ls, l.length ≤ 100000) :
    Calls Tryz.prog 22 #[v] w fun e w' => e = .returned (.tuple #[lnw (OpsM.get ls).1, .bool (OpsM.get ls).2]) ∧ Below w.heap.size w w' := by
  have h' := strs_more h hBB
  have HG := gfacts h' hs
  obtain ⟨A, c, rfl, hc, h0⟩ := strs_cell h' (Nat.le_refl _)
  have sz : ∀ l ∈ ls, (⟨l.toArray⟩ : ByteArray).size ≤ 100000 := fun l hl => by rw [Lib.size_eq]; simpa using hs l hl
  match ls, hc, h0, sz, HG with
  | [], _, _, _, _ =>
    rw [show OpsM.get [] = (OpsM.zero, false) by rw [← OpsM.rget_eq]; rfl]
    exact rget3_0 A c w
  | [a], hc, h0, sz, HG =>
    obtain ⟨g, f, rfl, hg, hcl⟩ := h0 (by simp)
    exact rget3_1 g f c ⟨a.toArray⟩ w [a] _ _ hg hc (hcl 0 (by simp)) (sz a (by simp)) HG (by simp [OpsM.cands])
  | [a, b], hc, h0, sz, HG =>
    obtain ⟨g, f, rfl, hg, hcl⟩ := h0 (by simp)
    exact rget3_2 g f c ⟨b.toArray⟩ w [a, b] _ _ hg hc (hcl 1 (by simp)) HG (by simp [OpsM.cands])
  | [a, b, d], hc, h0, sz, HG =>
    obtain ⟨g, f, rfl, hg, hcl⟩ := h0 (by simp)
    exact rget3_3 g f c ⟨b.toArray⟩ ⟨d.toArray⟩ w [a, b, d] _ _ hg hc (hcl 1 (by simp)) (hcl 2 (by simp)) (sz b (by simp)) (sz d (by simp)) HG (by simp [OpsM.cands])
  | a :: b :: d :: e :: r, _, _, _, _ =>
    rw [show OpsM.get (a :: b :: d :: e :: r) = (OpsM.zero, false) by rw [← OpsM.rget_eq]; rfl]
    exact rget3_4 A _ c (by simp) w
end Go.Proofs.YtkkjodjachbifaaGreatDoor
