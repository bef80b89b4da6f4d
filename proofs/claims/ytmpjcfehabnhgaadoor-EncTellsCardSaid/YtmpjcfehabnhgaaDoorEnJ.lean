/-
  THE DOCUMENT's Read of layer 12: what state a text is the key of.
-/
import Derived.Test.YtmpjcfehabnhgaaDoorEnI
import Derived.Test.YtmpjcfehabnhgaaDoorEnF
import Derived.Test.YtmpjcfehabnhgaaDoorK13
import Derived.Test.YtmpjcfehabnhgaaDoorRWords
namespace Go.Proofs.YtmpjcfehabnhgaaDoor
open Go.RowKit Go.Shelf
set_option linter.unusedVariables false
set_option linter.unusedSimpArgs false
open WordM (L)
open BfM (Wr)
open ScM
open EnM

/-- Where the loop over the words stands. -/
def RrRel (ls : List L) (w : World) (v i : Value) (wr : World) : Prop :=
  ∃ k : Nat, k ≤ ls.length ∧ i = .int .i64 k ∧ wr.ownsRow w.heap.size 3 1 v k (((ls.take k).map fun x => (NumM.get x).1).flatMap nuC) ∧ Below w.heap.size w wr
set_option maxHeartbeats 8000000 in
set_option maxRecDepth 100000 in
theorem rread_any (k : ByteArray) (w : World) (hk : k.size ≤ 100000) :
    Calls Tryd.prog 14 #[.string k] w (OfRet (readK k.data.toList) w) := by
  obtain ⟨i0, hi, hz0, hz1, hz2⟩ := info_parts info_nu
  have hw0 := Lib.hid (below_al (Below.refl w.heap.size w) (.cells #[.slice none 0 0, .slice none 0 0] 25))
  have hbr := BoxC.new w 25 #[.slice none 0 0, .slice none 0 0]
  have HW := Lib.hid (rwords_any k (w.alloc (.cells #[.slice none 0 0, .slice none 0 0] 25)) hk)
  have hwl := words_len k.data.toList
  rw [← Lib.size_eq] at hwl
  have hwm := Lib.hid (fun x (hx : x ∈ WordM.words k.data.toList) => show x.length ≤ 1000000 from by have := words_mem_len hx; rw [← Lib.size_eq] at this; omega)
  have hz : Tryd.prog.cellsOf 25 = 2 := by kernel_rfl
  have HNK := Lib.hid (show numsK k.data.toList = (WordM.words k.data.toList).map fun x => (NumM.get x).1 from rfl)
  have HNO := Lib.hid (fun h => readK_none (k := k.data.toList) h)
  have HSO := Lib.hid (fun s h => readK_some (k := k.data.toList) (s := s) h)
  have HIN := Lib.hid (fun s h => ofN_in (k := k.data.toList) (s := s) h)
  have HLE := Lib.hid (fun s (h : ofN (numsK k.data.toList) = some s) => ofN_len h)
  generalize hws : WordM.words k.data.toList = ws at *
  generalize hnk : numsK k.data.toList = nk at *
  generalize hrk : readK k.data.toList = rk at *
  obtain ⟨gr, hgr⟩ : ∃ g, g = w.heap.size := ⟨_, rfl⟩
  have hlo : w.heap.size ≤ gr := by omega
  have HHR := Lib.hid (show BoxC (w.alloc (.cells #[.slice none 0 0, .slice none 0 0] 25)) gr 25 #[.slice none 0 0, .slice none 0 0] from by rw [hgr]; exact hbr)
  have HGR := Lib.hid hgr
  clear hbr hnk hrk hws hgr
  go_enter Tryd.func14, Tryd.ntmps14
  go_wp2_with (go_at_call 30; refine HW.out.mono ?_)
  rintro e w1 ⟨uw, rfl, how, hb1⟩
  rw [← HGR.out]
  have HB1 := Lib.hid (hw0.out.trans (hb1.mono hw0.out.size))
  have HR1 := Lib.hid (HHR.out.below hb1 HHR.out.lt)
  obtain ⟨A1, c1, rfl, ha1, ha2, ha3⟩ := strs_own how
  unfold maxLen at ha2
  have HA3 := Lib.hid ha3
  have HST := Lib.hid (show RrRel ws w1 (.slice none 0 0) (.int .i64 0) w1 from ⟨0, Nat.zero_le _, rfl, World.ownsRow_nil _ _ _ _, Below.refl _ _⟩)
  clear HW HHR hb1 how hw0 ha3
  go_wp2
  go_loopw [5, 6] (fun v i wr => RrRel ws w1 v i wr) (fun _ i _ => ws.length - (intOf i).toNat)
  case atStart => exact HST.out
  case round =>
    clear HST
    obtain ⟨k9, hk9, rfl, hown, hB⟩ := hrel
    by_cases hlt : k9 < ws.length
    · obtain ⟨b1, f1, rfl, hb1, hcl⟩ := HA3.out (by omega)
      have e1 : wr.cell? ⟨b1, f1 + k9, none⟩ = some (sv ws[k9]) := (hB.cell (p := ⟨b1, f1 + k9, none⟩) hb1).trans (hcl k9 hlt)
      unfold sv at e1
      have HT := Lib.hid (show ws.take (k9 + 1) = ws.take k9 ++ [ws[k9]] from List.take_succ_eq_append_getElem hlt)
      have HG := Lib.hid (rget_any ⟨ws[k9].toArray⟩ wr (by have := hwm.out _ (List.getElem_mem hlt); unfold maxLen; rw [Lib.size_eq]; show ws[k9].length ≤ _; omega))
      obtain ⟨x, hx⟩ : ∃ x, x = ws[k9] := ⟨_, rfl⟩
      rw [← hx] at e1 HT HG
      replace HG : Hid (Calls Tryd.prog 31 #[.string ⟨x.toArray⟩] wr fun e w' => e = .returned (.tuple #[.int .i64 (NumM.get x).1, .bool (NumM.get x).2]) ∧ Below wr.heap.size wr w') := HG
      obtain ⟨q, hq⟩ : ∃ q, q = NumM.get x := ⟨_, rfl⟩
      rw [← hq] at HG
      have HQ := Lib.hid hq
      obtain ⟨n, b⟩ := q
      clear hx hcl hq
      dsimp only at HG
      go_wp2_with (go_at_call 31; refine HG.out.mono ?_)
      rintro e wa ⟨rfl, hb3⟩
      have hBa := hB.trans (hb3.mono hB.size)
      have hOa := own_below hown hb3
      have hsz := hBa.size
      clear HG e1 hown hB hb3
      go_wp2_with (at_builtin; refine wpList_append_own _ rfl _ _ 22 rfl w1.heap.size 3 i0 (.int .i64 0) 1 8 Tryd.underlying22 hi hz0 hz1 hz2 rfl (by decide) _ _ _ rfl (hOa.alloc _) ⟨wa.heap.size, 0, none⟩ 1 1 [.int .i64 n] rfl rfl (cell_one_new _ _ _) (by simp [Value.oneCell']) (by unfold maxLen; omega) (by omega) (by simp; omega) ?_; intro v1 w9 hown1 hg1 _)
      have hB1 := below_append (hBa.alloc hBa.size (.cells #[.int .i64 n] 3)) (hOa.alloc _) (Nat.le_refl _) (by simp; omega) hg1
      go_roundw
      case rel => exact ⟨k9 + 1, by omega, by go_num, by rw [HT.out, List.map_append, List.flatMap_append]; simp only [List.map_cons, List.map_nil, ← HQ.out]; simpa [nuC] using hown1, hB1⟩
      case measure => simp [intOf]; omega
    · obtain rfl : ws.length = k9 := by omega
      rw [List.take_length] at hown
      have hou := own_len (xs := ws.map fun x => (NumM.get x).1) hown (by simp)
      rw [← HNK.out] at hou
      have hB2 := HB1.out.trans (hB.mono HB1.out.size)
      have HR2 := Lib.hid (HR1.out.below hB HR1.out.lt)
      have hol := Lib.hid (show nk.length = ws.length by rw [HNK.out, List.length_map])
      have HOF := Lib.hid (rof_any wr (Rw.own hou (Nat.le_refl _)) (by have := hol.out; omega))
      have HBB2 := Lib.hid hB2
      obtain ⟨Au, cu, rfl⟩ := own_slice hou
      clear hown hou hB hB2 HR1 HB1 HA3
      go_wp2_with (go_at_call 12; refine HOF.out.mono ?_)
      rintro e w3 ⟨x, rfl, hx, hb3⟩
      have hB3 := HBB2.out.trans (hb3.mono HBB2.out.size)
      have HR3 := Lib.hid (HR2.out.below hb3 HR2.out.lt)
      clear HOF hb3 HR2
      obtain ⟨Am, nm, cm, At, nt, ct, rfl⟩ := hx.slices
      have HXV := Lib.hid (hx.base HBB2.out.size)
      clear hx
      have hal := below_al (Below.refl w3.heap.size w3) (.cells #[.slice Am nm cm, .slice At nt ct] 25)
      have hr4 := HR3.out.below hal HR3.out.lt
      have HB4 := Lib.hid (hB3.trans (hal.mono hB3.size))
      have hx4 := BoxC.new w3 25 #[.slice Am nm cm, .slice At nt ct]
      have HR4 := Lib.hid hr4
      have f0 := hr4.frozen 0
      have f1 := hr4.frozen 1
      have y0 := hr4.cell 0 _ rfl
      have y1 := hr4.cell 1 _ rfl
      have x0 := hx4.cell 0 _ rfl
      have x1 := hx4.cell 1 _ rfl
      have HX4 := Lib.hid hx4
      clear hal hr4 hx4 HR3 hB3
      cases ho : ofN nk with
      | none =>
        have HRK := Lib.hid (HNO.out ho)
        obtain ⟨W9, hW9⟩ : ∃ W, W = ((w3.alloc (.cells #[.slice Am nm cm, .slice At nt ct] 25)).setCell ⟨gr, 0, none⟩ (.slice none 0 0)).setCell ⟨gr, 1, none⟩ (.slice none 0 0) := ⟨_, rfl⟩
        have HB9 := Lib.hid (show BoxC W9 gr 25 #[.slice none 0 0, .slice none 0 0] from by rw [hW9]; exact (HR4.out.set 0 _).set 1 _)
        have HK9 := Lib.hid (show Below w.heap.size w W9 from by rw [hW9]; exact (HB4.out.setCell (p := ⟨gr, 0, none⟩) hlo _).setCell (p := ⟨gr, 1, none⟩) hlo _)
        have HW9 := Lib.hid hW9
        clear hW9 HXV HR4 HX4 HB4 HNO HSO HIN HLE HNK ho hol
        simp only [Option.isSome_none]
        go_wp2_with fail
        rw [← HW9.out]
        clear x0 x1 y0 y1 f0 f1
        have r0 := HB9.out.cell 0 _ rfl
        have r1 := HB9.out.cell 1 _ rfl
        refine bodyPost_ret (v := .tuple #[.agg #[.slice none 0 0, .slice none 0 0], .bool false]) (by simp [results, Tryd.results14, go_sem, r0, r1, hz]) rfl ?_
        rw [HRK.out]
        exact ⟨_, rfl, reps_zero _ _, HK9.out⟩
      | some s =>
        rw [ho] at HXV
        have HSS := Lib.hid (HSO.out s ho)
        have hlen := HLE.out s ho
        have hnl := hol.out
        have HXW := Lib.hid (HXV.out.below (below_al (Below.refl w3.heap.size w3) (.cells #[.slice Am nm cm, .slice At nt ct] 25)))
        have HKY := Lib.hid (rkey_any _ (HXW.out.read (Nat.le_refl _)) (Nat.le_refl _) (HIN.out s ho) (by show (numsS s).length ≤ _; omega))
        obtain ⟨ky, hky⟩ : ∃ x, x = keyS s := ⟨_, rfl⟩
        replace HKY : Hid (Calls Tryd.prog 19 #[.agg #[.slice Am nm cm, .slice At nt ct]] (w3.alloc (.cells #[.slice Am nm cm, .slice At nt ct] 25)) fun e w' => e = .returned (.string ⟨(keyS s).toArray⟩) ∧ Below (w3.alloc (.cells #[.slice Am nm cm, .slice At nt ct] 25)).heap.size (w3.alloc (.cells #[.slice Am nm cm, .slice At nt ct] 25)) w') := HKY
        rw [← hky] at HKY HSS
        have HKE := Lib.hid hky
        clear hky hlen hnl HNO HSO HIN HLE HNK hol HXV
        simp only [Option.isSome_some]
        go_wp2_with (go_at_call 19; refine HKY.out.mono ?_)
        rintro e w5 ⟨rfl, hb5⟩
        have hw34 := below_al (Below.refl w3.heap.size w3) (.cells #[.slice Am nm cm, .slice At nt ct] 25)
        have HB5 := Lib.hid (HB4.out.trans (hb5.mono HB4.out.size))
        have HR5 := Lib.hid (HR4.out.below hb5 HR4.out.lt)
        have HX5 := Lib.hid (HX4.out.below hb5 HX4.out.lt)
        have HV5 := Lib.hid (HXW.out.below hb5)
        clear f0 f1 y0 y1 x0 x1 hb5 hw34 HB4 HR4 HX4 HKY HXW
        have f0 := HR5.out.frozen 0
        have f1 := HR5.out.frozen 1
        have y0 := HR5.out.cell 0 _ rfl
        have y1 := HR5.out.cell 1 _ rfl
        have x0 := HX5.out.cell 0 _ rfl
        have x1 := HX5.out.cell 1 _ rfl
        by_cases hq : ky = k.data.toList
        · have HRK := Lib.hid (HSS.out.trans (if_pos hq))
          have qb := (strq k ky true (decide_eq_true hq.symm)).1
          have qc := (strq k ky true (decide_eq_true hq.symm)).2
          obtain ⟨W9, hW9⟩ : ∃ W, W = (w5.setCell ⟨gr, 0, none⟩ (.slice Am nm cm)).setCell ⟨gr, 1, none⟩ (.slice At nt ct) := ⟨_, rfl⟩
          have HB9 := Lib.hid (show BoxC W9 gr 25 #[.slice Am nm cm, .slice At nt ct] from by rw [hW9]; exact (HR5.out.set 0 _).set 1 _)
          have HK9 := Lib.hid (show Below w.heap.size w W9 from by rw [hW9]; exact (HB5.out.setCell (p := ⟨gr, 0, none⟩) hlo _).setCell (p := ⟨gr, 1, none⟩) hlo _)
          have HV9 := Lib.hid (show repS w.heap.size W9 (.agg #[.slice Am nm cm, .slice At nt ct]) ((some s).getD ⟨[], []⟩) from by
            rw [hW9]; exact (HV5.out.box HR5.out (by decide) (by decide) (by decide) 0 _).box (HR5.out.set 0 _) (by decide) (by decide) (by decide) 1 _)
          have HW9 := Lib.hid hW9
          clear hW9 HR5 HX5 HB5 HV5 hq HSS HKE
          go_wp2_with fail
          rw [← HW9.out]
          clear x0 x1 y0 y1 f0 f1
          have r0 := HB9.out.cell 0 _ rfl
          have r1 := HB9.out.cell 1 _ rfl
          refine bodyPost_ret (v := .tuple #[.agg #[.slice Am nm cm, .slice At nt ct], .bool true]) (by simp [results, Tryd.results14, go_sem, r0, r1, hz]) rfl ?_
          rw [HRK.out]
          exact ⟨_, rfl, HV9.out, HK9.out⟩
        · have HRK := Lib.hid (HSS.out.trans (if_neg hq))
          have qb := (strq k ky false (decide_eq_false (fun e => hq e.symm))).1
          have qc := (strq k ky false (decide_eq_false (fun e => hq e.symm))).2
          obtain ⟨W9, hW9⟩ : ∃ W, W = (w5.setCell ⟨gr, 0, none⟩ (.slice none 0 0)).setCell ⟨gr, 1, none⟩ (.slice none 0 0) := ⟨_, rfl⟩
          have HB9 := Lib.hid (show BoxC W9 gr 25 #[.slice none 0 0, .slice none 0 0] from by rw [hW9]; exact (HR5.out.set 0 _).set 1 _)
          have HK9 := Lib.hid (show Below w.heap.size w W9 from by rw [hW9]; exact (HB5.out.setCell (p := ⟨gr, 0, none⟩) hlo _).setCell (p := ⟨gr, 1, none⟩) hlo _)
          have HW9 := Lib.hid hW9
          clear hW9 HR5 HX5 HB5 HV5 hq HSS HKE
          go_wp2_with fail
          rw [← HW9.out]
          clear x0 x1 y0 y1 f0 f1
          have r0 := HB9.out.cell 0 _ rfl
          have r1 := HB9.out.cell 1 _ rfl
          refine bodyPost_ret (v := .tuple #[.agg #[.slice none 0 0, .slice none 0 0], .bool false]) (by simp [results, Tryd.results14, go_sem, r0, r1, hz]) rfl ?_
          rw [HRK.out]
          exact ⟨_, rfl, reps_zero _ _, HK9.out⟩
end Go.Proofs.YtmpjcfehabnhgaaDoor
