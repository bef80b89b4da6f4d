/-
  valid.firstFault: the first thing that is wrong with a program, as an error.
-/
import Derived.Test.YtkkjodjachbifaaGreatDoorLGr
import Derived.Test.YtkkjodjachbifaaGreatDoorAtomF
import Derived.Test.YtkkjodjachbifaaGreatDoorLocA
namespace Go.Proofs.YtkkjodjachbifaaGreatDoor
open Go.RowKit
set_option linter.unusedVariables false
set_option linter.unusedSimpArgs false
open WordM (L)
open VM

theorem cellsC_zero {F : Fl} (h : cellsC F = 0) : ∀ j, j < F.init.length → cellC F.init j = 0 := by
  intro j hj
  unfold cellsC at h
  cases e : firstAt (cellC F.init) F.init.length with
  | none => exact firstAt_none.1 e j hj
  | some k =>
    rw [e] at h
    exact absurd h (firstAt_some e).2.1
theorem atomT_zero {n : Nat} {am : List AtomM.At} (h : (atomT n am).2.2 = 0) : ∀ j, j < am.length → atC n am j = 0 := by
  intro j hj
  unfold atomT at h
  cases e : firstAt (atC n am) am.length with
  | none => exact firstAt_none.1 e j hj
  | some k =>
    rw [e] at h
    exact absurd h (firstAt_some e).2.1
theorem frameC_zero {F : Fl} (h : frameC F = 0) : WordM.nameB F.name = true ∧ cellsC F = 0 := by
  unfold frameC at h
  by_cases c : WordM.nameB F.name = false
  · rw [if_pos c] at h; cases h
  · rw [if_neg c] at h; exact ⟨by simpa using c, h⟩
theorem cell_name {cs : List (L × Int)} {j : Nat} (hj : j < cs.length) (h : cellC cs j = 0) : WordM.nameB cs[j].1 = true := by
  rw [cellC_at hj] at h
  by_cases c : WordM.nameB cs[j].1 = false
  · rw [if_pos c] at h; cases h
  · simpa using c
theorem atom_asked {n j : Nat} {am : List AtomM.At} (hj : j < am.length) (h : atC n am j = 0) : AtomM.askedA am[j] = true := by
  rw [atC_at hj] at h
  by_cases c6 : 6 ≤ j
  · rw [if_pos c6] at h; cases h
  · rw [if_neg c6] at h
    by_cases c : AtomM.askedA am[j] = false
    · rw [if_pos c] at h; cases h
    · simpa using c
theorem tnames_ne : ∀ (ts : List (List OpsM.Ln)) (x : L), x ∈ tnames ts → x ≠ []
  | [], x, h => by simp [tnames] at h
  | ls :: r, x, h => by
    rcases List.mem_append.1 h with h | h
    · unfold lnames at h
      simpa using (List.mem_filter.1 h).2
    · exact tnames_ne r x h
theorem names_ok {F : Fl} (h1 : frameC F = 0) (h2 : (atomT F.ths.length F.cond).2.2 = 0) : NamesOk F := by
  intro x hx
  rcases List.mem_append.1 hx with h | h
  · obtain ⟨c, hc, rfl⟩ := List.mem_map.1 h
    obtain ⟨j, hj, rfl⟩ := List.mem_iff_getElem.1 hc
    exact AtomM.name_ne (cell_name hj (cellsC_zero (frameC_zero h1).2 j hj))
  · rcases List.mem_append.1 h with h | h
    · exact tnames_ne _ x h
    · obtain ⟨a, ha, rfl⟩ := List.mem_map.1 h
      obtain ⟨hm, ht⟩ := List.mem_filter.1 ha
      obtain ⟨j, hj, rfl⟩ := List.mem_iff_getElem.1 hm
      have hq := atom_asked hj (atomT_zero h2 j hj)
      have ht' : (F.cond[j]).t = -1 := by simpa using ht
      unfold AtomM.askedA AtomM.asked at hq
      rw [if_pos ht'] at hq
      exact AtomM.name_ne hq

/-- The error that a number and a place make. -/
def chkV (F : Fl) : Value := fltv (chk F).1 (chk F).2.1 (chk F).2.2
def FfRel (F : Fl) (vi vt vc : Value) (w : World) (i : Value) (wr : World) : Prop :=
  ∃ k : Nat, k ≤ 4 ∧ i = .int .i64 k ∧ (0 < k → frameC F = 0) ∧ (1 < k → (lineT F.ths).2.2 = 0) ∧ (2 < k → (atomT F.ths.length F.cond).2.2 = 0) ∧ (3 < k → locC F = 0) ∧ Below w.heap.size w wr ∧ FlBox wr w.heap.size ⟨F.name.toArray⟩ vi vt vc F.all ∧
    wr.cell? ⟨w.heap.size + 1, 0, none⟩ = some (.func (.func 70) #[] #[]) ∧ wr.cell? ⟨w.heap.size + 1, 1, none⟩ = some (.func (.func 71) #[] #[]) ∧
    wr.cell? ⟨w.heap.size + 1, 2, none⟩ = some (.func (.func 72) #[] #[]) ∧ wr.cell? ⟨w.heap.size + 1, 3, none⟩ = some (.func (.func 73) #[] #[])
set_option maxHeartbeats 4000000 in
set_option maxRecDepth 100000 in
theorem first_any {B : Nat} {v : Value} {F : Fl} (w : World) (hr : Regs w) (hv : FlV B w v F) (hBB : B ≤ w.heap.size) (ok : FlOk F) :
    Calls Tryz.prog 59 #[v] w fun e w' => e = .returned (chkV F) ∧ Below w.heap.size w w' := by
  obtain ⟨vi, vt, vc, rfl, hm⟩ := hv
  have HM := Lib.hid hm
  have HR := Lib.hid hr
  have HOK := Lib.hid ok
  have HV : ∀ W, Below w.heap.size w W → FlV W.heap.size W (flv ⟨F.name.toArray⟩ vi vt vc F.all) F := fun W hW => ⟨vi, vt, vc, rfl, (HM.out.below (hW.mono hBB)).more (Nat.le_trans hBB hW.size)⟩
  have H0 := Lib.hid (fun W (hW : Below w.heap.size w W) => frame_any W (HR.out.below hW) (HV W hW) (Nat.le_refl _) HOK.out)
  have H1 := Lib.hid (fun W (hW : Below w.heap.size w W) => line_any W (HR.out.below hW) (HV W hW) (Nat.le_refl _) HOK.out)
  have H2 := Lib.hid (fun W (hW : Below w.heap.size w W) => atomf_any W (HR.out.below hW) (HV W hW) (Nat.le_refl _) HOK.out)
  have H3 := Lib.hid (fun W (hW : Below w.heap.size w W) (hn : NamesOk F) => locf_any W (HV W hW) (Nat.le_refl _) HOK.out hn)
  obtain ⟨⟨A0, c0, rfl, _⟩, ⟨A2, c2, rfl, _⟩, ⟨A1, c1, rfl, _⟩⟩ := hm
  clear hr ok HM HV
  unfold flv at *
  have hB0 := below_al (below_al (Below.refl w.heap.size w) (.cells #[.string ⟨F.name.toArray⟩, .slice A0 F.init.length c0, .slice A2 F.ths.length c2, .bool F.all, .slice A1 F.cond.length c1] 26)) (.cells #[.func (.func 70) #[] #[], .func (.func 71) #[] #[], .func (.func 72) #[] #[], .func (.func 73) #[] #[]] 106)
  go_enter Tryz.func59, Tryz.ntmps59
  go_wp2
  go_loopw [8] (fun i wr => FfRel F (.slice A0 F.init.length c0) (.slice A2 F.ths.length c2) (.slice A1 F.cond.length c1) w i wr) (fun i _ => 4 - (intOf i).toNat)
  case atStart =>
    refine ⟨0, by omega, rfl, fun h => absurd h (by omega), fun h => absurd h (by omega), fun h => absurd h (by omega), fun h => absurd h (by omega), hB0, (FlBox.at (w := w) rfl ⟨F.name.toArray⟩ (.slice A0 F.init.length c0) (.slice A2 F.ths.length c2) (.slice A1 F.cond.length c1) F.all 26).below (below_al (Below.refl _ _) _), ?_, ?_, ?_, ?_⟩ <;> simp
  case round =>
    obtain ⟨k, hk, rfl, hz0, hz1, hz2, hz3, hB, hbx, f0, f1, f2, f3⟩ := hrel
    obtain ⟨t0, t1, t2, t3, t4⟩ := hbx
    have hbx : Hid (FlBox wr w.heap.size ⟨F.name.toArray⟩ (.slice A0 F.init.length c0) (.slice A2 F.ths.length c2) (.slice A1 F.cond.length c1) F.all) := Lib.hid ⟨t0, t1, t2, t3, t4⟩
    have hlt0 := lt_of_cell t0
    have hlt1 := lt_of_cell f0
    by_cases h4 : k < 4
    · have hcase : k = 0 ∨ k = 1 ∨ k = 2 ∨ k = 3 := by omega
      rcases hcase with rfl | rfl | rfl | rfl
      · have HK := Lib.hid (H0.out _ hB)
        by_cases hc : frameC F = 0
        · have HZ := Lib.hid hc
          have E := Lib.hid (show fltv (-1) (-1) (frameC F) = .nilIface by rw [hc]; rfl)
          replace HK := Lib.hid (E.out ▸ HK.out)
          have hzz := Lib.hid (And.intro hz0 (And.intro hz1 (And.intro hz2 hz3)))
          clear hc hz0 hz1 hz2 hz3
          go_wp2_with fail
          refine HK.out.mono ?_
          rintro e w1 ⟨rfl, hb⟩
          have hbx1 := Lib.hid (hbx.out.below hb)
          have g0 := kc hb f0
          have g1 := kc hb f1
          have g2 := kc hb f2
          have g3 := kc hb f3
          have hB1 := Lib.hid (chain hB hb)
          clear t0 t1 t2 t3 t4 f0 f1 f2 f3 hB hb HK
          go_wp2
          go_roundw
          case rel => exact ⟨1, by omega, by go_num, fun h => HZ.out, fun h => absurd h (by omega), fun h => absurd h (by omega), fun h => absurd h (by omega), hB1.out, hbx1.out, g0, g1, g2, g3⟩
          case measure => simp [intOf]
        · have E := Lib.hid (show chkV F = fltv (-1) (-1) (frameC F) by unfold chkV chk; rw [if_pos hc])
          obtain ⟨a, b, c, hE⟩ : ∃ a b c, fltv (-1) (-1) (frameC F) = .iface 105 (.agg #[.int .i64 a, .int .i64 b, .iface 35 (.int .i64 c)]) := ⟨_, _, _, fltv_no hc⟩
          rw [hE] at E HK
          clear hc hz0 hz1 hz2 hz3 hE
          go_wp2_with fail
          refine HK.out.mono ?_
          rintro e w1 ⟨rfl, hb⟩
          have hB1 := chain hB hb
          clear t0 t1 t2 t3 t4 f0 f1 f2 f3 hB hb HK
          go_wp2
          go_ret
          exact ⟨congrArg Ending.returned E.out.symm, hB1⟩
      · have HK := Lib.hid (H1.out _ hB)
        by_cases hc : (lineT F.ths).2.2 = 0
        · have HZ := Lib.hid hc
          have E := Lib.hid (show fltv (lineT F.ths).1 (lineT F.ths).2.1 (lineT F.ths).2.2 = .nilIface by rw [hc]; rfl)
          replace HK := Lib.hid (E.out ▸ HK.out)
          have hzz := Lib.hid (And.intro hz0 (And.intro hz1 (And.intro hz2 hz3)))
          clear hc hz0 hz1 hz2 hz3
          go_wp2_with fail
          refine HK.out.mono ?_
          rintro e w1 ⟨rfl, hb⟩
          have hbx1 := Lib.hid (hbx.out.below hb)
          have g0 := kc hb f0
          have g1 := kc hb f1
          have g2 := kc hb f2
          have g3 := kc hb f3
          have hB1 := Lib.hid (chain hB hb)
          clear t0 t1 t2 t3 t4 f0 f1 f2 f3 hB hb HK
          go_wp2
          go_roundw
          case rel => exact ⟨2, by omega, by go_num, fun h => hzz.out.1 (by omega), fun h => HZ.out, fun h => absurd h (by omega), fun h => absurd h (by omega), hB1.out, hbx1.out, g0, g1, g2, g3⟩
          case measure => simp [intOf]
        · have E := Lib.hid (show chkV F = fltv (lineT F.ths).1 (lineT F.ths).2.1 (lineT F.ths).2.2 by unfold chkV chk; rw [if_neg (by rw [hz0 (by omega)]; simp), if_pos hc])
          obtain ⟨a, b, c, hE⟩ : ∃ a b c, fltv (lineT F.ths).1 (lineT F.ths).2.1 (lineT F.ths).2.2 = .iface 105 (.agg #[.int .i64 a, .int .i64 b, .iface 35 (.int .i64 c)]) := ⟨_, _, _, fltv_no hc⟩
          rw [hE] at E HK
          clear hc hz0 hz1 hz2 hz3 hE
          go_wp2_with fail
          refine HK.out.mono ?_
          rintro e w1 ⟨rfl, hb⟩
          have hB1 := chain hB hb
          clear t0 t1 t2 t3 t4 f0 f1 f2 f3 hB hb HK
          go_wp2
          go_ret
          exact ⟨congrArg Ending.returned E.out.symm, hB1⟩
      · have HK := Lib.hid (H2.out _ hB)
        by_cases hc : (atomT F.ths.length F.cond).2.2 = 0
        · have HZ := Lib.hid hc
          have E := Lib.hid (show fltv (atomT F.ths.length F.cond).1 (atomT F.ths.length F.cond).2.1 (atomT F.ths.length F.cond).2.2 = .nilIface by rw [hc]; rfl)
          replace HK := Lib.hid (E.out ▸ HK.out)
          have hzz := Lib.hid (And.intro hz0 (And.intro hz1 (And.intro hz2 hz3)))
          clear hc hz0 hz1 hz2 hz3
          go_wp2_with fail
          refine HK.out.mono ?_
          rintro e w1 ⟨rfl, hb⟩
          have hbx1 := Lib.hid (hbx.out.below hb)
          have g0 := kc hb f0
          have g1 := kc hb f1
          have g2 := kc hb f2
          have g3 := kc hb f3
          have hB1 := Lib.hid (chain hB hb)
          clear t0 t1 t2 t3 t4 f0 f1 f2 f3 hB hb HK
          go_wp2
          go_roundw
          case rel => exact ⟨3, by omega, by go_num, fun h => hzz.out.1 (by omega), fun h => hzz.out.2.1 (by omega), fun h => HZ.out, fun h => absurd h (by omega), hB1.out, hbx1.out, g0, g1, g2, g3⟩
          case measure => simp [intOf]
        · have E := Lib.hid (show chkV F = fltv (atomT F.ths.length F.cond).1 (atomT F.ths.length F.cond).2.1 (atomT F.ths.length F.cond).2.2 by unfold chkV chk; rw [if_neg (by rw [hz0 (by omega)]; simp), if_neg (by rw [hz1 (by omega)]; simp), if_pos hc])
          obtain ⟨a, b, c, hE⟩ : ∃ a b c, fltv (atomT F.ths.length F.cond).1 (atomT F.ths.length F.cond).2.1 (atomT F.ths.length F.cond).2.2 = .iface 105 (.agg #[.int .i64 a, .int .i64 b, .iface 35 (.int .i64 c)]) := ⟨_, _, _, fltv_no hc⟩
          rw [hE] at E HK
          clear hc hz0 hz1 hz2 hz3 hE
          go_wp2_with fail
          refine HK.out.mono ?_
          rintro e w1 ⟨rfl, hb⟩
          have hB1 := chain hB hb
          clear t0 t1 t2 t3 t4 f0 f1 f2 f3 hB hb HK
          go_wp2
          go_ret
          exact ⟨congrArg Ending.returned E.out.symm, hB1⟩
      · have HK := Lib.hid (H3.out _ hB (names_ok (hz0 (by omega)) (hz2 (by omega))))
        by_cases hc : locC F = 0
        · have HZ := Lib.hid hc
          have E := Lib.hid (show fltv (-1) (-1) (locC F) = .nilIface by rw [hc]; rfl)
          replace HK := Lib.hid (E.out ▸ HK.out)
          have hzz := Lib.hid (And.intro hz0 (And.intro hz1 (And.intro hz2 hz3)))
          clear hc hz0 hz1 hz2 hz3
          go_wp2_with fail
          refine HK.out.mono ?_
          rintro e w1 ⟨rfl, hb⟩
          have hbx1 := Lib.hid (hbx.out.below hb)
          have g0 := kc hb f0
          have g1 := kc hb f1
          have g2 := kc hb f2
          have g3 := kc hb f3
          have hB1 := Lib.hid (chain hB hb)
          clear t0 t1 t2 t3 t4 f0 f1 f2 f3 hB hb HK
          go_wp2
          go_roundw
          case rel => exact ⟨4, by omega, by go_num, fun h => hzz.out.1 (by omega), fun h => hzz.out.2.1 (by omega), fun h => hzz.out.2.2.1 (by omega), fun h => HZ.out, hB1.out, hbx1.out, g0, g1, g2, g3⟩
          case measure => simp [intOf]
        · have E := Lib.hid (show chkV F = fltv (-1) (-1) (locC F) by unfold chkV chk; rw [if_neg (by rw [hz0 (by omega)]; simp), if_neg (by rw [hz1 (by omega)]; simp), if_neg (by rw [hz2 (by omega)]; simp), if_pos hc])
          obtain ⟨a, b, c, hE⟩ : ∃ a b c, fltv (-1) (-1) (locC F) = .iface 105 (.agg #[.int .i64 a, .int .i64 b, .iface 35 (.int .i64 c)]) := ⟨_, _, _, fltv_no hc⟩
          rw [hE] at E HK
          clear hc hz0 hz1 hz2 hz3 hE
          go_wp2_with fail
          refine HK.out.mono ?_
          rintro e w1 ⟨rfl, hb⟩
          have hB1 := chain hB hb
          clear t0 t1 t2 t3 t4 f0 f1 f2 f3 hB hb HK
          go_wp2
          go_ret
          exact ⟨congrArg Ending.returned E.out.symm, hB1⟩
    · obtain rfl : k = 4 := by omega
      have E := Lib.hid (show chkV F = .nilIface by unfold chkV chk; rw [if_neg (by rw [hz0 (by omega)]; simp), if_neg (by rw [hz1 (by omega)]; simp), if_neg (by rw [hz2 (by omega)]; simp), if_neg (by rw [hz3 (by omega)]; simp)]; rfl)
      clear hz0 hz1 hz2 hz3
      go_wp2
      go_ret
      exact ⟨congrArg Ending.returned E.out.symm, hB⟩
end Go.Proofs.YtkkjodjachbifaaGreatDoor
