/-
  valid.lineFault: the first wrong line of the first wrong thread.
  valid.firstFault: the first thing that is wrong with a program, as an error.
  valid.Check, Right: where the first wrong thing stands, and what it is.
-/
import Derived.Test.YtaelfjphgdlbcaaGreatDoorFrmA
import Derived.Test.YtaelfjphgdlbcaaGreatDoorRdr
import Derived.Test.YtaelfjphgdlbcaaGreatDoorLocA
import Derived.Test.YtaelfjphgdlbcaaGreatDoorErr
namespace Go.Proofs.YtaelfjphgdlbcaaGreatDoor
open Go.RowKit Go.WideMaps Go.Maps
set_option linter.unusedVariables false
set_option linter.unusedSimpArgs false
open WordM (L)
open VM

theorem getD_at {α : Type} (ts : List α) (k : Nat) (z : α) (h : k < ts.length) : ts.getD k z = ts[k] := by
  rw [List.getD_eq_getElem?_getD, List.getElem?_eq_getElem h]; rfl
def LoRel (ts : List (List OpsM.Ln)) (w : World) (i : Value) (wr : World) : Prop :=
  ∃ k : Nat, k ≤ ts.length ∧ i = .int .i64 k ∧ (∀ j, j < k → thC (ts.getD j []) = none) ∧ Below w.heap.size w wr
def LiRel (ls : List OpsM.Ln) (h ga gb : Nat) (B : Nat) (v : Value) (w : World) (i : Value) (wr : World) : Prop :=
  ∃ k : Nat, k ≤ ls.length ∧ i = .int .i64 k ∧ (∀ j, j < k → lnC ls j = 0) ∧ RdK wr h ga gb ls k ∧ Below w.heap.size w wr ∧ Lns B wr v ls
set_option maxHeartbeats 4000000 in
set_option maxRecDepth 100000 in
theorem line_any {B : Nat} {v : Value} {F : Fl} (w : World) (hr : Regs w) (hv : FlV B w v F) (hBB : B ≤ w.heap.size) (ok : FlOk F) :
    Calls Tryz.prog 49 #[v] w fun e w' => e = .returned (fltv (lineT F.ths).1 (lineT F.ths).2.1 (lineT F.ths).2.2) ∧ Below w.heap.size w w' := by
  obtain ⟨vi, vt, vc, rfl, hm⟩ := hv
  unfold flv
  have HR := Lib.hid hr
  obtain ⟨hmi, hmt, _⟩ := hm
  obtain ⟨A2, c2, rfl, hb1, hb2, hb3⟩ := hmt
  have hl2 := ok.nums.2.1
  have HO := Lib.hid ok.ths
  have hB0 := below_al (Below.refl w.heap.size w) (.cells #[.string ⟨F.name.toArray⟩, vi, .slice A2 F.ths.length c2, .bool F.all, vc] 39)
  clear hmi hr ok
  unfold maxLen at hb2
  go_enter Tryz.func49, Tryz.ntmps49
  go_wp2
  go_loopw [12] (fun i wr => LoRel F.ths w i wr) (fun i _ => F.ths.length - (intOf i).toNat)
  case atStart => exact ⟨0, Nat.zero_le _, rfl, fun j h => absurd h (Nat.not_lt_zero j), hB0⟩
  case round =>
    obtain ⟨k, hk, rfl, hall, hB⟩ := hrel
    have HA := Lib.hid hall
    clear hall
    by_cases hlt : k < F.ths.length
    · obtain ⟨b1, f1, rfl, hb1, hcl⟩ := hb3 (by omega)
      obtain ⟨vl, d0, hLn⟩ := (hcl k hlt).below (hB.mono hBB) hb1
      have HOk := HO.out F.ths[k] (List.getElem_mem _)
      have HD := Lib.hid (getD_at F.ths k [] hlt)
      obtain ⟨ls, hx⟩ : ∃ x, x = F.ths[k] := ⟨_, rfl⟩
      rw [← hx] at hLn HOk
      have HX := Lib.hid hx
      have HLn := Lib.hid hLn
      have hln := HOk.1
      have HS := Lib.hid HOk.2
      clear hx hcl hb3 HOk hLn HO
      obtain ⟨A3, c3, rfl, he1, he2, he3⟩ := HLn.out
      unfold maxLen at he2
      have hB1 := below_al hB (.cells #[.slice A3 ls.length c3] 45)
      have HR1 := Lib.hid (reader_any _ (HLn.out.below (below_al (Below.refl wr.heap.size wr) (.cells #[.slice A3 ls.length c3] 45) |>.mono (Nat.le_trans hBB hB.size))) (Nat.le_trans hBB hB1.size) (fun l hl => (HS.out l hl).2.2))
      go_wp2_with fail
      refine HR1.out.mono ?_
      rintro e w1 ⟨h, ga, gb, Db, rfl, hga, hS, hb⟩
      have hB2 := hB1.trans (hb.mono hB1.size)
      have HK := Lib.hid (RdK.start hS)
      obtain ⟨d1, _⟩ := kept_box hb 0 rfl
      clear hS
      have hgw : w.heap.size ≤ ga := by have := hB.size; simp at hga; omega
      have HL1 := Lib.hid ((HLn.out.below (below_al (Below.refl wr.heap.size wr) (.cells #[.slice A3 ls.length c3] 45) |>.mono (Nat.le_trans hBB hB.size))).below (hb.mono (Nat.le_trans hBB hB1.size)))
      clear HR1 HLn d0 he3 hb hga
      go_wp2
      go_loopw [23] (fun i wq => LiRel ls h ga gb B (.slice A3 ls.length c3) w i wq) (fun i _ => ls.length - (intOf i).toNat)
      case atStart => exact ⟨0, Nat.zero_le _, rfl, fun j h => absurd h (Nat.not_lt_zero j), HK.out, hB2, HL1.out⟩
      case round =>
        obtain ⟨m, hmk, rfl, hal, hK, hB3, hLn3⟩ := hrel
        have HAl := Lib.hid hal
        clear hal HK HL1 hB2 hB1 d1
        by_cases hlm : m < ls.length
        · obtain ⟨A4, c4, e4, _, _, he3⟩ := id hLn3
          injection e4 with e4 _ e5
          subst e4; subst e5
          obtain ⟨b3, f3, rfl, hb3, hc3⟩ := he3 (by omega)
          obtain ⟨d0, d1, d2, d3, d4⟩ := hc3 m hlm
          have hxs := HS.out ls[m] (List.getElem_mem _)
          have HKx := Lib.hid (read_k _ (HR.out.below (below_al hB3 (.cells #[.int .i64 ls[m].op, .string ⟨ls[m].reg.toArray⟩, .string ⟨ls[m].loc.toArray⟩, .string ⟨ls[m].label.toArray⟩, .int .i64 ls[m].n] 42))) (hK.below (below_al (Below.refl _ _) _)) hlm hxs.2.2 hln)
          have hB4 := below_al hB3 (.cells #[.int .i64 ls[m].op, .string ⟨ls[m].reg.toArray⟩, .string ⟨ls[m].loc.toArray⟩, .string ⟨ls[m].label.toArray⟩, .int .i64 ls[m].n] 42)
          have HL3 := Lib.hid (hLn3.below (below_al (Below.refl wr.heap.size wr) (.cells #[.int .i64 ls[m].op, .string ⟨ls[m].reg.toArray⟩, .string ⟨ls[m].loc.toArray⟩, .string ⟨ls[m].label.toArray⟩, .int .i64 ls[m].n] 42) |>.mono (Nat.le_trans hBB hB3.size)))
          obtain ⟨x, hx⟩ : ∃ x, x = ls[m] := ⟨_, rfl⟩
          rw [← hx] at d0 d1 d2 d3 d4 hB4
          have HX3 := Lib.hid hx
          have HKx := Lib.hid (hx.symm ▸ HKx.out)
          have HL3 := Lib.hid (hx.symm ▸ HL3.out)
          clear hx hc3 hLn3 hxs hK
          by_cases hz : lnC ls m = 0
          · go_wp2_with fail
            refine HKx.out.mono ?_
            rintro e w2 ⟨he, hK2, hb2⟩
            rw [hz] at he
            subst he
            have HK3 := Lib.hid (hK2 hz)
            have hB5 := hB4.trans (hb2.mono hgw)
            have HL4 := Lib.hid (HL3.out.below (hb2.mono (Nat.le_trans hBB hgw)))
            clear hK2 HKx HL3 d0 d1 d2 d3 d4 hb2
            have HZ := Lib.hid hz
            clear hz
            go_wp2
            go_roundw
            case rel =>
              refine ⟨m + 1, by omega, by go_num, fun j hj => ?_, HK3.out, hB5, HL4.out⟩
              by_cases e : j = m
              · rw [e]; exact HZ.out
              · exact HAl.out j (by omega)
            case measure => simp [intOf]; omega
          · have E := Lib.hid (show fltv (lineT F.ths).1 (lineT F.ths).2.1 (lineT F.ths).2.2 = .iface 92 (.agg #[.int .i64 k, .int .i64 m, .iface 32 (.int .i64 (lnC ls m))]) by
              have e : F.ths.getD k [] = ls := HD.out.trans HX.out.symm
              rw [lineT_hit hlt HA.out (by rw [e]; exact hlm) (by rw [e]; exact HAl.out) (by rw [e]; exact hz)]
              simp only [e]
              exact fltv_no hz)
            obtain ⟨c, hc⟩ : ∃ c, c = lnC ls m := ⟨_, rfl⟩
            rw [← hc] at E hz HKx
            have q : (c == 0) = false := by simpa using hz
            clear hc
            go_wp2_with fail
            refine HKx.out.mono ?_
            rintro e w2 ⟨rfl, _, hb2⟩
            have hB5 := hB4.trans (hb2.mono hgw)
            clear HKx HL3 d0 d1 d2 d3 d4 hb2
            go_wp2
            go_ret
            exact ⟨congrArg Ending.returned E.out.symm, hB5⟩
        · obtain rfl : ls.length = m := by omega
          have HT := Lib.hid (thC_none HAl.out)
          clear he2
          go_wp2
          refine ⟨⟨k + 1, by omega, by go_num, fun j hj => ?_, hB3⟩, by simp [intOf]; omega⟩
          by_cases e : j = k
          · rw [e, HD.out, ← HX.out]; exact HT.out
          · exact HA.out j (by omega)
    · obtain rfl : F.ths.length = k := by omega
      have E := Lib.hid (show fltv (lineT F.ths).1 (lineT F.ths).2.1 (lineT F.ths).2.2 = .nilIface by rw [lineT_end HA.out]; rfl)
      clear hb3
      go_wp2
      go_ret
      exact ⟨congrArg Ending.returned E.out.symm, hB⟩
end Go.Proofs.YtaelfjphgdlbcaaGreatDoor
namespace Go.Proofs.YtaelfjphgdlbcaaGreatDoor
open Go.RowKit
set_option linter.unusedVariables false
set_option linter.unusedSimpArgs false
open WordM (L)
open VM

theorem cellsC_zero {F : Fl} (h : cellsC F = 0) : ∀ j, j < F.init.length → cellC F.init j = 0 := by
  intro j hj
  unfold cellsC at h
  cases e : firstAt (cellC F.init) F.init.length with
  | none => exact firstAt_none.1 e j hj
  | some k =>
    rw [e] at h
    exact absurd h (firstAt_some e).2.1
theorem atomT_zero {n : Nat} {am : List AtomM.At} (h : (atomT n am).2.2 = 0) : ∀ j, j < am.length → atC n am j = 0 := by
  intro j hj
  unfold atomT at h
  cases e : firstAt (atC n am) am.length with
  | none => exact firstAt_none.1 e j hj
  | some k =>
    rw [e] at h
    exact absurd h (firstAt_some e).2.1
theorem frameC_zero {F : Fl} (h : frameC F = 0) : WordM.nameB F.name = true ∧ cellsC F = 0 := by
  unfold frameC at h
  by_cases c : WordM.nameB F.name = false
  · rw [if_pos c] at h; cases h
  · rw [if_neg c] at h; exact ⟨by simpa using c, h⟩
theorem cell_name {cs : List (L × Int)} {j : Nat} (hj : j < cs.length) (h : cellC cs j = 0) : WordM.nameB cs[j].1 = true := by
  rw [cellC_at hj] at h
  by_cases c : WordM.nameB cs[j].1 = false
  · rw [if_pos c] at h; cases h
  · simpa using c
theorem atom_asked {n j : Nat} {am : List AtomM.At} (hj : j < am.length) (h : atC n am j = 0) : AtomM.askedA am[j] = true := by
  rw [atC_at hj] at h
  by_cases c6 : 6 ≤ j
  · rw [if_pos c6] at h; cases h
  · rw [if_neg c6] at h
    by_cases c : AtomM.askedA am[j] = false
    · rw [if_pos c] at h; cases h
    · simpa using c
theorem tnames_ne : ∀ (ts : List (List OpsM.Ln)) (x : L), x ∈ tnames ts → x ≠ []
  | [], x, h => by simp [tnames] at h
  | ls :: r, x, h => by
    rcases List.mem_append.1 h with h | h
    · unfold lnames at h
      simpa using (List.mem_filter.1 h).2
    · exact tnames_ne r x h
theorem names_ok {F : Fl} (h1 : frameC F = 0) (h2 : (atomT F.ths.length F.cond).2.2 = 0) : NamesOk F := by
  intro x hx
  rcases List.mem_append.1 hx with h | h
  · obtain ⟨c, hc, rfl⟩ := List.mem_map.1 h
    obtain ⟨j, hj, rfl⟩ := List.mem_iff_getElem.1 hc
    exact AtomM.name_ne (cell_name hj (cellsC_zero (frameC_zero h1).2 j hj))
  · rcases List.mem_append.1 h with h | h
    · exact tnames_ne _ x h
    · obtain ⟨a, ha, rfl⟩ := List.mem_map.1 h
      obtain ⟨hm, ht⟩ := List.mem_filter.1 ha
      obtain ⟨j, hj, rfl⟩ := List.mem_iff_getElem.1 hm
      have hq := atom_asked hj (atomT_zero h2 j hj)
      have ht' : (F.cond[j]).t = -1 := by simpa using ht
      unfold AtomM.askedA AtomM.asked at hq
      rw [if_pos ht'] at hq
      exact AtomM.name_ne hq

/-- The error that a number and a place make. -/
def chkV (F : Fl) : Value := fltv (chk F).1 (chk F).2.1 (chk F).2.2
def FfRel (F : Fl) (vi vt vc : Value) (w : World) (i : Value) (wr : World) : Prop :=
  ∃ k : Nat, k ≤ 4 ∧ i = .int .i64 k ∧ (0 < k → frameC F = 0) ∧ (1 < k → (lineT F.ths).2.2 = 0) ∧ (2 < k → (atomT F.ths.length F.cond).2.2 = 0) ∧ (3 < k → locC F = 0) ∧ Below w.heap.size w wr ∧ FlBox wr w.heap.size ⟨F.name.toArray⟩ vi vt vc F.all ∧
    wr.cell? ⟨w.heap.size + 1, 0, none⟩ = some (.func (.func 48) #[] #[]) ∧ wr.cell? ⟨w.heap.size + 1, 1, none⟩ = some (.func (.func 49) #[] #[]) ∧
    wr.cell? ⟨w.heap.size + 1, 2, none⟩ = some (.func (.func 50) #[] #[]) ∧ wr.cell? ⟨w.heap.size + 1, 3, none⟩ = some (.func (.func 51) #[] #[])
set_option maxHeartbeats 4000000 in
set_option maxRecDepth 100000 in
theorem first_any {B : Nat} {v : Value} {F : Fl} (w : World) (hr : Regs w) (hv : FlV B w v F) (hBB : B ≤ w.heap.size) (ok : FlOk F) :
    Calls Tryz.prog 43 #[v] w fun e w' => e = .returned (chkV F) ∧ Below w.heap.size w w' := by
  obtain ⟨vi, vt, vc, rfl, hm⟩ := hv
  have HM := Lib.hid hm
  have HR := Lib.hid hr
  have HOK := Lib.hid ok
  have HV : ∀ W, Below w.heap.size w W → FlV W.heap.size W (flv ⟨F.name.toArray⟩ vi vt vc F.all) F := fun W hW => ⟨vi, vt, vc, rfl, (HM.out.below (hW.mono hBB)).more (Nat.le_trans hBB hW.size)⟩
  have H0 := Lib.hid (fun W (hW : Below w.heap.size w W) => frame_any W (HR.out.below hW) (HV W hW) (Nat.le_refl _) HOK.out)
  have H1 := Lib.hid (fun W (hW : Below w.heap.size w W) => line_any W (HR.out.below hW) (HV W hW) (Nat.le_refl _) HOK.out)
  have H2 := Lib.hid (fun W (hW : Below w.heap.size w W) => atomf_any W (HR.out.below hW) (HV W hW) (Nat.le_refl _) HOK.out)
  have H3 := Lib.hid (fun W (hW : Below w.heap.size w W) (hn : NamesOk F) => locf_any W (HV W hW) (Nat.le_refl _) HOK.out hn)
  obtain ⟨⟨A0, c0, rfl, _⟩, ⟨A2, c2, rfl, _⟩, ⟨A1, c1, rfl, _⟩⟩ := hm
  clear hr ok HM HV
  unfold flv at *
  have hB0 := below_al (below_al (Below.refl w.heap.size w) (.cells #[.string ⟨F.name.toArray⟩, .slice A0 F.init.length c0, .slice A2 F.ths.length c2, .bool F.all, .slice A1 F.cond.length c1] 39)) (.cells #[.func (.func 48) #[] #[], .func (.func 49) #[] #[], .func (.func 50) #[] #[], .func (.func 51) #[] #[]] 93)
  go_enter Tryz.func43, Tryz.ntmps43
  go_wp2
  go_loopw [8] (fun i wr => FfRel F (.slice A0 F.init.length c0) (.slice A2 F.ths.length c2) (.slice A1 F.cond.length c1) w i wr) (fun i _ => 4 - (intOf i).toNat)
  case atStart =>
    refine ⟨0, by omega, rfl, fun h => absurd h (by omega), fun h => absurd h (by omega), fun h => absurd h (by omega), fun h => absurd h (by omega), hB0, (FlBox.at (w := w) rfl ⟨F.name.toArray⟩ (.slice A0 F.init.length c0) (.slice A2 F.ths.length c2) (.slice A1 F.cond.length c1) F.all 39).below (below_al (Below.refl _ _) _), ?_, ?_, ?_, ?_⟩ <;> simp
  case round =>
    obtain ⟨k, hk, rfl, hz0, hz1, hz2, hz3, hB, hbx, f0, f1, f2, f3⟩ := hrel
    obtain ⟨t0, t1, t2, t3, t4⟩ := hbx
    have hbx : Hid (FlBox wr w.heap.size ⟨F.name.toArray⟩ (.slice A0 F.init.length c0) (.slice A2 F.ths.length c2) (.slice A1 F.cond.length c1) F.all) := Lib.hid ⟨t0, t1, t2, t3, t4⟩
    have hlt0 := lt_of_cell t0
    have hlt1 := lt_of_cell f0
    by_cases h4 : k < 4
    · have hcase : k = 0 ∨ k = 1 ∨ k = 2 ∨ k = 3 := by omega
      rcases hcase with rfl | rfl | rfl | rfl
      · have HK := Lib.hid (H0.out _ hB)
        by_cases hc : frameC F = 0
        · have HZ := Lib.hid hc
          have E := Lib.hid (show fltv (-1) (-1) (frameC F) = .nilIface by rw [hc]; rfl)
          replace HK := Lib.hid (E.out ▸ HK.out)
          have hzz := Lib.hid (And.intro hz0 (And.intro hz1 (And.intro hz2 hz3)))
          clear hc hz0 hz1 hz2 hz3
          go_wp2_with fail
          refine HK.out.mono ?_
          rintro e w1 ⟨rfl, hb⟩
          have hbx1 := Lib.hid (hbx.out.below hb)
          have g0 := kc hb f0
          have g1 := kc hb f1
          have g2 := kc hb f2
          have g3 := kc hb f3
          have hB1 := Lib.hid (chain hB hb)
          clear t0 t1 t2 t3 t4 f0 f1 f2 f3 hB hb HK
          go_wp2
          go_roundw
          case rel => exact ⟨1, by omega, by go_num, fun h => HZ.out, fun h => absurd h (by omega), fun h => absurd h (by omega), fun h => absurd h (by omega), hB1.out, hbx1.out, g0, g1, g2, g3⟩
          case measure => simp [intOf]
        · have E := Lib.hid (show chkV F = fltv (-1) (-1) (frameC F) by unfold chkV chk; rw [if_pos hc])
          obtain ⟨a, b, c, hE⟩ : ∃ a b c, fltv (-1) (-1) (frameC F) = .iface 92 (.agg #[.int .i64 a, .int .i64 b, .iface 32 (.int .i64 c)]) := ⟨_, _, _, fltv_no hc⟩
          rw [hE] at E HK
          clear hc hz0 hz1 hz2 hz3 hE
          go_wp2_with fail
          refine HK.out.mono ?_
          rintro e w1 ⟨rfl, hb⟩
          have hB1 := chain hB hb
          clear t0 t1 t2 t3 t4 f0 f1 f2 f3 hB hb HK
          go_wp2
          go_ret
          exact ⟨congrArg Ending.returned E.out.symm, hB1⟩
      · have HK := Lib.hid (H1.out _ hB)
        by_cases hc : (lineT F.ths).2.2 = 0
        · have HZ := Lib.hid hc
          have E := Lib.hid (show fltv (lineT F.ths).1 (lineT F.ths).2.1 (lineT F.ths).2.2 = .nilIface by rw [hc]; rfl)
          replace HK := Lib.hid (E.out ▸ HK.out)
          have hzz := Lib.hid (And.intro hz0 (And.intro hz1 (And.intro hz2 hz3)))
          clear hc hz0 hz1 hz2 hz3
          go_wp2_with fail
          refine HK.out.mono ?_
          rintro e w1 ⟨rfl, hb⟩
          have hbx1 := Lib.hid (hbx.out.below hb)
          have g0 := kc hb f0
          have g1 := kc hb f1
          have g2 := kc hb f2
          have g3 := kc hb f3
          have hB1 := Lib.hid (chain hB hb)
          clear t0 t1 t2 t3 t4 f0 f1 f2 f3 hB hb HK
          go_wp2
          go_roundw
          case rel => exact ⟨2, by omega, by go_num, fun h => hzz.out.1 (by omega), fun h => HZ.out, fun h => absurd h (by omega), fun h => absurd h (by omega), hB1.out, hbx1.out, g0, g1, g2, g3⟩
          case measure => simp [intOf]
        · have E := Lib.hid (show chkV F = fltv (lineT F.ths).1 (lineT F.ths).2.1 (lineT F.ths).2.2 by unfold chkV chk; rw [if_neg (by rw [hz0 (by omega)]; simp), if_pos hc])
          obtain ⟨a, b, c, hE⟩ : ∃ a b c, fltv (lineT F.ths).1 (lineT F.ths).2.1 (lineT F.ths).2.2 = .iface 92 (.agg #[.int .i64 a, .int .i64 b, .iface 32 (.int .i64 c)]) := ⟨_, _, _, fltv_no hc⟩
          rw [hE] at E HK
          clear hc hz0 hz1 hz2 hz3 hE
          go_wp2_with fail
          refine HK.out.mono ?_
          rintro e w1 ⟨rfl, hb⟩
          have hB1 := chain hB hb
          clear t0 t1 t2 t3 t4 f0 f1 f2 f3 hB hb HK
          go_wp2
          go_ret
          exact ⟨congrArg Ending.returned E.out.symm, hB1⟩
      · have HK := Lib.hid (H2.out _ hB)
        by_cases hc : (atomT F.ths.length F.cond).2.2 = 0
        · have HZ := Lib.hid hc
          have E := Lib.hid (show fltv (atomT F.ths.length F.cond).1 (atomT F.ths.length F.cond).2.1 (atomT F.ths.length F.cond).2.2 = .nilIface by rw [hc]; rfl)
          replace HK := Lib.hid (E.out ▸ HK.out)
          have hzz := Lib.hid (And.intro hz0 (And.intro hz1 (And.intro hz2 hz3)))
          clear hc hz0 hz1 hz2 hz3
          go_wp2_with fail
          refine HK.out.mono ?_
          rintro e w1 ⟨rfl, hb⟩
          have hbx1 := Lib.hid (hbx.out.below hb)
          have g0 := kc hb f0
          have g1 := kc hb f1
          have g2 := kc hb f2
          have g3 := kc hb f3
          have hB1 := Lib.hid (chain hB hb)
          clear t0 t1 t2 t3 t4 f0 f1 f2 f3 hB hb HK
          go_wp2
          go_roundw
          case rel => exact ⟨3, by omega, by go_num, fun h => hzz.out.1 (by omega), fun h => hzz.out.2.1 (by omega), fun h => HZ.out, fun h => absurd h (by omega), hB1.out, hbx1.out, g0, g1, g2, g3⟩
          case measure => simp [intOf]
        · have E := Lib.hid (show chkV F = fltv (atomT F.ths.length F.cond).1 (atomT F.ths.length F.cond).2.1 (atomT F.ths.length F.cond).2.2 by unfold chkV chk; rw [if_neg (by rw [hz0 (by omega)]; simp), if_neg (by rw [hz1 (by omega)]; simp), if_pos hc])
          obtain ⟨a, b, c, hE⟩ : ∃ a b c, fltv (atomT F.ths.length F.cond).1 (atomT F.ths.length F.cond).2.1 (atomT F.ths.length F.cond).2.2 = .iface 92 (.agg #[.int .i64 a, .int .i64 b, .iface 32 (.int .i64 c)]) := ⟨_, _, _, fltv_no hc⟩
          rw [hE] at E HK
          clear hc hz0 hz1 hz2 hz3 hE
          go_wp2_with fail
          refine HK.out.mono ?_
          rintro e w1 ⟨rfl, hb⟩
          have hB1 := chain hB hb
          clear t0 t1 t2 t3 t4 f0 f1 f2 f3 hB hb HK
          go_wp2
          go_ret
          exact ⟨congrArg Ending.returned E.out.symm, hB1⟩
      · have HK := Lib.hid (H3.out _ hB (names_ok (hz0 (by omega)) (hz2 (by omega))))
        by_cases hc : locC F = 0
        · have HZ := Lib.hid hc
          have E := Lib.hid (show fltv (-1) (-1) (locC F) = .nilIface by rw [hc]; rfl)
          replace HK := Lib.hid (E.out ▸ HK.out)
          have hzz := Lib.hid (And.intro hz0 (And.intro hz1 (And.intro hz2 hz3)))
          clear hc hz0 hz1 hz2 hz3
          go_wp2_with fail
          refine HK.out.mono ?_
          rintro e w1 ⟨rfl, hb⟩
          have hbx1 := Lib.hid (hbx.out.below hb)
          have g0 := kc hb f0
          have g1 := kc hb f1
          have g2 := kc hb f2
          have g3 := kc hb f3
          have hB1 := Lib.hid (chain hB hb)
          clear t0 t1 t2 t3 t4 f0 f1 f2 f3 hB hb HK
          go_wp2
          go_roundw
          case rel => exact ⟨4, by omega, by go_num, fun h => hzz.out.1 (by omega), fun h => hzz.out.2.1 (by omega), fun h => hzz.out.2.2.1 (by omega), fun h => HZ.out, hB1.out, hbx1.out, g0, g1, g2, g3⟩
          case measure => simp [intOf]
        · have E := Lib.hid (show chkV F = fltv (-1) (-1) (locC F) by unfold chkV chk; rw [if_neg (by rw [hz0 (by omega)]; simp), if_neg (by rw [hz1 (by omega)]; simp), if_neg (by rw [hz2 (by omega)]; simp), if_pos hc])
          obtain ⟨a, b, c, hE⟩ : ∃ a b c, fltv (-1) (-1) (locC F) = .iface 92 (.agg #[.int .i64 a, .int .i64 b, .iface 32 (.int .i64 c)]) := ⟨_, _, _, fltv_no hc⟩
          rw [hE] at E HK
          clear hc hz0 hz1 hz2 hz3 hE
          go_wp2_with fail
          refine HK.out.mono ?_
          rintro e w1 ⟨rfl, hb⟩
          have hB1 := chain hB hb
          clear t0 t1 t2 t3 t4 f0 f1 f2 f3 hB hb HK
          go_wp2
          go_ret
          exact ⟨congrArg Ending.returned E.out.symm, hB1⟩
    · obtain rfl : k = 4 := by omega
      have E := Lib.hid (show chkV F = .nilIface by unfold chkV chk; rw [if_neg (by rw [hz0 (by omega)]; simp), if_neg (by rw [hz1 (by omega)]; simp), if_neg (by rw [hz2 (by omega)]; simp), if_neg (by rw [hz3 (by omega)]; simp)]; rfl)
      clear hz0 hz1 hz2 hz3
      go_wp2
      go_ret
      exact ⟨congrArg Ending.returned E.out.symm, hB⟩
end Go.Proofs.YtaelfjphgdlbcaaGreatDoor
namespace Go.Proofs.YtaelfjphgdlbcaaGreatDoor
open Go.RowKit
set_option linter.unusedVariables false
set_option linter.unusedSimpArgs false
open WordM (L)
open VM

theorem chk_zero {F : Fl} (h : (chk F).2.2 = 0) : chk F = (0, 0, 0) := by
  unfold chk at *
  by_cases h1 : frameC F ≠ 0
  · rw [if_pos h1] at h; exact absurd h h1
  rw [if_neg h1] at *
  by_cases h2 : (lineT F.ths).2.2 ≠ 0
  · rw [if_pos h2] at h; exact absurd h h2
  rw [if_neg h2] at *
  by_cases h3 : (atomT F.ths.length F.cond).2.2 ≠ 0
  · rw [if_pos h3] at h; exact absurd h h3
  rw [if_neg h3] at *
  by_cases h4 : locC F ≠ 0
  · rw [if_pos h4] at h; exact absurd h h4
  rw [if_neg h4] at *
theorem set_oth {w : World} {x i y j : Nat} {u v : Value} (h : x ≠ y ∨ i ≠ j) (hc : w.cell? ⟨y, j, none⟩ = some u) : (w.setCell ⟨x, i, none⟩ v).cell? ⟨y, j, none⟩ = some u :=
  (World.cell?_setCell_other _ _ _ _ (fun e => by injection e with e1 e2; exact h.elim (fun k => k e1) (fun k => k e2))).trans hc
theorem box_1 (w : World) (cs : Array Value) (T : TypeId) (i : Nat) {v : Value} (h : cs[i]? = some v) :
    (w.alloc (.cells cs T)).cell? ⟨w.heap.size, i, none⟩ = some v ∧ (w.alloc (.cells cs T)).frozen? ⟨w.heap.size, i, none⟩ = false := kept_box (Below.refl _ _) i h
theorem box_2 (w : World) (cs : Array Value) (T : TypeId) (o : Obj) (i : Nat) {v : Value} (h : cs[i]? = some v) :
    ((w.alloc (.cells cs T)).alloc o).cell? ⟨w.heap.size, i, none⟩ = some v ∧ ((w.alloc (.cells cs T)).alloc o).frozen? ⟨w.heap.size, i, none⟩ = false := kept_box ((Below.refl _ _).alloc (Nat.le_refl _) o) i h
set_option maxHeartbeats 4000000 in
set_option maxRecDepth 100000 in
theorem check_any {B : Nat} {v : Value} {F : Fl} (w : World) (hr : Regs w) (hg : EA.ErrG w) (hv : FlV B w v F) (hBB : B ≤ w.heap.size) (ok : FlOk F) :
    Calls Tryz.prog 32 #[v] w fun e w' => e = .returned (.tuple #[.int .i64 (chk F).1, .int .i64 (chk F).2.1, .int .i64 (chk F).2.2]) ∧ Below w.heap.size w w' := by
  obtain ⟨vi, vt, vc, rfl, hm⟩ := hv
  have HM := Lib.hid hm
  have HR := Lib.hid hr
  have HOK := Lib.hid ok
  have HG := Lib.hid hg
  have hB3 := below_al (below_al (below_al (Below.refl w.heap.size w) (.cells #[.string ⟨F.name.toArray⟩, vi, vt, .bool F.all, vc] 39)) (.cells #[.int .i64 0, .int .i64 0, .nilIface] 92)) (.cells #[.int .i64 0] 32)
  have H1 := Lib.hid (first_any _ (HR.out.below hB3) ⟨vi, vt, vc, rfl, HM.out.below (hB3.mono hBB)⟩ (Nat.le_trans hBB hB3.size) HOK.out)
  obtain ⟨⟨A0, c0, rfl, _⟩, ⟨A2, c2, rfl, _⟩, ⟨A1, c1, rfl, _⟩⟩ := hm
  unfold flv at *
  clear hr ok hg HM
  by_cases hc : (chk F).2.2 = 0
  · have hz := chk_zero hc
    have E := Lib.hid (show chkV F = .nilIface by unfold chkV; rw [hc]; rfl)
    rw [hz]
    replace H1 := Lib.hid (E.out ▸ H1.out)
    have HA := Lib.hid (fun t W => EA.as_nil t W)
    clear hc hz
    go_enter Tryz.func32, Tryz.ntmps32
    go_wp2_with fail
    refine H1.out.mono ?_
    rintro e w1 ⟨rfl, hb⟩
    have hB := chain hB3 hb
    go_wp2_with fail
    refine (HA.out _ _).mono ?_
    rintro e w2 ⟨rfl, rfl⟩
    go_wp2
    go_ret3
    exact ⟨rfl, hB⟩
  · obtain ⟨a, b, c, hE⟩ : ∃ a b c, chk F = (a, b, c) := ⟨_, _, _, rfl⟩
    rw [hE] at hc ⊢
    have hc' : c ≠ 0 := hc
    have E := Lib.hid (show chkV F = .iface 92 (.agg #[.int .i64 a, .int .i64 b, .iface 32 (.int .i64 c)]) by unfold chkV; rw [hE]; exact fltv_no hc')
    replace H1 := Lib.hid (E.out ▸ H1.out)
    have hF := Lib.hid (show ∀ i v, (#[Value.int .i64 0, .int .i64 0, .nilIface] : Array Value)[i]? = some v → (((w.alloc (.cells #[.string ⟨F.name.toArray⟩, .slice A0 F.init.length c0, .slice A2 F.ths.length c2, .bool F.all, .slice A1 F.cond.length c1] 39)).alloc (.cells #[.int .i64 0, .int .i64 0, .nilIface] 92)).alloc (.cells #[.int .i64 0] 32)).cell? ⟨w.heap.size + 1, i, none⟩ = some v ∧
        (((w.alloc (.cells #[.string ⟨F.name.toArray⟩, .slice A0 F.init.length c0, .slice A2 F.ths.length c2, .bool F.all, .slice A1 F.cond.length c1] 39)).alloc (.cells #[.int .i64 0, .int .i64 0, .nilIface] 92)).alloc (.cells #[.int .i64 0] 32)).frozen? ⟨w.heap.size + 1, i, none⟩ = false from fun i v h => by
      have := box_2 (w.alloc (.cells #[.string ⟨F.name.toArray⟩, .slice A0 F.init.length c0, .slice A2 F.ths.length c2, .bool F.all, .slice A1 F.cond.length c1] 39)) #[.int .i64 0, .int .i64 0, .nilIface] 92 (.cells #[.int .i64 0] 32) i h
      rwa [heap_alloc] at this)
    have hN := Lib.hid (box_1 ((w.alloc (.cells #[.string ⟨F.name.toArray⟩, .slice A0 F.init.length c0, .slice A2 F.ths.length c2, .bool F.all, .slice A1 F.cond.length c1] 39)).alloc (.cells #[.int .i64 0, .int .i64 0, .nilIface] 92)) #[.int .i64 0] 32 0 rfl)
    have hG3 := Lib.hid (HG.out.below hB3)
    clear hc hE
    go_enter Tryz.func32, Tryz.ntmps32
    go_wp2_with fail
    refine H1.out.mono ?_
    rintro e w1 ⟨rfl, hb⟩
    have hB := chain hB3 hb
    have hsz := hb.size
    have hn1 := hN.out
    simp only [heap_alloc] at hn1 hsz
    have x0 := kc hb (hF.out 0 _ rfl).1
    have x1 := kc hb (hF.out 1 _ rfl).1
    have x2 := kc hb (hF.out 2 _ rfl).1
    have n0 := kc hb hn1.1
    have y0 := (hb.frozen (p := ⟨w.heap.size + 1, 0, none⟩) (by simp)).trans (hF.out 0 _ rfl).2
    have y1 := (hb.frozen (p := ⟨w.heap.size + 1, 1, none⟩) (by simp)).trans (hF.out 1 _ rfl).2
    have y2 := (hb.frozen (p := ⟨w.heap.size + 1, 2, none⟩) (by simp)).trans (hF.out 2 _ rfl).2
    have m0 := (hb.frozen (p := ⟨w.heap.size + 1 + 1, 0, none⟩) (by simp)).trans hn1.2
    have hg1 := hG3.out.below hb
    have HA := Lib.hid (EA.as_fault a b (.iface 32 (.int .i64 c)) (w.heap.size + 1) _ _ _ w1 hg1 rfl x0 x1 x2 y0 y1 y2)
    clear H1 hF hN hG3
    go_wp2_with fail
    refine HA.out.mono ?_
    rintro e w2 ⟨rfl, w3, hb3, rfl⟩
    have u0 := kc hb3 x0
    have u1 := kc hb3 x1
    have u2 := kc hb3 x2
    have v0 := kc hb3 n0
    have z0 := (hb3.frozen (p := ⟨w.heap.size + 1 + 1, 0, none⟩) (lt_of_cell n0)).trans m0
    have hB4 := chain hB hb3
    have hsz3 := hb3.size
    have hB5 := ((hB4.setCell (p := ⟨w.heap.size + 1, 0, none⟩) (by show w.heap.size ≤ w.heap.size + 1; omega) (.int .i64 a)).setCell (p := ⟨w.heap.size + 1, 1, none⟩) (by show w.heap.size ≤ w.heap.size + 1; omega) (.int .i64 b)).setCell (p := ⟨w.heap.size + 1, 2, none⟩) (by show w.heap.size ≤ w.heap.size + 1; omega) (.iface 32 (.int .i64 c))
    obtain ⟨W, hW⟩ : ∃ W, W = ((w3.setCell ⟨w.heap.size + 1, 0, none⟩ (.int .i64 a)).setCell ⟨w.heap.size + 1, 1, none⟩ (.int .i64 b)).setCell ⟨w.heap.size + 1, 2, none⟩ (.iface 32 (.int .i64 c)) := ⟨_, rfl⟩
    have p0 : W.cell? ⟨w.heap.size + 1, 0, none⟩ = some (.int .i64 a) := hW ▸ set_oth (.inr (by decide)) (set_oth (.inr (by decide)) (World.cell?_setCell_same _ _ _ u0))
    have p1 : W.cell? ⟨w.heap.size + 1, 1, none⟩ = some (.int .i64 b) := hW ▸ set_oth (.inr (by decide)) (World.cell?_setCell_same _ _ _ (set_oth (.inr (by decide)) u1))
    have r0 : W.cell? ⟨w.heap.size + 1 + 1, 0, none⟩ = some (.int .i64 0) := hW ▸ set_oth (.inl (by omega)) (set_oth (.inl (by omega)) (set_oth (.inl (by omega)) v0))
    have s0 : W.frozen? ⟨w.heap.size + 1 + 1, 0, none⟩ = false := by
      rw [hW]; simp only [World.frozen?_setCell]; exact z0
    have hg2 : EA.ErrG W := by
      have h1 := hg1.below hb3
      have h2 : 2 < w.heap.size := lt_of_cell HG.out
      unfold EA.ErrG at h1 ⊢
      exact hW ▸ set_oth (.inl (by omega)) (set_oth (.inl (by omega)) (set_oth (.inl (by omega)) h1))
    rw [← hW] at hB5 ⊢
    clear hW hB4 u0 u1 u2 v0 z0 x0 x1 x2 y0 y1 y2 n0 m0 HA hg1 hb3 hB hb hB3
    have HA := Lib.hid (EA.as_errno a b c (w.heap.size + 1 + 1) _ W hg2 r0 s0)
    go_wp2_with fail
    refine HA.out.mono ?_
    rintro e w4 ⟨rfl, w5, hb5, rfl⟩
    have hB6 := (chain hB5 hb5).setCell (p := ⟨w.heap.size + 1 + 1, 0, none⟩) (by show w.heap.size ≤ w.heap.size + 1 + 1; omega) (.int .i64 c)
    obtain ⟨W2, hW2⟩ : ∃ W2, W2 = w5.setCell ⟨w.heap.size + 1 + 1, 0, none⟩ (.int .i64 c) := ⟨_, rfl⟩
    have i0 : W2.cell? ⟨w.heap.size + 1, 0, none⟩ = some (.int .i64 a) := hW2 ▸ set_oth (.inl (by omega)) (kc hb5 p0)
    have i1 : W2.cell? ⟨w.heap.size + 1, 1, none⟩ = some (.int .i64 b) := hW2 ▸ set_oth (.inl (by omega)) (kc hb5 p1)
    have i2 : W2.cell? ⟨w.heap.size + 1 + 1, 0, none⟩ = some (.int .i64 c) := hW2 ▸ World.cell?_setCell_same _ _ _ (kc hb5 r0)
    rw [← hW2] at hB6 ⊢
    clear hW2 hb5 HA p0 p1 r0 s0 hg2 hB5
    go_wp2
    go_quiet (fail)
    go_wp2
    go_ret3
    exact ⟨rfl, below_drewN hB6 _⟩
set_option maxHeartbeats 2000000 in
set_option maxRecDepth 100000 in
theorem vright_any {B : Nat} {v : Value} {F : Fl} (w : World) (hr : Regs w) (hg : EA.ErrG w) (hv : FlV B w v F) (hBB : B ≤ w.heap.size) (ok : FlOk F) :
    Calls Tryz.prog 17 #[v] w fun e w' => e = .returned (.bool (VM.right F)) ∧ Below w.heap.size w w' := by
  obtain ⟨vi, vt, vc, rfl, hm⟩ := hv
  have HM := Lib.hid hm
  have hB3 := below_al (Below.refl w.heap.size w) (.cells #[.string ⟨F.name.toArray⟩, vi, vt, .bool F.all, vc] 39)
  have H1 := Lib.hid (check_any _ (hr.below hB3) (hg.below hB3) ⟨vi, vt, vc, rfl, HM.out.below (hB3.mono hBB)⟩ (Nat.le_trans hBB hB3.size) ok)
  obtain ⟨⟨A0, c0, rfl, _⟩, ⟨A2, c2, rfl, _⟩, ⟨A1, c1, rfl, _⟩⟩ := hm
  have E := Lib.hid (show VM.right F = ((chk F).2.2 == 0) from rfl)
  unfold flv at *
  clear hr hg ok HM
  generalize chk F = t at *
  obtain ⟨a, b, c⟩ := t
  go_enter Tryz.func17, Tryz.ntmps17
  go_wp2_with fail
  refine H1.out.mono ?_
  rintro e w1 ⟨rfl, hb⟩
  have hB := chain hB3 hb
  go_wp2
  go_ret
  exact ⟨ret_bool E.out.symm, hB⟩
end Go.Proofs.YtaelfjphgdlbcaaGreatDoor
