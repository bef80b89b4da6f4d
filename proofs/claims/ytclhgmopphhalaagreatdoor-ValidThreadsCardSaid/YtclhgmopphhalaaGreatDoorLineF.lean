/-
  valid.lineFault: the first wrong line of the first wrong thread.
-/
import Derived.Test.YtclhgmopphhalaaGreatDoorFrame
import Derived.Test.YtclhgmopphhalaaGreatDoorRdr
namespace Go.Proofs.YtclhgmopphhalaaGreatDoor
open Go.RowKit Go.WideMaps Go.Maps
set_option linter.unusedVariables false
set_option linter.unusedSimpArgs false
open WordM (L)
open VM

theorem getD_at {α : Type} (ts : List α) (k : Nat) (z : α) (h : k < ts.length) : ts.getD k z = ts[k] := by
  rw [List.getD_eq_getElem?_getD, List.getElem?_eq_getElem h]; rfl
def LoRel (ts : List (List OpsM.Ln)) (w : World) (i : Value) (wr : World) : Prop :=
  ∃ k : Nat, k ≤ ts.length ∧ i = .int .i64 k ∧ (∀ j, j < k → thC (ts.getD j []) = none) ∧ Below w.heap.size w wr
def LiRel (ls : List OpsM.Ln) (h ga gb : Nat) (B : Nat) (v : Value) (w : World) (i : Value) (wr : World) : Prop :=
  ∃ k : Nat, k ≤ ls.length ∧ i = .int .i64 k ∧ (∀ j, j < k → lnC ls j = 0) ∧ RdK wr h ga gb ls k ∧ Below w.heap.size w wr ∧ Lns B wr v ls
set_option maxHeartbeats 4000000 in
set_option maxRecDepth 100000 in
theorem line_any {B : Nat} {v : Value} {F : Fl} (w : World) (hr : Regs w) (hv : FlV B w v F) (hBB : B ≤ w.heap.size) (ok : FlOk F) :
    Calls Tryz.prog 37 #[v] w fun e w' => e = .returned (fltv (lineT F.ths).1 (lineT F.ths).2.1 (lineT F.ths).2.2) ∧ Below w.heap.size w w' := by
  obtain ⟨vi, vt, vc, rfl, hm⟩ := hv
  unfold flv
  have HR := Lib.hid hr
  obtain ⟨hmi, hmt, _⟩ := hm
  obtain ⟨A2, c2, rfl, hb1, hb2, hb3⟩ := hmt
  have hl2 := ok.nums.2.1
  have HO := Lib.hid ok.ths
  have hB0 := below_al (Below.refl w.heap.size w) (.cells #[.string ⟨F.name.toArray⟩, vi, .slice A2 F.ths.length c2, .bool F.all, vc] 26)
  clear hmi hr ok
  unfold maxLen at hb2
  go_enter Tryz.func37, Tryz.ntmps37
  go_wp2
  go_loopw [12] (fun i wr => LoRel F.ths w i wr) (fun i _ => F.ths.length - (intOf i).toNat)
  case atStart => exact ⟨0, Nat.zero_le _, rfl, fun j h => absurd h (Nat.not_lt_zero j), hB0⟩
  case round =>
    obtain ⟨k, hk, rfl, hall, hB⟩ := hrel
    have HA := Lib.hid hall
    clear hall
    by_cases hlt : k < F.ths.length
    · obtain ⟨b1, f1, rfl, hb1, hcl⟩ := hb3 (by omega)
      obtain ⟨vl, d0, hLn⟩ := (hcl k hlt).below (hB.mono hBB) hb1
      have HOk := HO.out F.ths[k] (List.getElem_mem _)
      have HD := Lib.hid (getD_at F.ths k [] hlt)
      obtain ⟨ls, hx⟩ : ∃ x, x = F.ths[k] := ⟨_, rfl⟩
      rw [← hx] at hLn HOk
      have HX := Lib.hid hx
      have HLn := Lib.hid hLn
      have hln := HOk.1
      have HS := Lib.hid HOk.2
      clear hx hcl hb3 HOk hLn HO
      obtain ⟨A3, c3, rfl, he1, he2, he3⟩ := HLn.out
      unfold maxLen at he2
      have hB1 := below_al hB (.cells #[.slice A3 ls.length c3] 37)
      have HR1 := Lib.hid (reader_any _ (HLn.out.below (below_al (Below.refl wr.heap.size wr) (.cells #[.slice A3 ls.length c3] 37) |>.mono (Nat.le_trans hBB hB.size))) (Nat.le_trans hBB hB1.size) (fun l hl => (HS.out l hl).2.2))
      go_wp2_with fail
      refine HR1.out.mono ?_
      rintro e w1 ⟨h, ga, gb, Db, rfl, hga, hS, hb⟩
      have hB2 := hB1.trans (hb.mono hB1.size)
      have HK := Lib.hid (RdK.start hS)
      obtain ⟨d1, _⟩ := kept_box hb 0 rfl
      clear hS
      have hgw : w.heap.size ≤ ga := by have := hB.size; simp at hga; omega
      have HL1 := Lib.hid ((HLn.out.below (below_al (Below.refl wr.heap.size wr) (.cells #[.slice A3 ls.length c3] 37) |>.mono (Nat.le_trans hBB hB.size))).below (hb.mono (Nat.le_trans hBB hB1.size)))
      clear HR1 HLn d0 he3 hb hga
      go_wp2
      go_loopw [23] (fun i wq => LiRel ls h ga gb B (.slice A3 ls.length c3) w i wq) (fun i _ => ls.length - (intOf i).toNat)
      case atStart => exact ⟨0, Nat.zero_le _, rfl, fun j h => absurd h (Nat.not_lt_zero j), HK.out, hB2, HL1.out⟩
      case round =>
        obtain ⟨m, hmk, rfl, hal, hK, hB3, hLn3⟩ := hrel
        have HAl := Lib.hid hal
        clear hal HK HL1 hB2 hB1 d1
        by_cases hlm : m < ls.length
        · obtain ⟨A4, c4, e4, _, _, he3⟩ := id hLn3
          injection e4 with e4 _ e5
          subst e4; subst e5
          obtain ⟨b3, f3, rfl, hb3, hc3⟩ := he3 (by omega)
          obtain ⟨d0, d1, d2, d3, d4⟩ := hc3 m hlm
          have hxs := HS.out ls[m] (List.getElem_mem _)
          have HKx := Lib.hid (read_k _ (HR.out.below (below_al hB3 (.cells #[.int .i64 ls[m].op, .string ⟨ls[m].reg.toArray⟩, .string ⟨ls[m].loc.toArray⟩, .string ⟨ls[m].label.toArray⟩, .int .i64 ls[m].n] 39))) (hK.below (below_al (Below.refl _ _) _)) hlm hxs.2.2 hln)
          have hB4 := below_al hB3 (.cells #[.int .i64 ls[m].op, .string ⟨ls[m].reg.toArray⟩, .string ⟨ls[m].loc.toArray⟩, .string ⟨ls[m].label.toArray⟩, .int .i64 ls[m].n] 39)
          have HL3 := Lib.hid (hLn3.below (below_al (Below.refl wr.heap.size wr) (.cells #[.int .i64 ls[m].op, .string ⟨ls[m].reg.toArray⟩, .string ⟨ls[m].loc.toArray⟩, .string ⟨ls[m].label.toArray⟩, .int .i64 ls[m].n] 39) |>.mono (Nat.le_trans hBB hB3.size)))
          obtain ⟨x, hx⟩ : ∃ x, x = ls[m] := ⟨_, rfl⟩
          rw [← hx] at d0 d1 d2 d3 d4 hB4
          have HX3 := Lib.hid hx
          have HKx := Lib.hid (hx.symm ▸ HKx.out)
          have HL3 := Lib.hid (hx.symm ▸ HL3.out)
          clear hx hc3 hLn3 hxs hK
          by_cases hz : lnC ls m = 0
          · go_wp2_with fail
            refine HKx.out.mono ?_
            rintro e w2 ⟨he, hK2, hb2⟩
            rw [hz] at he
            subst he
            have HK3 := Lib.hid (hK2 hz)
            have hB5 := hB4.trans (hb2.mono hgw)
            have HL4 := Lib.hid (HL3.out.below (hb2.mono (Nat.le_trans hBB hgw)))
            clear hK2 HKx HL3 d0 d1 d2 d3 d4 hb2
            have HZ := Lib.hid hz
            clear hz
            go_wp2
            go_roundw
            case rel =>
              refine ⟨m + 1, by omega, by go_num, fun j hj => ?_, HK3.out, hB5, HL4.out⟩
              by_cases e : j = m
              · rw [e]; exact HZ.out
              · exact HAl.out j (by omega)
            case measure => simp [intOf]; omega
          · have E := Lib.hid (show fltv (lineT F.ths).1 (lineT F.ths).2.1 (lineT F.ths).2.2 = .iface 53 (.agg #[.int .i64 k, .int .i64 m, .iface 29 (.int .i64 (lnC ls m))]) by
              have e : F.ths.getD k [] = ls := HD.out.trans HX.out.symm
              rw [lineT_hit hlt HA.out (by rw [e]; exact hlm) (by rw [e]; exact HAl.out) (by rw [e]; exact hz)]
              simp only [e]
              exact fltv_no hz)
            obtain ⟨c, hc⟩ : ∃ c, c = lnC ls m := ⟨_, rfl⟩
            rw [← hc] at E hz HKx
            have q : (c == 0) = false := by simpa using hz
            clear hc
            go_wp2_with fail
            refine HKx.out.mono ?_
            rintro e w2 ⟨rfl, _, hb2⟩
            have hB5 := hB4.trans (hb2.mono hgw)
            clear HKx HL3 d0 d1 d2 d3 d4 hb2
            go_wp2
            go_ret
            exact ⟨congrArg Ending.returned E.out.symm, hB5⟩
        · obtain rfl : ls.length = m := by omega
          have HT := Lib.hid (thC_none HAl.out)
          clear he2
          go_wp2
          refine ⟨⟨k + 1, by omega, by go_num, fun j hj => ?_, hB3⟩, by simp [intOf]; omega⟩
          by_cases e : j = k
          · rw [e, HD.out, ← HX.out]; exact HT.out
          · exact HA.out j (by omega)
    · obtain rfl : F.ths.length = k := by omega
      have E := Lib.hid (show fltv (lineT F.ths).1 (lineT F.ths).2.1 (lineT F.ths).2.2 = .nilIface by rw [lineT_end HA.out]; rfl)
      clear hb3
      go_wp2
      go_ret
      exact ⟨congrArg Ending.returned E.out.symm, hB⟩
end Go.Proofs.YtclhgmopphhalaaGreatDoor
