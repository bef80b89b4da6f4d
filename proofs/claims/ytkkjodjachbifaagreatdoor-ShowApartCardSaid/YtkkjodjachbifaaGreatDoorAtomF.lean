/-
  valid.atomFault: the first wrong atom.
-/
import Derived.Test.YtkkjodjachbifaaGreatDoorFrame
import Derived.Test.YtkkjodjachbifaaGreatDoorAtomQ
namespace Go.Proofs.YtkkjodjachbifaaGreatDoor
open Go.RowKit
set_option linter.unusedVariables false
set_option linter.unusedSimpArgs false
open WordM (L)
open VM

theorem atC_at {n k : Nat} {am : List AtomM.At} (h : k < am.length) : atC n am k = if 6 ≤ k then 5 else if AtomM.askedA am[k] = false then 1 else if (n : Int) ≤ am[k].t then 22 else 0 := by
  unfold atC
  rw [List.getD_eq_getElem?_getD, List.getElem?_eq_getElem h]; rfl
theorem asked_l (x : AtomM.At) (w : World) (hr : Regs w) :
    Calls Tryz.prog 63 #[.agg #[.int .i64 x.t, .string ⟨x.nm.toArray⟩, .int .i64 x.n]] w fun e w' => e = .returned (.bool (AtomM.askedA x)) ∧ Below w.heap.size w w' := asked_any x.t x.n ⟨x.nm.toArray⟩ w hr
def AfRel (F : Fl) (vi vt vc : Value) (w : World) (i : Value) (wr : World) : Prop :=
  ∃ k : Nat, k ≤ F.cond.length ∧ i = .int .i64 k ∧ (∀ j, j < k → atC F.ths.length F.cond j = 0) ∧ Below w.heap.size w wr ∧ FlBox wr w.heap.size ⟨F.name.toArray⟩ vi vt vc F.all
set_option maxHeartbeats 4000000 in
set_option maxRecDepth 100000 in
theorem atomf_any {B : Nat} {v : Value} {F : Fl} (w : World) (hr : Regs w) (hv : FlV B w v F) (hBB : B ≤ w.heap.size) (ok : FlOk F) :
    Calls Tryz.prog 72 #[v] w fun e w' => e = .returned (fltv (atomT F.ths.length F.cond).1 (atomT F.ths.length F.cond).2.1 (atomT F.ths.length F.cond).2.2) ∧ Below w.heap.size w w' := by
  obtain ⟨vi, vt, vc, rfl, hm⟩ := hv
  unfold flv
  have HR := Lib.hid hr
  obtain ⟨hmi, hmt, hmc⟩ := hm
  obtain ⟨A2, c2, rfl, hb1, hb2, hb3⟩ := hmt
  obtain ⟨A1, c1, rfl, ha1, ha2, ha3⟩ := hmc
  have hl2 := ok.nums.2.1
  have hl3 := ok.nums.2.2
  have HO := Lib.hid ok.cond
  have hB0 := below_al (Below.refl w.heap.size w) (.cells #[.string ⟨F.name.toArray⟩, vi, .slice A2 F.ths.length c2, .bool F.all, .slice A1 F.cond.length c1] 26)
  have hbx := FlBox.at (w := w) rfl ⟨F.name.toArray⟩ vi (.slice A2 F.ths.length c2) (.slice A1 F.cond.length c1) F.all 26
  clear hmi hr ok hb3
  unfold maxLen at hb2 ha2
  go_enter Tryz.func72, Tryz.ntmps72
  go_wp2
  go_loopw [8] (fun i wr => AfRel F vi (.slice A2 F.ths.length c2) (.slice A1 F.cond.length c1) w i wr) (fun i _ => F.cond.length - (intOf i).toNat)
  case atStart => exact ⟨0, Nat.zero_le _, rfl, fun j h => absurd h (Nat.not_lt_zero j), hB0, hbx⟩
  case round =>
    obtain ⟨k, hk, rfl, hall, hB, hbx⟩ := hrel
    have HA := Lib.hid hall
    clear hall
    by_cases hlt : k < F.cond.length
    · obtain ⟨b1, f1, rfl, hb1, hcl⟩ := ha3 (by omega)
      obtain ⟨d0, d1, d2⟩ := (hcl k hlt).below (hB.mono hBB) hb1
      have HC := Lib.hid (atC_at (n := F.ths.length) hlt)
      have HOk := HO.out F.cond[k] (List.getElem_mem _)
      obtain ⟨x, hx⟩ : ∃ x, x = F.cond[k] := ⟨_, rfl⟩
      rw [← hx] at d0 d1 d2 HOk
      replace HC := Lib.hid (hx.symm ▸ HC.out)
      have hB1 := below_al hB (.cells #[.int .i64 x.t, .string ⟨x.nm.toArray⟩, .int .i64 x.n] 54)
      have HQ := Lib.hid (asked_l x _ (HR.out.below hB1))
      have hbx1 := Lib.hid (hbx.below (below_al (Below.refl _ _) (.cells #[.int .i64 x.t, .string ⟨x.nm.toArray⟩, .int .i64 x.n] 54)))
      have hbA := AtBox.at (w := wr) rfl x.t x.n ⟨x.nm.toArray⟩ 54
      obtain ⟨t0, t1, t2, t3, t4⟩ := hbx1.out
      clear hx hcl ha3 HO hbx
      by_cases h6 : 6 ≤ k
      · have E := Lib.hid (show fltv (atomT F.ths.length F.cond).1 (atomT F.ths.length F.cond).2.1 (atomT F.ths.length F.cond).2.2 = .iface 105 (.agg #[.int .i64 F.ths.length, .int .i64 k, .iface 35 (.int .i64 5)]) by
          have e : atC F.ths.length F.cond k = 5 := by rw [HC.out, if_pos h6]
          rw [atomT_hit hlt HA.out (by rw [e]; decide), e]; rfl)
        have q : decide ((6 : Int) ≤ (k : Int)) = true := decide_eq_true (by omega)
        clear HC HQ
        go_wp2
        go_ret
        exact ⟨congrArg Ending.returned E.out.symm, hB1⟩
      · have q : decide ((6 : Int) ≤ (k : Int)) = false := decide_eq_false (by omega)
        cases hq : AtomM.askedA x
        · have E := Lib.hid (show fltv (atomT F.ths.length F.cond).1 (atomT F.ths.length F.cond).2.1 (atomT F.ths.length F.cond).2.2 = .iface 105 (.agg #[.int .i64 F.ths.length, .int .i64 k, .iface 35 (.int .i64 1)]) by
            have e : atC F.ths.length F.cond k = 1 := by rw [HC.out, if_neg h6]; exact if_pos hq
            rw [atomT_hit hlt HA.out (by rw [e]; decide), e]; rfl)
          rw [hq] at HQ
          clear HC hq h6
          go_wp2_with fail
          refine HQ.out.mono ?_
          rintro e w1 ⟨rfl, hb⟩
          obtain ⟨t0, t1, t2, t3, t4⟩ := hbx1.out.below hb
          replace hB1 := chain hB1 hb
          go_wp2
          go_ret
          exact ⟨congrArg Ending.returned E.out.symm, hB1⟩
        · rw [hq] at HQ
          by_cases ht : (F.ths.length : Int) ≤ x.t
          · have E := Lib.hid (show fltv (atomT F.ths.length F.cond).1 (atomT F.ths.length F.cond).2.1 (atomT F.ths.length F.cond).2.2 = .iface 105 (.agg #[.int .i64 F.ths.length, .int .i64 k, .iface 35 (.int .i64 22)]) by
              have e : atC F.ths.length F.cond k = 22 := by rw [HC.out, if_neg h6]; exact (if_neg (by rw [hq]; simp)).trans (if_pos ht)
              rw [atomT_hit hlt HA.out (by rw [e]; decide), e]; rfl)
            have q2 : decide ((F.ths.length : Int) ≤ x.t) = true := decide_eq_true ht
            clear HC hq h6 ht
            go_wp2_with fail
            refine HQ.out.mono ?_
            rintro e w1 ⟨rfl, hb⟩
            obtain ⟨t0, t1, t2, t3, t4⟩ := hbx1.out.below hb
            obtain ⟨a0, a1, a2⟩ := hbA.below hb
            replace hB1 := chain hB1 hb
            go_wp2
            go_ret
            exact ⟨congrArg Ending.returned E.out.symm, hB1⟩
          · have hz := Lib.hid (show atC F.ths.length F.cond k = 0 by rw [HC.out, if_neg h6]; exact (if_neg (by rw [hq]; simp)).trans (if_neg ht))
            have q2 : decide ((F.ths.length : Int) ≤ x.t) = false := decide_eq_false ht
            clear HC hq h6 ht
            go_wp2_with fail
            refine HQ.out.mono ?_
            rintro e w1 ⟨rfl, hb⟩
            have hbx2 := Lib.hid (hbx1.out.below hb)
            obtain ⟨t0, t1, t2, t3, t4⟩ := hbx2.out
            obtain ⟨a0, a1, a2⟩ := hbA.below hb
            replace hB1 := chain hB1 hb
            go_wp2
            refine ⟨⟨k + 1, by omega, by go_num, fun j hj => ?_, hB1, hbx2.out⟩, by simp [intOf]; omega⟩
            by_cases e : j = k
            · rw [e]; exact hz.out
            · exact HA.out j (by omega)
    · obtain rfl : F.cond.length = k := by omega
      have E := Lib.hid (show fltv (atomT F.ths.length F.cond).1 (atomT F.ths.length F.cond).2.1 (atomT F.ths.length F.cond).2.2 = .nilIface by rw [atomT_end HA.out]; rfl)
      clear ha3
      go_wp2
      go_ret
      exact ⟨congrArg Ending.returned E.out.symm, hB⟩
end Go.Proofs.YtkkjodjachbifaaGreatDoor
