/-
  valid.frameFault: what is wrong with the name, the cells and how many threads there are.
  valid.atomFault: the first wrong atom.
-/
import Derived.Test.YtaelfjphgdlbcaaGreatDoorBxF
import Derived.Test.YtaelfjphgdlbcaaGreatDoorNamOp
namespace Go.Proofs.YtaelfjphgdlbcaaGreatDoor
open Go.RowKit
set_option linter.unusedVariables false
set_option linter.unusedSimpArgs false
open WordM (L)
open VM

/-- A fault as an error; nil, if its number is 0. -/
def fltv (a b c : Int) : Value := if c = 0 then .nilIface else .iface 92 (.agg #[.int .i64 a, .int .i64 b, .iface 32 (.int .i64 c)])

theorem fltv_ok {a b : Int} : fltv a b 0 = .nilIface := rfl
theorem fltv_no {a b c : Int} (h : c ≠ 0) : fltv a b c = .iface 92 (.agg #[.int .i64 a, .int .i64 b, .iface 32 (.int .i64 c)]) := if_neg h
theorem bytes_lt : ∀ (x y : List UInt8), Op.bytesLess x y = decide (x < y)
  | x, [] => by cases x <;> simp [Op.bytesLess]
  | [], b :: y => by simp [Op.bytesLess]
  | a :: x, b :: y => by
    rw [Op.bytesLess, bytes_lt x y, show (a == b) = decide (a = b) from rfl]
    show (decide (a < b) || (decide (a = b) && decide (x < y))) = _
    rw [← Bool.decide_and, ← Bool.decide_or]
    exact decide_eq_decide.2 List.cons_lt_cons_iff.symm
theorem le_cases (a b : L) : (Op.bytesLess a b = true ∧ a ≤ b) ∨ (Op.bytesLess a b = false ∧ (a == b) = true ∧ a ≤ b) ∨ (Op.bytesLess a b = false ∧ (a == b) = false ∧ ¬ a ≤ b) := by
  rw [bytes_lt, beq_dec]
  by_cases h : a < b
  · exact Or.inl ⟨decide_eq_true h, List.le_of_lt h⟩
  · by_cases e : a = b
    · exact Or.inr (Or.inl ⟨decide_eq_false h, decide_eq_true e, e ▸ List.le_refl _⟩)
    · exact Or.inr (Or.inr ⟨decide_eq_false h, decide_eq_false e, fun c => e (List.le_antisymm c (List.not_lt.1 h))⟩)

def FrRel (F : Fl) (vi vt vc : Value) (w : World) (i : Value) (wr : World) : Prop :=
  ∃ k : Nat, k ≤ F.init.length ∧ i = .int .i64 k ∧ (∀ j, j < k → cellC F.init j = 0) ∧ Below w.heap.size w wr ∧ FlBox wr w.heap.size ⟨F.name.toArray⟩ vi vt vc F.all
theorem cellC_at {cs : List (L × Int)} {k : Nat} (h : k < cs.length) : cellC cs k = if WordM.nameB cs[k].1 = false then 22 else if 0 < k ∧ cs[k].1 ≤ (cs.getD (k - 1) ([], 0)).1 then 21 else 0 := by
  unfold cellC
  rw [List.getD_eq_getElem?_getD, List.getElem?_eq_getElem h]; rfl
set_option maxHeartbeats 4000000 in
set_option maxRecDepth 100000 in
theorem frame_any {B : Nat} {v : Value} {F : Fl} (w : World) (hr : Regs w) (hv : FlV B w v F) (hBB : B ≤ w.heap.size) (ok : FlOk F) :
    Calls Tryz.prog 48 #[v] w fun e w' => e = .returned (fltv (-1) (-1) (frameC F)) ∧ Below w.heap.size w w' := by
  obtain ⟨vi, vt, vc, rfl, hm⟩ := hv
  unfold flv
  have HN := Lib.hid (fun s W h => name_any s W h)
  have HR := Lib.hid hr
  have hB0 := below_al (Below.refl w.heap.size w) (.cells #[.string ⟨F.name.toArray⟩, vi, vt, .bool F.all, vc] 39)
  cases hn : WordM.nameB F.name
  · have E := Lib.hid (show fltv (-1) (-1) (frameC F) = .iface 92 (.agg #[.int .i64 (-1), .int .i64 (-1), .iface 32 (.int .i64 22)]) by unfold frameC; rw [if_pos hn]; rfl)
    have HN1 := Lib.hid (fun W h => (show Calls Tryz.prog 59 #[.string ⟨F.name.toArray⟩] W (fun e w' => e = .returned (.bool false) ∧ W = w') from hn ▸ HN.out ⟨F.name.toArray⟩ W h))
    clear hn hm hr
    go_enter Tryz.func48, Tryz.ntmps48
    go_wp2_with fail
    refine (HN1.out _ (HR.out.below hB0)).mono ?_
    rintro e w1 ⟨rfl, rfl⟩
    go_wp2
    go_ret
    exact ⟨congrArg Ending.returned E.out.symm, hB0⟩
  · have HN1 := Lib.hid (fun W h => (show Calls Tryz.prog 59 #[.string ⟨F.name.toArray⟩] W (fun e w' => e = .returned (.bool true) ∧ W = w') from hn ▸ HN.out ⟨F.name.toArray⟩ W h))
    have HF := Lib.hid (show frameC F = cellsC F from if_neg (by rw [hn]; simp))
    have hbx := FlBox.at (w := w) rfl ⟨F.name.toArray⟩ vi vt vc F.all 39
    obtain ⟨hmi, hmt, _⟩ := hm
    obtain ⟨A1, c1, rfl, ha1, ha2, ha3⟩ := hmi
    obtain ⟨A2, c2, rfl, hb1, hb2, hb3⟩ := hmt
    have hl1 := ok.nums.1
    have hl2 := ok.nums.2.1
    clear hb3 hn hr ok
    unfold maxLen at ha2 hb2
    go_enter Tryz.func48, Tryz.ntmps48
    go_wp2_with fail
    refine (HN1.out _ (HR.out.below hB0)).mono ?_
    rintro e w1 ⟨rfl, rfl⟩
    go_wp2
    go_loopw [16] (fun i wr => FrRel F (.slice A1 F.init.length c1) (.slice A2 F.ths.length c2) vc w i wr) (fun i _ => F.init.length - (intOf i).toNat)
    case atStart => exact ⟨0, Nat.zero_le _, rfl, fun j h => absurd h (Nat.not_lt_zero j), hB0, hbx⟩
    case round =>
      obtain ⟨k, hk, rfl, hall, hB, hbx⟩ := hrel
      obtain ⟨l0, l1, l2, l3, l4⟩ := hbx
      by_cases hlt : k < F.init.length
      · obtain ⟨b1, f1, rfl, hb1, hcl⟩ := ha3 (by omega)
        obtain ⟨d0, d1⟩ := (hcl k hlt).below hB (Nat.lt_of_lt_of_le hb1 hBB)
        have HP := Lib.hid (fun j h => (hcl j h).below hB (Nat.lt_of_lt_of_le hb1 hBB))
        have HC := Lib.hid (cellC_at hlt)
        have HA := Lib.hid hall
        clear hall
        obtain ⟨x, hx⟩ : ∃ x, x = F.init[k] := ⟨_, rfl⟩
        rw [← hx] at d0 d1
        have HX := Lib.hid hx
        clear hx
        clear hcl ha3 hbx
        have hlx := F.init.length
        cases hn : WordM.nameB x.1
        · have E := Lib.hid (show fltv (-1) (-1) (frameC F) = .iface 92 (.agg #[.int .i64 (-1), .int .i64 (-1), .iface 32 (.int .i64 22)]) by
            have e : cellC F.init k = 22 := by rw [HC.out, ← HX.out, if_pos hn]
            rw [HF.out, cellsC_hit hlt HA.out (by rw [e]; decide), e]; rfl)
          have HN2 := Lib.hid (fun W h => (show Calls Tryz.prog 59 #[.string ⟨x.1.toArray⟩] W (fun e w' => e = .returned (.bool false) ∧ W = w') from hn ▸ HN.out ⟨x.1.toArray⟩ W h))
          have HR2 := Lib.hid (HR.out.below (below_al hB (.cells #[.string ⟨x.1.toArray⟩, .int .i64 x.2] 66)))
          have hB1 := below_al hB (.cells #[.string ⟨x.1.toArray⟩, .int .i64 x.2] 66)
          clear hn HN HN1 HC HA HX HF
          go_wp2_with fail
          refine (HN2.out _ HR2.out).mono ?_
          rintro e w1 ⟨rfl, rfl⟩
          go_wp2
          go_ret
          exact ⟨congrArg Ending.returned E.out.symm, hB1⟩
        · have HN2 := Lib.hid (fun W h => (show Calls Tryz.prog 59 #[.string ⟨x.1.toArray⟩] W (fun e w' => e = .returned (.bool true) ∧ W = w') from hn ▸ HN.out ⟨x.1.toArray⟩ W h))
          have HR2 := Lib.hid (HR.out.below (below_al hB (.cells #[.string ⟨x.1.toArray⟩, .int .i64 x.2] 66)))
          have hB1 := below_al hB (.cells #[.string ⟨x.1.toArray⟩, .int .i64 x.2] 66)
          have hbx1 := Lib.hid ((show FlBox wr w.heap.size ⟨F.name.toArray⟩ (.slice (some ⟨b1, f1, none⟩) F.init.length c1) (.slice A2 F.ths.length c2) vc F.all from ⟨l0, l1, l2, l3, l4⟩).below (below_al (Below.refl _ _) (.cells #[.string ⟨x.1.toArray⟩, .int .i64 x.2] 66)))
          by_cases hk0 : k = 0
          · have q1 : decide ((0 : Int) < (k : Int)) = false := decide_eq_false (by omega)
            have q2 : decide (0 < k) = false := decide_eq_false (by omega)
            have hz := Lib.hid (show cellC F.init k = 0 by rw [HC.out, ← HX.out, if_neg (by rw [hn]; simp), if_neg (by omega)])
            clear hn HN HN1 HC HX HF hk0
            go_wp2_with fail
            refine (HN2.out _ HR2.out).mono ?_
            rintro e w1 ⟨rfl, rfl⟩
            obtain ⟨t0, t1, t2, t3, t4⟩ := hbx1.out
            go_wp2
            go_quiet (fail)
            go_wp2
            refine ⟨⟨k + 1, by omega, by go_num, fun j hj => ?_, below_drewN hB1 _, hbx1.out⟩, by simp [intOf]; omega⟩
            by_cases e : j = k
            · rw [e]; exact hz.out
            · exact HA.out j (by omega)
          · obtain ⟨m, rfl⟩ : ∃ m, k = m + 1 := ⟨k - 1, by omega⟩
            have q1 : decide ((0 : Int) < ((m + 1 : Nat) : Int)) = true := decide_eq_true (by omega)
            have q2 : decide (0 < m + 1) = true := decide_eq_true (by omega)
            have hw1 : IntKind.i64.wrap (((m + 1 : Nat) : Int) - 1) = (m : Int) := by rw [IntWalk.i64_in _ (by omega)]; omega
            have hw2 : wrap64 (((m + 1 : Nat) : Int) - 1) = (m : Int) := by rw [NumM.wrap64_inR _ (by unfold NumM.inR; omega)]; omega
            obtain ⟨p0, p1⟩ := HP.out m (by omega)
            obtain ⟨y, hy⟩ : ∃ y, y = F.init[m]'(by omega) := ⟨_, rfl⟩
            rw [← hy] at p0 p1
            have hb1s : b1 < wr.heap.size := lt_of_cell d0
            have HY := Lib.hid hy
            have HG := Lib.hid (show (F.init.getD (m + 1 - 1) ([], 0)) = y by rw [HY.out, List.getD_eq_getElem?_getD, Nat.add_sub_cancel, List.getElem?_eq_getElem (by omega)]; rfl)
            have hbB := below_al (Below.refl _ wr) (.cells #[.string ⟨x.1.toArray⟩, .int .i64 x.2] 66)
            replace p0 := kc hbB p0
            clear p1 hy
            have E0 := Lib.hid (fun (hle : x.1 ≤ y.1) => (show fltv (-1) (-1) (frameC F) = .iface 92 (.agg #[.int .i64 (-1), .int .i64 (-1), .iface 32 (.int .i64 21)]) by
              have e : cellC F.init (m + 1) = 21 := by rw [HC.out, ← HX.out, if_neg (by rw [hn]; simp), HG.out, if_pos ⟨by omega, hle⟩]
              rw [HF.out, cellsC_hit hlt HA.out (by rw [e]; decide), e]; rfl))
            have HZ := Lib.hid (fun (hle : ¬ x.1 ≤ y.1) => (show cellC F.init (m + 1) = 0 by rw [HC.out, ← HX.out, if_neg (by rw [hn]; simp), HG.out, if_neg (fun c => hle c.2)]))
            clear hn HN HN1 HC HX HF HP HG HY
            rcases le_cases x.1 y.1 with ⟨q3, hle⟩ | ⟨q3, q4, hle⟩ | ⟨q3, q4, hle⟩
            · have E := Lib.hid (E0.out hle)
              clear hle E0 HZ HA
              go_wp2_with fail
              refine (HN2.out _ HR2.out).mono ?_
              rintro e w1 ⟨rfl, rfl⟩
              obtain ⟨t0, t1, t2, t3, t4⟩ := hbx1.out
              go_wp2
              go_quiet (fail)
              go_wp2
              go_ret
              exact ⟨congrArg Ending.returned E.out.symm, below_drewN hB1 _⟩
            · have E := Lib.hid (E0.out hle)
              clear hle E0 HZ HA
              go_wp2_with fail
              refine (HN2.out _ HR2.out).mono ?_
              rintro e w1 ⟨rfl, rfl⟩
              obtain ⟨t0, t1, t2, t3, t4⟩ := hbx1.out
              go_wp2
              go_quiet (fail)
              go_wp2
              go_ret
              exact ⟨congrArg Ending.returned E.out.symm, below_drewN hB1 _⟩
            · have hz := Lib.hid (HZ.out hle)
              clear hle E0 HZ
              go_wp2_with fail
              refine (HN2.out _ HR2.out).mono ?_
              rintro e w1 ⟨rfl, rfl⟩
              obtain ⟨t0, t1, t2, t3, t4⟩ := hbx1.out
              go_wp2
              go_quiet (fail)
              go_wp2
              refine ⟨⟨m + 1 + 1, by omega, by go_num, fun j hj => ?_, below_drewN hB1 _, hbx1.out⟩, by simp [intOf]; omega⟩
              by_cases e : j = m + 1
              · rw [e]; exact hz.out
              · exact HA.out j (by omega)
      · obtain rfl : F.init.length = k := by omega
        have HE := Lib.hid (HF.out.trans (cellsC_end hall))
        have hd := hbx
        clear hall HF HN HN1 ha3 hbx hd
        by_cases h1 : F.ths.length < 1
        · have E := Lib.hid (show fltv (-1) (-1) (frameC F) = .iface 92 (.agg #[.int .i64 (-1), .int .i64 (-1), .iface 32 (.int .i64 5)]) by rw [HE.out, if_pos (Or.inl h1)]; rfl)
          clear HE
          go_wp2
          go_ret
          exact ⟨congrArg Ending.returned E.out.symm, hB⟩
        · by_cases h3 : 3 < F.ths.length
          · have E := Lib.hid (show fltv (-1) (-1) (frameC F) = .iface 92 (.agg #[.int .i64 (-1), .int .i64 (-1), .iface 32 (.int .i64 5)]) by rw [HE.out, if_pos (Or.inr h3)]; rfl)
            clear HE
            go_wp2
            go_ret
            exact ⟨congrArg Ending.returned E.out.symm, hB⟩
          · have E := Lib.hid (show fltv (-1) (-1) (frameC F) = .nilIface by rw [HE.out, if_neg (fun c => c.elim h1 h3)]; rfl)
            clear HE
            go_wp2
            go_ret
            exact ⟨congrArg Ending.returned E.out.symm, hB⟩
end Go.Proofs.YtaelfjphgdlbcaaGreatDoor
namespace Go.Proofs.YtaelfjphgdlbcaaGreatDoor
open Go.RowKit
set_option linter.unusedVariables false
set_option linter.unusedSimpArgs false
open WordM (L)
open VM

theorem atC_at {n k : Nat} {am : List AtomM.At} (h : k < am.length) : atC n am k = if 6 ≤ k then 5 else if AtomM.askedA am[k] = false then 1 else if (n : Int) ≤ am[k].t then 22 else 0 := by
  unfold atC
  rw [List.getD_eq_getElem?_getD, List.getElem?_eq_getElem h]; rfl
theorem asked_l (x : AtomM.At) (w : World) (hr : Regs w) :
    Calls Tryz.prog 61 #[.agg #[.int .i64 x.t, .string ⟨x.nm.toArray⟩, .int .i64 x.n]] w fun e w' => e = .returned (.bool (AtomM.askedA x)) ∧ Below w.heap.size w w' := asked_any x.t x.n ⟨x.nm.toArray⟩ w hr
def AfRel (F : Fl) (vi vt vc : Value) (w : World) (i : Value) (wr : World) : Prop :=
  ∃ k : Nat, k ≤ F.cond.length ∧ i = .int .i64 k ∧ (∀ j, j < k → atC F.ths.length F.cond j = 0) ∧ Below w.heap.size w wr ∧ FlBox wr w.heap.size ⟨F.name.toArray⟩ vi vt vc F.all
set_option maxHeartbeats 4000000 in
set_option maxRecDepth 100000 in
theorem atomf_any {B : Nat} {v : Value} {F : Fl} (w : World) (hr : Regs w) (hv : FlV B w v F) (hBB : B ≤ w.heap.size) (ok : FlOk F) :
    Calls Tryz.prog 50 #[v] w fun e w' => e = .returned (fltv (atomT F.ths.length F.cond).1 (atomT F.ths.length F.cond).2.1 (atomT F.ths.length F.cond).2.2) ∧ Below w.heap.size w w' := by
  obtain ⟨vi, vt, vc, rfl, hm⟩ := hv
  unfold flv
  have HR := Lib.hid hr
  obtain ⟨hmi, hmt, hmc⟩ := hm
  obtain ⟨A2, c2, rfl, hb1, hb2, hb3⟩ := hmt
  obtain ⟨A1, c1, rfl, ha1, ha2, ha3⟩ := hmc
  have hl2 := ok.nums.2.1
  have hl3 := ok.nums.2.2
  have HO := Lib.hid ok.cond
  have hB0 := below_al (Below.refl w.heap.size w) (.cells #[.string ⟨F.name.toArray⟩, vi, .slice A2 F.ths.length c2, .bool F.all, .slice A1 F.cond.length c1] 39)
  have hbx := FlBox.at (w := w) rfl ⟨F.name.toArray⟩ vi (.slice A2 F.ths.length c2) (.slice A1 F.cond.length c1) F.all 39
  clear hmi hr ok hb3
  unfold maxLen at hb2 ha2
  go_enter Tryz.func50, Tryz.ntmps50
  go_wp2
  go_loopw [8] (fun i wr => AfRel F vi (.slice A2 F.ths.length c2) (.slice A1 F.cond.length c1) w i wr) (fun i _ => F.cond.length - (intOf i).toNat)
  case atStart => exact ⟨0, Nat.zero_le _, rfl, fun j h => absurd h (Nat.not_lt_zero j), hB0, hbx⟩
  case round =>
    obtain ⟨k, hk, rfl, hall, hB, hbx⟩ := hrel
    have HA := Lib.hid hall
    clear hall
    by_cases hlt : k < F.cond.length
    · obtain ⟨b1, f1, rfl, hb1, hcl⟩ := ha3 (by omega)
      obtain ⟨d0, d1, d2⟩ := (hcl k hlt).below (hB.mono hBB) hb1
      have HC := Lib.hid (atC_at (n := F.ths.length) hlt)
      have HOk := HO.out F.cond[k] (List.getElem_mem _)
      obtain ⟨x, hx⟩ : ∃ x, x = F.cond[k] := ⟨_, rfl⟩
      rw [← hx] at d0 d1 d2 HOk
      replace HC := Lib.hid (hx.symm ▸ HC.out)
      have hB1 := below_al hB (.cells #[.int .i64 x.t, .string ⟨x.nm.toArray⟩, .int .i64 x.n] 68)
      have HQ := Lib.hid (asked_l x _ (HR.out.below hB1))
      have hbx1 := Lib.hid (hbx.below (below_al (Below.refl _ _) (.cells #[.int .i64 x.t, .string ⟨x.nm.toArray⟩, .int .i64 x.n] 68)))
      have hbA := AtBox.at (w := wr) rfl x.t x.n ⟨x.nm.toArray⟩ 68
      obtain ⟨t0, t1, t2, t3, t4⟩ := hbx1.out
      clear hx hcl ha3 HO hbx
      by_cases h6 : 6 ≤ k
      · have E := Lib.hid (show fltv (atomT F.ths.length F.cond).1 (atomT F.ths.length F.cond).2.1 (atomT F.ths.length F.cond).2.2 = .iface 92 (.agg #[.int .i64 F.ths.length, .int .i64 k, .iface 32 (.int .i64 5)]) by
          have e : atC F.ths.length F.cond k = 5 := by rw [HC.out, if_pos h6]
          rw [atomT_hit hlt HA.out (by rw [e]; decide), e]; rfl)
        have q : decide ((6 : Int) ≤ (k : Int)) = true := decide_eq_true (by omega)
        clear HC HQ
        go_wp2
        go_ret
        exact ⟨congrArg Ending.returned E.out.symm, hB1⟩
      · have q : decide ((6 : Int) ≤ (k : Int)) = false := decide_eq_false (by omega)
        cases hq : AtomM.askedA x
        · have E := Lib.hid (show fltv (atomT F.ths.length F.cond).1 (atomT F.ths.length F.cond).2.1 (atomT F.ths.length F.cond).2.2 = .iface 92 (.agg #[.int .i64 F.ths.length, .int .i64 k, .iface 32 (.int .i64 1)]) by
            have e : atC F.ths.length F.cond k = 1 := by rw [HC.out, if_neg h6]; exact if_pos hq
            rw [atomT_hit hlt HA.out (by rw [e]; decide), e]; rfl)
          rw [hq] at HQ
          clear HC hq h6
          go_wp2_with fail
          refine HQ.out.mono ?_
          rintro e w1 ⟨rfl, hb⟩
          obtain ⟨t0, t1, t2, t3, t4⟩ := hbx1.out.below hb
          replace hB1 := chain hB1 hb
          go_wp2
          go_ret
          exact ⟨congrArg Ending.returned E.out.symm, hB1⟩
        · rw [hq] at HQ
          by_cases ht : (F.ths.length : Int) ≤ x.t
          · have E := Lib.hid (show fltv (atomT F.ths.length F.cond).1 (atomT F.ths.length F.cond).2.1 (atomT F.ths.length F.cond).2.2 = .iface 92 (.agg #[.int .i64 F.ths.length, .int .i64 k, .iface 32 (.int .i64 22)]) by
              have e : atC F.ths.length F.cond k = 22 := by rw [HC.out, if_neg h6]; exact (if_neg (by rw [hq]; simp)).trans (if_pos ht)
              rw [atomT_hit hlt HA.out (by rw [e]; decide), e]; rfl)
            have q2 : decide ((F.ths.length : Int) ≤ x.t) = true := decide_eq_true ht
            clear HC hq h6 ht
            go_wp2_with fail
            refine HQ.out.mono ?_
            rintro e w1 ⟨rfl, hb⟩
            obtain ⟨t0, t1, t2, t3, t4⟩ := hbx1.out.below hb
            obtain ⟨a0, a1, a2⟩ := hbA.below hb
            replace hB1 := chain hB1 hb
            go_wp2
            go_ret
            exact ⟨congrArg Ending.returned E.out.symm, hB1⟩
          · have hz := Lib.hid (show atC F.ths.length F.cond k = 0 by rw [HC.out, if_neg h6]; exact (if_neg (by rw [hq]; simp)).trans (if_neg ht))
            have q2 : decide ((F.ths.length : Int) ≤ x.t) = false := decide_eq_false ht
            clear HC hq h6 ht
            go_wp2_with fail
            refine HQ.out.mono ?_
            rintro e w1 ⟨rfl, hb⟩
            have hbx2 := Lib.hid (hbx1.out.below hb)
            obtain ⟨t0, t1, t2, t3, t4⟩ := hbx2.out
            obtain ⟨a0, a1, a2⟩ := hbA.below hb
            replace hB1 := chain hB1 hb
            go_wp2
            refine ⟨⟨k + 1, by omega, by go_num, fun j hj => ?_, hB1, hbx2.out⟩, by simp [intOf]; omega⟩
            by_cases e : j = k
            · rw [e]; exact hz.out
            · exact HA.out j (by omega)
    · obtain rfl : F.cond.length = k := by omega
      have E := Lib.hid (show fltv (atomT F.ths.length F.cond).1 (atomT F.ths.length F.cond).2.1 (atomT F.ths.length F.cond).2.2 = .nilIface by rw [atomT_end HA.out]; rfl)
      clear ha3
      go_wp2
      go_ret
      exact ⟨congrArg Ending.returned E.out.symm, hB⟩
end Go.Proofs.YtaelfjphgdlbcaaGreatDoor
