/-
  ATOMS: the document's Asked and Word, over any world.
  THE DOCUMENT's Check, Right, Locs.
  THE DOCUMENT's Right and Locs.
-/
import Derived.Test.YtmpiapmfdmllkaaGreatDoorBxF
import Derived.Test.YtmpiapmfdmllkaaGreatDoorRName
import Derived.Test.YtmpiapmfdmllkaaGreatDoorRHl
import Derived.Test.YtmpiapmfdmllkaaGreatDoorChk
import Derived.Test.YtmpiapmfdmllkaaGreatDoorFrmA
namespace Go.Proofs.YtmpiapmfdmllkaaGreatDoor
open Go.RowKit
set_option linter.unusedVariables false
set_option linter.unusedSimpArgs false
open WordM (L)

set_option maxHeartbeats 1000000 in
set_option maxRecDepth 100000 in
theorem rasked_any (t n : Int) (nm : ByteArray) (w : World) (hs : nm.size ≤ 100000) :
    Calls Tryz.prog 66 #[atv t nm n] w fun e w' => e = .returned (.bool (AtomM.asked t nm.data.toList)) ∧ Below w.heap.size w w' := by
  have HN := Lib.hid (fun W => rname_any nm W hs)
  have HR := Lib.hid (fun W => rreg_any nm W)
  clear hs
  by_cases h : t = -1
  · have E := Lib.hid (show AtomM.asked t nm.data.toList = WordM.nameB nm.data.toList by unfold AtomM.asked; rw [if_pos h])
    subst h
    unfold atv
    go_enter Tryz.func66, Tryz.ntmps66
    go_wp2_with (go_at_call 74; refine (HN.out _).mono ?_; rintro e w' ⟨rfl, hB⟩)
    go_ret
    exact ⟨by rw [E.out]; rfl, box_below hB⟩
  · have E := Lib.hid (show AtomM.asked t nm.data.toList = (decide (0 ≤ t) && (decide (t < 3) && OpsM.regB nm.data.toList)) by unfold AtomM.asked; rw [if_neg h])
    have h' : (t == -1) = false := beq_eq_false_iff_ne.2 h
    clear h
    generalize AtomM.asked t nm.data.toList = res at *
    have hsg : decide (0 ≤ WordM.regNo nm.data.toList) = OpsM.regB nm.data.toList := rfl
    generalize OpsM.regB nm.data.toList = rb at *
    generalize WordM.regNo nm.data.toList = rn at *
    unfold atv
    by_cases h0 : 0 ≤ t
    · have q0 : decide (0 ≤ t) = true := decide_eq_true h0
      by_cases h3 : t < 3
      · have q3 : decide (t < 3) = true := decide_eq_true h3
        cases rb
        all_goals
          go_enter Tryz.func66, Tryz.ntmps66
          go_wp2_with (go_at_call 61; refine (HR.out _).mono ?_; rintro e w' ⟨rfl, hB⟩)
          go_ret
          exact ⟨ret_bool (by rw [E.out, q0, q3]; rfl), box_below hB⟩
      · have q3 : decide (t < 3) = false := decide_eq_false h3
        go_enter Tryz.func66, Tryz.ntmps66
        go_wp2
        go_ret
        exact ⟨ret_bool (by rw [E.out, q0, q3]; simp), (Below.refl _ _).alloc (Nat.le_refl _) _⟩
    · have q0 : decide (0 ≤ t) = false := decide_eq_false h0
      go_enter Tryz.func66, Tryz.ntmps66
      go_wp2
      go_ret
      exact ⟨ret_bool (by rw [E.out, q0]; simp), (Below.refl _ _).alloc (Nat.le_refl _) _⟩
end Go.Proofs.YtmpiapmfdmllkaaGreatDoor
namespace Go.Proofs.YtmpiapmfdmllkaaGreatDoor
open Go.RowKit
set_option linter.unusedVariables false
set_option linter.unusedSimpArgs false
open WordM (L)
open VM

theorem rasked_l (x : AtomM.At) (w : World) (hs : x.nm.length ≤ 100000) :
    Calls Tryz.prog 66 #[.agg #[.int .i64 x.t, .string ⟨x.nm.toArray⟩, .int .i64 x.n]] w fun e w' => e = .returned (.bool (AtomM.askedA x)) ∧ Below w.heap.size w w' := rasked_any x.t x.n ⟨x.nm.toArray⟩ w (by rw [Lib.size_eq]; exact hs)
def C1Rel (F : Fl) (vi vt vc : Value) (w : World) (i : Value) (wr : World) : Prop :=
  ∃ k : Nat, k ≤ F.ths.length ∧ i = .int .i64 k ∧ (∀ j, j < k → thC (F.ths.getD j []) = none) ∧ Below w.heap.size w wr ∧ FlBox wr w.heap.size ⟨F.name.toArray⟩ vi vt vc F.all
def C2Rel (F : Fl) (ls : List OpsM.Ln) (vi vt vc : Value) (w : World) (i : Value) (wr : World) : Prop :=
  ∃ k : Nat, k ≤ ls.length ∧ i = .int .i64 k ∧ (∀ j, j < k → lnC ls j = 0) ∧ Below w.heap.size w wr ∧ FlBox wr w.heap.size ⟨F.name.toArray⟩ vi vt vc F.all
theorem tup3 {a b c x y z : Int} (h : ((a, b, c) : Int × Int × Int) = (x, y, z)) : Ending.returned (.tuple #[.int .i64 x, .int .i64 y, .int .i64 z]) = .returned (.tuple #[.int .i64 a, .int .i64 b, .int .i64 c]) := by
  injection h with h1 h2; injection h2 with h2 h3; subst h1; subst h2; subst h3; rfl
/-- What a call says that tells a place and a number. -/
def RetChk (F : Fl) (w : World) (e : Ending) (w' : World) : Prop := e = .returned (.tuple #[.int .i64 (chk F).1, .int .i64 (chk F).2.1, .int .i64 (chk F).2.2]) ∧ Below w.heap.size w w'
theorem RetChk.mk {F : Fl} {w w' : World} {a b c : Int} (h : chk F = (a, b, c)) (hb : Below w.heap.size w w') : RetChk F w (.returned (.tuple #[.int .i64 a, .int .i64 b, .int .i64 c])) w' := by
  unfold RetChk; rw [h]; exact ⟨rfl, hb⟩
set_option maxHeartbeats 8000000 in
set_option maxRecDepth 100000 in
theorem rcheck_any {B : Nat} {v : Value} {F : Fl} (w : World) (hv : FlV B w v F) (hBB : B ≤ w.heap.size) (ok : FlOk F) :
    Calls Tryz.prog 49 #[v] w (RetChk F w) := by
  obtain ⟨vi, vt, vc, rfl, hm⟩ := hv
  have HM := Lib.hid hm
  have HOK := Lib.hid ok
  have HV : ∀ W, Below w.heap.size w W → FlV W.heap.size W (flv ⟨F.name.toArray⟩ vi vt vc F.all) F := fun W hW => ⟨vi, vt, vc, rfl, (HM.out.below (hW.mono hBB)).more (Nat.le_trans hBB hW.size)⟩
  have HH := Lib.hid (fun W (hW : Below w.heap.size w W) => rhead_any W (HV W hW) (Nat.le_refl _) HOK.out)
  have HL := Lib.hid (fun W (hW : Below w.heap.size w W) => rlocs_any W (HV W hW) (Nat.le_refl _) HOK.out)
  unfold flv at *
  obtain ⟨hmi, hmt, hmc⟩ := hm
  obtain ⟨A0, c0, rfl, hi1, hi2, hi3⟩ := hmi
  obtain ⟨A2, c2, rfl, hb1, hb2, hb3⟩ := hmt
  obtain ⟨A1, c1, rfl, ha1, ha2, ha3⟩ := hmc
  have hn := ok.nums
  have hB0 := below_al (Below.refl w.heap.size w) (.cells #[.string ⟨F.name.toArray⟩, .slice A0 F.init.length c0, .slice A2 F.ths.length c2, .bool F.all, .slice A1 F.cond.length c1] 26)
  have hbx := FlBox.at (w := w) rfl ⟨F.name.toArray⟩ (.slice A0 F.init.length c0) (.slice A2 F.ths.length c2) (.slice A1 F.cond.length c1) F.all 26
  have HH1 := Lib.hid (HH.out _ hB0)
  clear ok HV hi3 HM HH
  unfold maxLen at hb2 ha2 hi2
  by_cases hf : frameC F = 0
  · rw [hf] at HH1
    have HF := Lib.hid hf
    clear hf
    go_enter Tryz.func49, Tryz.ntmps49
    go_wp2_with fail
    refine HH1.out.mono ?_
    rintro e w1 ⟨rfl, hb⟩
    have hB1 := chain hB0 hb
    have hbx1 := hbx.below hb
    clear hb hB0 hbx HH1
    go_wp2
    go_loopw [6] (fun i wr => C1Rel F (.slice A0 F.init.length c0) (.slice A2 F.ths.length c2) (.slice A1 F.cond.length c1) w i wr) (fun i _ => F.ths.length - (intOf i).toNat)
    case atStart => exact ⟨0, Nat.zero_le _, rfl, fun j h => absurd h (Nat.not_lt_zero j), hB1, hbx1⟩
    case round =>
      clear hB1 hbx1
      obtain ⟨k, hk, rfl, hall, hB, hbx⟩ := hrel
      have HA := Lib.hid hall
      obtain ⟨t0, t1, t2, t3, t4⟩ := id hbx
      by_cases hlt : k < F.ths.length
      · obtain ⟨b1, f1, rfl, hb1, hcl⟩ := hb3 (by omega)
        obtain ⟨vl, d0w, hLn⟩ := hcl k hlt
        have HD := Lib.hid (getD_at F.ths k [] hlt)
        have HOk := HOK.out.ths F.ths[k] (List.getElem_mem _)
        obtain ⟨ls, hx⟩ : ∃ x, x = F.ths[k] := ⟨_, rfl⟩
        rw [← hx] at hLn HOk
        have HX := Lib.hid hx
        obtain ⟨A3, c3, rfl, he1, he2, he3⟩ := id hLn
        unfold maxLen at he2
        have HLn := Lib.hid hLn
        have D0 := Lib.hid d0w
        have hln := HOk.1
        have HS := Lib.hid HOk.2
        have HBX := Lib.hid hbx
        clear hx hcl hb3 hLn he3 d0w hall hbx HOk
        go_wp2
        go_loopw [7] (fun i wr => C2Rel F ls (.slice A0 F.init.length c0) (.slice (some ⟨b1, f1, none⟩) F.ths.length c2) (.slice A1 F.cond.length c1) w i wr) (fun i _ => ls.length - (intOf i).toNat)
        case atStart => exact ⟨0, Nat.zero_le _, rfl, fun j h => absurd h (Nat.not_lt_zero j), hB, HBX.out⟩
        case round =>
          clear t0 t1 t2 t3 t4 hB HBX
          obtain ⟨m, hmk, rfl, hal, hB3, hbx3⟩ := hrel
          obtain ⟨t0, t1, t2, t3, t4⟩ := id hbx3
          have HAl := Lib.hid hal
          have d0 := ((hB3.mono hBB).cell (p := ⟨b1, f1 + k, none⟩) hb1).trans D0.out
          have HBX3 := Lib.hid hbx3
          clear hal hbx3
          by_cases hlm : m < ls.length
          · have HC := Lib.hid (rline_any wr (HLn.out.below (hB3.mono hBB)) (Nat.le_trans hBB hB3.size) hlm hln HS.out)
            by_cases hz : lnC ls m = 0
            · rw [hz] at HC
              have HZ := Lib.hid hz
              clear hz
              go_wp2_with fail
              refine HC.out.mono ?_
              rintro e w2 ⟨rfl, hb⟩
              have hB4 := chain hB3 hb
              have HBX4 := Lib.hid (HBX3.out.below hb)
              clear t0 t1 t2 t3 t4 d0 hb HC
              go_wp2
              refine ⟨⟨m + 1, by omega, by go_num, fun j hj => ?_, hB4, HBX4.out⟩, by simp [intOf]; omega⟩
              by_cases e : j = m
              · rw [e]; exact HZ.out
              · exact HAl.out j (by omega)
            · have E := Lib.hid (show chk F = ((k : Int), (m : Int), lnC ls m) by
                have e : F.ths.getD k [] = ls := HD.out.trans HX.out.symm
                have hT := lineT_hit hlt HA.out (by rw [e]; exact hlm) (by rw [e]; exact HAl.out) (by rw [e]; exact hz)
                rw [e] at hT
                unfold chk
                rw [if_neg (by rw [HF.out]; simp), hT, if_pos hz])
              obtain ⟨c, hc⟩ : ∃ c, c = lnC ls m := ⟨_, rfl⟩
              rw [← hc] at E hz HC
              have q : (c == 0) = false := by simpa using hz
              clear hc
              go_wp2_with fail
              refine HC.out.mono ?_
              rintro e w2 ⟨rfl, hb⟩
              have hB4 := chain hB3 hb
              clear t0 t1 t2 t3 t4 d0 hb HC
              go_wp2
              go_ret3
              exact RetChk.mk E.out hB4
          · obtain rfl : ls.length = m := by omega
            have HT := Lib.hid (thC_none HAl.out)
            go_wp2
            refine ⟨⟨k + 1, by omega, by go_num, fun j hj => ?_, hB3, HBX3.out⟩, by simp [intOf]; omega⟩
            by_cases e : j = k
            · rw [e, HD.out, ← HX.out]; exact HT.out
            · exact HA.out j (by omega)
      · obtain rfl : F.ths.length = k := by omega
        have HLT := Lib.hid (lineT_end HA.out)
        have HBX := Lib.hid hbx
        clear hb3 hall HA hbx
        go_wp2
        go_loopw [9] (fun i wr => AfRel F (.slice A0 F.init.length c0) (.slice A2 F.ths.length c2) (.slice A1 F.cond.length c1) w i wr) (fun i _ => F.cond.length - (intOf i).toNat)
        case atStart => exact ⟨0, Nat.zero_le _, rfl, fun j h => absurd h (Nat.not_lt_zero j), hB, HBX.out⟩
        case round =>
          clear t0 t1 t2 t3 t4 hB HBX
          obtain ⟨k, hk, rfl, hall, hB, hbx⟩ := hrel
          have HA := Lib.hid hall
          obtain ⟨t0, t1, t2, t3, t4⟩ := id hbx
          clear hall
          have EA := Lib.hid (fun (c : Int) (hlt : k < F.cond.length) (e : atC F.ths.length F.cond k = c) (hc : c ≠ 0) => (show chk F = ((F.ths.length : Int), (k : Int), c) by
            have hT := atomT_hit hlt HA.out (by rw [e]; exact hc)
            rw [e] at hT
            unfold chk
            rw [if_neg (by rw [HF.out]; simp), HLT.out, if_neg (by simp), hT, if_pos hc]))
          by_cases hlt : k < F.cond.length
          · obtain ⟨b1, f1, rfl, hb1, hcl⟩ := ha3 (by omega)
            obtain ⟨d0, d1, d2⟩ := (hcl k hlt).below (hB.mono hBB) hb1
            have HC := Lib.hid (atC_at (n := F.ths.length) hlt)
            have HOk := (HOK.out.cond F.cond[k] (List.getElem_mem _)).1
            obtain ⟨x, hx⟩ : ∃ x, x = F.cond[k] := ⟨_, rfl⟩
            rw [← hx] at d0 d1 d2 HOk
            replace HC := Lib.hid (hx.symm ▸ HC.out)
            have hB1 := below_al hB (.cells #[.int .i64 x.t, .string ⟨x.nm.toArray⟩, .int .i64 x.n] 60)
            have HQ := Lib.hid (rasked_l x (wr.alloc (.cells #[.int .i64 x.t, .string ⟨x.nm.toArray⟩, .int .i64 x.n] 60)) HOk)
            have hbx1 := Lib.hid (hbx.below (below_al (Below.refl _ _) (.cells #[.int .i64 x.t, .string ⟨x.nm.toArray⟩, .int .i64 x.n] 60)))
            have hbA := AtBox.at (w := wr) rfl x.t x.n ⟨x.nm.toArray⟩ 60
            obtain ⟨s0, s1, s2, s3, s4⟩ := hbx1.out
            clear hx hcl ha3 hbx HL
            by_cases h6 : 6 ≤ k
            · have E := Lib.hid (EA.out 5 hlt (by rw [HC.out, if_pos h6]) (by decide))
              have q : decide ((6 : Int) ≤ (k : Int)) = true := decide_eq_true (by omega)
              clear HC HQ EA
              go_wp2
              go_ret3
              exact RetChk.mk E.out hB1
            · have q : decide ((6 : Int) ≤ (k : Int)) = false := decide_eq_false (by omega)
              cases hq : AtomM.askedA x
              · have E := Lib.hid (EA.out 1 hlt (by rw [HC.out, if_neg h6]; exact if_pos hq) (by decide))
                rw [hq] at HQ
                clear HC hq h6 EA
                go_wp2_with fail
                refine HQ.out.mono ?_
                rintro e w1 ⟨rfl, hb⟩
                obtain ⟨t0, t1, t2, t3, t4⟩ := hbx1.out.below hb
                replace hB1 := chain hB1 hb
                go_wp2
                go_ret3
                exact RetChk.mk E.out hB1
              · rw [hq] at HQ
                by_cases ht : (F.ths.length : Int) ≤ x.t
                · have E := Lib.hid (EA.out 22 hlt (by rw [HC.out, if_neg h6]; exact (if_neg (by rw [hq]; simp)).trans (if_pos ht)) (by decide))
                  have q2 : decide ((F.ths.length : Int) ≤ x.t) = true := decide_eq_true ht
                  clear HC hq h6 ht EA
                  go_wp2_with fail
                  refine HQ.out.mono ?_
                  rintro e w1 ⟨rfl, hb⟩
                  obtain ⟨t0, t1, t2, t3, t4⟩ := hbx1.out.below hb
                  obtain ⟨a0, a1, a2⟩ := hbA.below hb
                  replace hB1 := chain hB1 hb
                  go_wp2
                  go_ret3
                  exact RetChk.mk E.out hB1
                · have hz := Lib.hid (show atC F.ths.length F.cond k = 0 by rw [HC.out, if_neg h6]; exact (if_neg (by rw [hq]; simp)).trans (if_neg ht))
                  have q2 : decide ((F.ths.length : Int) ≤ x.t) = false := decide_eq_false ht
                  clear HC hq h6 ht EA
                  go_wp2_with fail
                  refine HQ.out.mono ?_
                  rintro e w1 ⟨rfl, hb⟩
                  have hbx2 := Lib.hid (hbx1.out.below hb)
                  obtain ⟨t0, t1, t2, t3, t4⟩ := hbx2.out
                  obtain ⟨a0, a1, a2⟩ := hbA.below hb
                  replace hB1 := chain hB1 hb
                  go_wp2
                  refine ⟨⟨k + 1, by omega, by go_num, fun j hj => ?_, hB1, hbx2.out⟩, by simp [intOf]; omega⟩
                  by_cases e : j = k
                  · rw [e]; exact hz.out
                  · exact HA.out j (by omega)
          · obtain rfl : F.cond.length = k := by omega
            have HAT := Lib.hid (atomT_end HA.out)
            have HL1 := Lib.hid (HL.out wr hB)
            have E := Lib.hid (show chk F = if locC F ≠ 0 then (-1, -1, locC F) else (0, 0, 0) by
              unfold chk
              rw [if_neg (by rw [HF.out]; simp), HLT.out, if_neg (by simp), HAT.out, if_neg (by simp)])
            clear ha3 HL EA hbx
            go_wp2_with fail
            refine HL1.out.mono ?_
            rintro e w1 ⟨v1, rfl, hown, hb⟩
            obtain ⟨A5, c5, rfl, hx1, hx2, -⟩ := strs_own hown
            have hB5 := chain hB hb
            clear hown hb t0 t1 t2 t3 t4 HL1
            by_cases h4 : 4 < (locs F).length
            · have E1 := Lib.hid (show chk F = (-1, -1, 5) by
                have e : locC F = 5 := if_pos h4
                rw [E.out, e]; rfl)
              have q : decide ((4 : Int) < ((locs F).length : Int)) = true := decide_eq_true (by omega)
              clear E
              go_wp2
              go_ret3
              exact RetChk.mk E1.out hB5
            · have E1 := Lib.hid (show chk F = (0, 0, 0) by
                have e : locC F = 0 := if_neg h4
                rw [E.out, e]; rfl)
              have q : decide ((4 : Int) < ((locs F).length : Int)) = false := decide_eq_false (by omega)
              clear E
              go_wp2
              go_ret3
              exact RetChk.mk E1.out hB5
  · have E := Lib.hid (show chk F = (-1, -1, frameC F) by unfold chk; rw [if_pos hf])
    obtain ⟨c, hc⟩ : ∃ c, c = frameC F := ⟨_, rfl⟩
    rw [← hc] at E hf HH1
    have q : (c == 0) = false := by simpa using hf
    clear hc
    go_enter Tryz.func49, Tryz.ntmps49
    go_wp2_with fail
    refine HH1.out.mono ?_
    rintro e w1 ⟨rfl, hb⟩
    have hB1 := chain hB0 hb
    clear hb hB0 hbx HH1
    go_wp2
    go_ret3
    exact RetChk.mk E.out hB1
end Go.Proofs.YtmpiapmfdmllkaaGreatDoor
namespace Go.Proofs.YtmpiapmfdmllkaaGreatDoor
open Go.RowKit
set_option linter.unusedVariables false
set_option linter.unusedSimpArgs false
open WordM (L)
open VM

set_option maxHeartbeats 2000000 in
set_option maxRecDepth 100000 in
theorem rvright_any {B : Nat} {v : Value} {F : Fl} (w : World) (hv : FlV B w v F) (hBB : B ≤ w.heap.size) (ok : FlOk F) :
    Calls Tryz.prog 21 #[v] w fun e w' => e = .returned (.bool (VM.right F)) ∧ Below w.heap.size w w' := by
  obtain ⟨vi, vt, vc, rfl, hm⟩ := hv
  have HM := Lib.hid hm
  have hB3 := below_al (Below.refl w.heap.size w) (.cells #[.string ⟨F.name.toArray⟩, vi, vt, .bool F.all, vc] 26)
  have H1 := Lib.hid (rcheck_any _ ⟨vi, vt, vc, rfl, HM.out.below (hB3.mono hBB)⟩ (Nat.le_trans hBB hB3.size) ok)
  obtain ⟨⟨A0, c0, rfl, _⟩, ⟨A2, c2, rfl, _⟩, ⟨A1, c1, rfl, _⟩⟩ := hm
  have E := Lib.hid (show VM.right F = ((chk F).2.2 == 0) from rfl)
  unfold RetChk at H1
  unfold flv at *
  clear ok HM
  generalize chk F = t at *
  obtain ⟨a, b, c⟩ := t
  go_enter Tryz.func21, Tryz.ntmps21
  go_wp2_with fail
  refine H1.out.mono ?_
  rintro e w1 ⟨rfl, hb⟩
  have hB := chain hB3 hb
  go_wp2
  go_ret
  exact ⟨ret_bool E.out.symm, hB⟩
set_option maxHeartbeats 2000000 in
set_option maxRecDepth 100000 in
theorem rvlocs_any {B : Nat} {v : Value} {F : Fl} (w : World) (hv : FlV B w v F) (hBB : B ≤ w.heap.size) (ok : FlOk F) :
    Calls Tryz.prog 22 #[v] w (RetStrs (locsR F) w) := by
  obtain ⟨vi, vt, vc, rfl, hm⟩ := hv
  have HM := Lib.hid hm
  have HOK := Lib.hid ok
  have hB3 := below_al (Below.refl w.heap.size w) (.cells #[.string ⟨F.name.toArray⟩, vi, vt, .bool F.all, vc] 26)
  have hbx := FlBox.at (w := w) rfl ⟨F.name.toArray⟩ vi vt vc F.all 26
  have H1 := Lib.hid (rvright_any _ ⟨vi, vt, vc, rfl, HM.out.below (hB3.mono hBB)⟩ (Nat.le_trans hBB hB3.size) ok)
  have H2 := Lib.hid (fun W (hW : Below w.heap.size w W) => rlocs_any (v := flv ⟨F.name.toArray⟩ vi vt vc F.all) W ⟨vi, vt, vc, rfl, HM.out.below (hW.mono hBB)⟩ (Nat.le_trans hBB hW.size) HOK.out)
  obtain ⟨⟨A0, c0, rfl, _⟩, ⟨A2, c2, rfl, _⟩, ⟨A1, c1, rfl, _⟩⟩ := hm
  unfold flv at *
  clear ok HM
  cases hq : VM.right F
  · have E := Lib.hid (show locsR F = [] by unfold locsR; rw [hq]; rfl)
    rw [hq] at H1
    clear hq H2
    go_enter Tryz.func22, Tryz.ntmps22
    go_wp2_with fail
    refine H1.out.mono ?_
    rintro e w1 ⟨rfl, hb⟩
    have hB := chain hB3 hb
    go_wp2
    go_ret
    unfold RetStrs
    rw [E.out]
    exact ⟨_, rfl, ⟨rfl, .inl ⟨rfl, rfl⟩⟩, hB⟩
  · have E := Lib.hid (show locsR F = locs F by unfold locsR; rw [hq]; rfl)
    rw [hq] at H1
    clear hq
    go_enter Tryz.func22, Tryz.ntmps22
    go_wp2_with fail
    refine H1.out.mono ?_
    rintro e w1 ⟨rfl, hb⟩
    have hB := chain hB3 hb
    obtain ⟨t0, t1, t2, t3, t4⟩ := hbx.below hb
    have H3 := Lib.hid (H2.out w1 hB)
    clear H1 hb
    go_wp2_with fail
    refine H3.out.mono ?_
    rintro e w2 ⟨v, rfl, hown, hb2⟩
    have hB2 := chain hB hb2
    have HRow := Lib.hid (own_base hown hB.size)
    clear hown hb2 H3 t0 t1 t2 t3 t4
    go_wp2
    go_ret
    unfold RetStrs
    rw [E.out]
    exact ⟨v, rfl, HRow.out, hB2⟩
end Go.Proofs.YtmpiapmfdmllkaaGreatDoor
