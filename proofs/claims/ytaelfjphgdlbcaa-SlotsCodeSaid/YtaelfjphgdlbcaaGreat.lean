/-
  THE LAWS' Great: is a program too much? Where it is not, all is small.
-/
import Derived.Test.YtaelfjphgdlbcaaM02
import Derived.Test.YtaelfjphgdlbcaaM03
namespace Go.Proofs.Ytaelfjphgdlbcaa
open Go.RowKit
set_option linter.unusedVariables false
set_option linter.unusedSimpArgs false
open WordM (L)
open VM

set_option maxHeartbeats 1000000 in
set_option maxRecDepth 100000 in
theorem greatline_any (op n : Int) (r o b : ByteArray) (w : World) :
    Calls Try.prog 33 #[lnv op r o b n] w fun e w' => e = .returned (.bool (decide (1000 < r.size) || (decide (1000 < o.size) || decide (1000 < b.size)))) ∧ Below w.heap.size w w' := by
  unfold lnv
  by_cases h1 : 1000 < r.size
  · have q1 : decide ((1000 : Int) < (r.size : Int)) = true := decide_eq_true (by omega)
    have E := Lib.hid (show (decide (1000 < r.size) || (decide (1000 < o.size) || decide (1000 < b.size))) = true by rw [decide_eq_true h1]; rfl)
    clear h1
    go_enter Try.func33, Try.ntmps33
    go_wp2
    go_ret
    exact ⟨ret_bool (by rw [E.out]), (Below.refl _ _).alloc (Nat.le_refl _) _⟩
  · have q1 : decide ((1000 : Int) < (r.size : Int)) = false := decide_eq_false (by omega)
    by_cases h2 : 1000 < o.size
    · have q2 : decide ((1000 : Int) < (o.size : Int)) = true := decide_eq_true (by omega)
      have E := Lib.hid (show (decide (1000 < r.size) || (decide (1000 < o.size) || decide (1000 < b.size))) = true by rw [decide_eq_true h2]; simp)
      clear h1 h2
      go_enter Try.func33, Try.ntmps33
      go_wp2
      go_ret
      exact ⟨ret_bool (by rw [E.out]), (Below.refl _ _).alloc (Nat.le_refl _) _⟩
    · have q2 : decide ((1000 : Int) < (o.size : Int)) = false := decide_eq_false (by omega)
      have E := Lib.hid (show (decide (1000 < r.size) || (decide (1000 < o.size) || decide (1000 < b.size))) = decide (1000 < b.size) by rw [decide_eq_false h1, decide_eq_false h2]; rfl)
      have E2 := Lib.hid (show decide ((1000 : Int) < (b.size : Int)) = decide (1000 < b.size) by congr 1; exact propext (by omega))
      clear h1 h2
      go_enter Try.func33, Try.ntmps33
      go_wp2
      go_ret
      exact ⟨ret_bool (by rw [E.out, ← E2.out]), (Below.refl _ _).alloc (Nat.le_refl _) _⟩

/-- Whether words are too much. -/
theorem greatline_l (x : OpsM.Ln) (w : World) :
    Calls Try.prog 33 #[.agg #[.int .i64 x.op, .string ⟨x.reg.toArray⟩, .string ⟨x.loc.toArray⟩, .string ⟨x.label.toArray⟩, .int .i64 x.n]] w fun e w' => ∃ b, e = .returned (.bool b) ∧ (b = false → x.reg.length ≤ 1000 ∧ x.loc.length ≤ 1000 ∧ x.label.length ≤ 1000) ∧ Below w.heap.size w w' := by
  refine (greatline_any x.op x.n ⟨x.reg.toArray⟩ ⟨x.loc.toArray⟩ ⟨x.label.toArray⟩ w).mono ?_
  rintro e w' ⟨rfl, hb⟩
  refine ⟨_, rfl, fun h => ?_, hb⟩
  simp only [Lib.size_eq, Bool.or_eq_false_iff, decide_eq_false_iff_not] at h
  have h1 : ¬ 1000 < x.reg.length := h.1
  have h2 : ¬ 1000 < x.loc.length := h.2.1
  have h3 : ¬ 1000 < x.label.length := h.2.2
  omega
structure Small (F : Fl) : Prop where
  n1 : F.ths.length ≤ 9
  n2 : F.init.length ≤ 60
  n3 : F.cond.length ≤ 60
  name : F.name.length ≤ 1000
  init : ∀ j (h : j < F.init.length), F.init[j].1.length ≤ 100
  cond : ∀ j (h : j < F.cond.length), F.cond[j].nm.length ≤ 100
  ths : ∀ j (h : j < F.ths.length), F.ths[j].length ≤ 100 ∧ ∀ l ∈ F.ths[j], l.reg.length ≤ 1000 ∧ l.loc.length ≤ 1000 ∧ l.label.length ≤ 1000
/-- The ints of a program are ints. -/
def IntsOk (F : Fl) : Prop := ∀ a ∈ F.cond, NumM.inR a.t
theorem Small.ok {F : Fl} (h : Small F) (hi : IntsOk F) : FlOk F := by
  refine ⟨by have := h.name; omega, fun c hc => ?_, fun ls hl => ?_, fun a ha => ⟨?_, hi a ha⟩, by have := h.n1; have := h.n2; have := h.n3; omega⟩
  · obtain ⟨j, hj, rfl⟩ := List.mem_iff_getElem.1 hc
    have := h.init j hj; omega
  · obtain ⟨j, hj, rfl⟩ := List.mem_iff_getElem.1 hl
    have := h.ths j hj
    exact ⟨by omega, fun l hl => by have := this.2 l hl; omega⟩
  · obtain ⟨j, hj, rfl⟩ := List.mem_iff_getElem.1 ha
    have := h.cond j hj; omega
def GrK (F : Fl) (vi vt vc : Value) (w wr : World) : Prop := Below w.heap.size w wr ∧ FlBox wr w.heap.size ⟨F.name.toArray⟩ vi vt vc F.all
def G1Rel (F : Fl) (vi vt vc : Value) (w : World) (i : Value) (wr : World) : Prop :=
  ∃ k : Nat, k ≤ F.init.length ∧ i = .int .i64 k ∧ (∀ j (h : j < F.init.length), j < k → F.init[j].1.length ≤ 100) ∧ GrK F vi vt vc w wr
def G2Rel (F : Fl) (vi vt vc : Value) (w : World) (i : Value) (wr : World) : Prop :=
  ∃ k : Nat, k ≤ F.cond.length ∧ i = .int .i64 k ∧ (∀ j (h : j < F.cond.length), j < k → F.cond[j].nm.length ≤ 100) ∧ GrK F vi vt vc w wr
def G3Rel (F : Fl) (vi vt vc : Value) (w : World) (i : Value) (wr : World) : Prop :=
  ∃ k : Nat, k ≤ F.ths.length ∧ i = .int .i64 k ∧ (∀ j (h : j < F.ths.length), j < k → F.ths[j].length ≤ 100 ∧ ∀ l ∈ F.ths[j], l.reg.length ≤ 1000 ∧ l.loc.length ≤ 1000 ∧ l.label.length ≤ 1000) ∧ GrK F vi vt vc w wr
def G4Rel (F : Fl) (ls : List OpsM.Ln) (vi vt vc : Value) (w : World) (i : Value) (wr : World) : Prop :=
  ∃ k : Nat, k ≤ ls.length ∧ i = .int .i64 k ∧ (∀ j (h : j < ls.length), j < k → ls[j].reg.length ≤ 1000 ∧ ls[j].loc.length ≤ 1000 ∧ ls[j].label.length ≤ 1000) ∧ GrK F vi vt vc w wr
def GrRet (F : Fl) (w : World) (e : Ending) (w' : World) : Prop := ∃ b, e = .returned (.bool b) ∧ (b = false → Small F) ∧ Below w.heap.size w w'
theorem GrRet.yes {F : Fl} {w w' : World} (h : Below w.heap.size w w') : GrRet F w (.returned (.bool true)) w' := ⟨true, rfl, fun c => (by cases c), h⟩
set_option maxHeartbeats 8000000 in
set_option maxRecDepth 100000 in
theorem vgreat_any {B : Nat} {v : Value} {F : Fl} (w : World) (hv : FlV B w v F) (hBB : B ≤ w.heap.size) :
    Calls Try.prog 12 #[v] w (GrRet F w) := by
  obtain ⟨vi, vt, vc, rfl, hm⟩ := hv
  unfold flv
  obtain ⟨hmi, hmt, hmc⟩ := hm
  obtain ⟨A0, c0, rfl, hi1, hi2, hi3⟩ := hmi
  obtain ⟨A2, c2, rfl, hb1, hb2, hb3⟩ := hmt
  obtain ⟨A1, c1, rfl, ha1, ha2, ha3⟩ := hmc
  have hB0 := below_al (Below.refl w.heap.size w) (.cells #[.string ⟨F.name.toArray⟩, .slice A0 F.init.length c0, .slice A2 F.ths.length c2, .bool F.all, .slice A1 F.cond.length c1] 30)
  have hbx := FlBox.at (w := w) rfl ⟨F.name.toArray⟩ (.slice A0 F.init.length c0) (.slice A2 F.ths.length c2) (.slice A1 F.cond.length c1) F.all 30
  have HG := Lib.hid (fun x W => greatline_l x W)
  unfold maxLen at hb2 ha2 hi2
  obtain ⟨t0, t1, t2, t3, t4⟩ := id hbx
  by_cases h1 : 9 < F.ths.length
  · have q : decide ((9 : Int) < (F.ths.length : Int)) = true := decide_eq_true (by omega)
    go_enter Try.func12, Try.ntmps12
    go_wp2
    go_ret
    exact GrRet.yes hB0
  have q1 : decide ((9 : Int) < (F.ths.length : Int)) = false := decide_eq_false (by omega)
  by_cases h2 : 60 < F.init.length
  · have q : decide ((60 : Int) < (F.init.length : Int)) = true := decide_eq_true (by omega)
    go_enter Try.func12, Try.ntmps12
    go_wp2
    go_ret
    exact GrRet.yes hB0
  have q2 : decide ((60 : Int) < (F.init.length : Int)) = false := decide_eq_false (by omega)
  by_cases h3 : 60 < F.cond.length
  · have q : decide ((60 : Int) < (F.cond.length : Int)) = true := decide_eq_true (by omega)
    go_enter Try.func12, Try.ntmps12
    go_wp2
    go_ret
    exact GrRet.yes hB0
  have q3 : decide ((60 : Int) < (F.cond.length : Int)) = false := decide_eq_false (by omega)
  have hsn : (⟨F.name.toArray⟩ : ByteArray).size = F.name.length := by rw [Lib.size_eq]
  by_cases h4 : 1000 < F.name.length
  · have q : decide ((1000 : Int) < ((⟨F.name.toArray⟩ : ByteArray).size : Int)) = true := decide_eq_true (by omega)
    go_enter Try.func12, Try.ntmps12
    go_wp2
    go_ret
    exact GrRet.yes hB0
  have q4 : decide ((1000 : Int) < ((⟨F.name.toArray⟩ : ByteArray).size : Int)) = false := decide_eq_false (by omega)
  have HN := Lib.hid (show F.ths.length ≤ 9 ∧ F.init.length ≤ 60 ∧ F.cond.length ≤ 60 ∧ F.name.length ≤ 1000 by omega)
  go_enter Try.func12, Try.ntmps12
  go_wp2
  go_loopw [3] (fun i wr => G1Rel F (.slice A0 F.init.length c0) (.slice A2 F.ths.length c2) (.slice A1 F.cond.length c1) w i wr) (fun i _ => F.init.length - (intOf i).toNat)
  case atStart => exact ⟨0, Nat.zero_le _, rfl, fun j _ h => absurd h (Nat.not_lt_zero j), hB0, hbx⟩
  case round =>
    clear t0 t1 t2 t3 t4 hB0 hbx q1 q2 q3 q4 h1 h2 h3 h4 hsn
    obtain ⟨k, hk, rfl, hall, hB, hbx⟩ := hrel
    obtain ⟨t0, t1, t2, t3, t4⟩ := id hbx
    have HA1 := Lib.hid hall
    have HBX := Lib.hid hbx
    clear hall hbx
    by_cases hlt : k < F.init.length
    · obtain ⟨b1, f1, rfl, hb1, hcl⟩ := hi3 (by omega)
      obtain ⟨d0, d1⟩ := (hcl k hlt).below (hB.mono hBB) hb1
      obtain ⟨x, hx⟩ : ∃ x, x = F.init[k] := ⟨_, rfl⟩
      rw [← hx] at d0 d1
      have HX := Lib.hid hx
      clear hx hcl hi3
      by_cases hg : 100 < x.1.length
      · have q : decide ((100 : Int) < (x.1.length : Int)) = true := decide_eq_true (by omega)
        go_wp2
        go_ret
        exact GrRet.yes hB
      · have q : decide ((100 : Int) < (x.1.length : Int)) = false := decide_eq_false (by omega)
        have HG1 := Lib.hid hg
        clear hg
        go_wp2
        refine ⟨⟨k + 1, by omega, by go_num, fun j h hj => ?_, hB, HBX.out⟩, by simp [intOf]; omega⟩
        by_cases e : j = k
        · subst e; have := HG1.out; rw [HX.out] at this; omega
        · exact HA1.out j h (by omega)
    · obtain rfl : F.init.length = k := by omega
      clear hi3
      go_wp2
      go_loopw [4] (fun i wr => G2Rel F (.slice A0 F.init.length c0) (.slice A2 F.ths.length c2) (.slice A1 F.cond.length c1) w i wr) (fun i _ => F.cond.length - (intOf i).toNat)
      case atStart => exact ⟨0, Nat.zero_le _, rfl, fun j _ h => absurd h (Nat.not_lt_zero j), hB, HBX.out⟩
      case round =>
        clear t0 t1 t2 t3 t4 hB HBX
        obtain ⟨k, hk, rfl, hall, hB, hbx⟩ := hrel
        obtain ⟨t0, t1, t2, t3, t4⟩ := id hbx
        have HA2 := Lib.hid hall
        have HBX := Lib.hid hbx
        clear hall hbx
        by_cases hlt : k < F.cond.length
        · obtain ⟨b1, f1, rfl, hb1, hcl⟩ := ha3 (by omega)
          obtain ⟨d0, d1, d2⟩ := (hcl k hlt).below (hB.mono hBB) hb1
          obtain ⟨x, hx⟩ : ∃ x, x = F.cond[k] := ⟨_, rfl⟩
          rw [← hx] at d0 d1 d2
          have HX := Lib.hid hx
          clear hx hcl ha3
          by_cases hg : 100 < x.nm.length
          · have q : decide ((100 : Int) < (x.nm.length : Int)) = true := decide_eq_true (by omega)
            go_wp2
            go_ret
            exact GrRet.yes hB
          · have q : decide ((100 : Int) < (x.nm.length : Int)) = false := decide_eq_false (by omega)
            have HG1 := Lib.hid hg
            clear hg
            go_wp2
            refine ⟨⟨k + 1, by omega, by go_num, fun j h hj => ?_, hB, HBX.out⟩, by simp [intOf]; omega⟩
            by_cases e : j = k
            · subst e; have := HG1.out; rw [HX.out] at this; omega
            · exact HA2.out j h (by omega)
        · obtain rfl : F.cond.length = k := by omega
          clear ha3
          go_wp2
          go_loopw [5] (fun i wr => G3Rel F (.slice A0 F.init.length c0) (.slice A2 F.ths.length c2) (.slice A1 F.cond.length c1) w i wr) (fun i _ => F.ths.length - (intOf i).toNat)
          case atStart => exact ⟨0, Nat.zero_le _, rfl, fun j _ h => absurd h (Nat.not_lt_zero j), hB, HBX.out⟩
          case round =>
            clear t0 t1 t2 t3 t4 hB HBX
            obtain ⟨k, hk, rfl, hall, hB, hbx⟩ := hrel
            obtain ⟨t0, t1, t2, t3, t4⟩ := id hbx
            have HA3 := Lib.hid hall
            have HBX := Lib.hid hbx
            clear hall hbx
            by_cases hlt : k < F.ths.length
            · obtain ⟨b1, f1, rfl, hb1, hcl⟩ := hb3 (by omega)
              obtain ⟨vl, d0w, hLn⟩ := hcl k hlt
              obtain ⟨ls, hx⟩ : ∃ x, x = F.ths[k] := ⟨_, rfl⟩
              rw [← hx] at hLn
              have HX := Lib.hid hx
              obtain ⟨A3, c3, rfl, he1, he2, he3⟩ := id hLn
              unfold maxLen at he2
              have HLn := Lib.hid hLn
              have D0 := Lib.hid d0w
              have d0 := ((hB.mono hBB).cell (p := ⟨b1, f1 + k, none⟩) hb1).trans d0w
              clear hx hcl hb3 hLn he3 d0w
              by_cases hg : 100 < ls.length
              · have q : decide ((100 : Int) < (ls.length : Int)) = true := decide_eq_true (by omega)
                go_wp2
                go_ret
                exact GrRet.yes hB
              · have q : decide ((100 : Int) < (ls.length : Int)) = false := decide_eq_false (by omega)
                have HG1 := Lib.hid hg
                go_wp2
                go_loopw [6] (fun i wr => G4Rel F ls (.slice A0 F.init.length c0) (.slice (some ⟨b1, f1, none⟩) F.ths.length c2) (.slice A1 F.cond.length c1) w i wr) (fun i _ => ls.length - (intOf i).toNat)
                case atStart => exact ⟨0, Nat.zero_le _, rfl, fun j _ h => absurd h (Nat.not_lt_zero j), hB, HBX.out⟩
                case round =>
                  clear t0 t1 t2 t3 t4 hB HBX d0 q hg
                  obtain ⟨m, hmk, rfl, hal, hB, hbx⟩ := hrel
                  obtain ⟨t0, t1, t2, t3, t4⟩ := id hbx
                  have d0 := ((hB.mono hBB).cell (p := ⟨b1, f1 + k, none⟩) hb1).trans D0.out
                  have HA4 := Lib.hid hal
                  have HBX := Lib.hid hbx
                  clear hal hbx
                  by_cases hlm : m < ls.length
                  · obtain ⟨A4, c4, e4, _, _, he3⟩ := HLn.out
                    injection e4 with e4 _ e5
                    subst e4; subst e5
                    obtain ⟨b3, f3, rfl, hb3, hc3⟩ := he3 (by omega)
                    obtain ⟨z0, z1, z2, z3, z4⟩ := (hc3 m hlm).below (hB.mono hBB) hb3
                    obtain ⟨x, hx⟩ : ∃ x, x = ls[m] := ⟨_, rfl⟩
                    rw [← hx] at z0 z1 z2 z3 z4
                    have HX2 := Lib.hid hx
                    clear hx hc3 he3
                    go_wp2_with fail
                    refine (HG.out x _).mono ?_
                    rintro e w1 ⟨b, rfl, hsm, hb⟩
                    have hB2 := chain hB hb
                    have HBX2 := Lib.hid (HBX.out.below hb)
                    have HSM := Lib.hid hsm
                    clear t0 t1 t2 t3 t4 d0 z0 z1 z2 z3 z4 hb hsm
                    cases b
                    · go_wp2
                      refine ⟨⟨m + 1, by omega, by go_num, fun j h hj => ?_, hB2, HBX2.out⟩, by simp [intOf]; omega⟩
                      by_cases e : j = m
                      · subst e; rw [← HX2.out]; exact HSM.out (by first | rfl | trivial)
                      · exact HA4.out j h (by omega)
                    · go_wp2
                      go_ret
                      exact GrRet.yes hB2
                  · obtain rfl : ls.length = m := by omega
                    go_wp2
                    refine ⟨⟨k + 1, by omega, by go_num, fun j h hj => ?_, hB, HBX.out⟩, by simp [intOf]; omega⟩
                    by_cases e : j = k
                    · subst e
                      rw [← HX.out]
                      refine ⟨by have := HG1.out; omega, fun l hl => ?_⟩
                      obtain ⟨i, hi, rfl⟩ := List.mem_iff_getElem.1 hl
                      exact HA4.out i hi hi
                    · exact HA3.out j h (by omega)
            · obtain rfl : F.ths.length = k := by omega
              have HS := Lib.hid (Small.mk HN.out.1 HN.out.2.1 HN.out.2.2.1 HN.out.2.2.2 (fun j h => HA1.out j h h) (fun j h => HA2.out j h h) (fun j h => HA3.out j h h))
              clear hb3
              go_wp2
              go_ret
              exact ⟨false, rfl, fun _ => HS.out, hB⟩
end Go.Proofs.Ytaelfjphgdlbcaa
