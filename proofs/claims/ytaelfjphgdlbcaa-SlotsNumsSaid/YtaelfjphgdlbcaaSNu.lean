/-
  SlotsNums, as a walk: it returns true.
-/
import Derived.Test.YtaelfjphgdlbcaaSHd
import Derived.Test.YtaelfjphgdlbcaaSHg
namespace Go.Proofs.Ytaelfjphgdlbcaa
open Go.RowKit
set_option linter.unusedVariables false
set_option linter.unusedSimpArgs false
open WordM (L)
open VM
open CodM (St Pg hasS)
open SlM

set_option maxHeartbeats 8000000 in
set_option maxRecDepth 100000 in
theorem snu_law {v : Value} {P : Pg} (n th at1 : Int) (w : World) (hv : PgV w.heap.size w v P) :
    Calls Try.prog 4 #[v, .int .i64 n, .int .i64 th, .int .i64 at1] w fun e w' => e = .returned (.bool true) ∧ Below w.heap.size w w' := by
  obtain ⟨pi, pt, rfl, hm⟩ := hv
  have HHd := Lib.hid (fun W => shead_any W)
  have HM := Lib.hid (fun W (hW : Below w.heap.size w W) => show PgM W.heap.size W pi pt P from (hm.below hW).more hW.size)
  have HGP := Lib.hid (fun W (hW : Below w.heap.size w W) => sgreat_any W ⟨pi, pt, rfl, HM.out W hW⟩ (Nat.le_refl _))
  obtain ⟨⟨P0, d0, rfl, -⟩, ⟨P1, d1, rfl, l1, l2, l3⟩⟩ := hm
  unfold maxLen at l2
  have hB := below_al (Below.refl w.heap.size w) (.cells #[.slice P0 P.init.length d0, .slice P1 P.ths.length d1] 25)
  have HP := Lib.hid (PgBox.at (w := w) rfl (.slice P0 P.init.length d0) (.slice P1 P.ths.length d1) 25)
  obtain ⟨x0, x1⟩ := HP.out
  go_enter Try.func4, Try.ntmps4
  go_wp2_with fail
  refine (HHd.out _).mono ?_
  rintro e w1 ⟨rfl, hbb⟩
  replace hB := chain hB hbb
  replace HP := Lib.hid (HP.out.below hbb)
  clear x0 x1 hbb HHd
  obtain ⟨x0, x1⟩ := HP.out
  go_wp2_with fail
  refine (HGP.out _ hB).mono ?_
  rintro e w2 ⟨gb, rfl, hsx, hbb⟩
  replace hB := chain hB hbb
  replace HP := Lib.hid (HP.out.below hbb)
  clear x0 x1 hbb HGP
  obtain ⟨x0, x1⟩ := HP.out
  cases gb
  case true =>
    go_wp2
    go_ret
    exact ⟨rfl, hB⟩
  have HS := Lib.hid (hsx rfl)
  clear hsx
  have HL := Lib.hid (show P.ths.length ≤ 1000000 from by have := HS.out.s.ths; omega)
  have HLL := Lib.hid (show ∀ ss ∈ P.ths, ss.length ≤ 1000000 from fun ss hs => by have := HS.out.f ss hs; omega)
  have HOf := Lib.hid (fun (m : Int) W (hW : Below w.heap.size w W) => of_any (vi := .slice P0 P.init.length d0) m W ⟨_, _, _, rfl⟩ (HM.out W hW).2 (Nat.le_refl _) HL.out HLL.out)
  have HNu := Lib.hid (fun (a b : Int) W (hW : Below w.heap.size w W) => num_any (vi := .slice P0 P.init.length d0) a b W ⟨_, _, _, rfl⟩ (HM.out W hW).2 (Nat.le_refl _) HL.out HLL.out)
  have HMa := Lib.hid (fun W (hW : Below w.heap.size w W) => many_any (vi := .slice P0 P.init.length d0) W ⟨_, _, _, rfl⟩ (HM.out W hW).2 (Nat.le_refl _) HL.out HLL.out)
  have HMN := Lib.hid (numI_or P.ths th at1)
  go_wp2_with fail
  refine (HOf.out n _ hB).mono ?_
  rintro e w3 ⟨⟨rt, rk, ri⟩, rfl, hr, hbb⟩
  replace hB := chain hB hbb
  replace HP := Lib.hid (HP.out.below hbb)
  clear x0 x1 hbb
  obtain ⟨x0, x1⟩ := HP.out
  have HR := Lib.hid hr
  have HRI := Lib.hid (show ri = (decide (0 ≤ n) && decide (n < many anyS P.ths)) from hr.is)
  have HRN := Lib.hid (fun h => numI_of hr h)
  clear hr
  dsimp only at HRN ⊢
  by_cases hn0 : n < 0
  · have q1 : decide (0 ≤ n) = false := decide_eq_false (by omega)
    obtain rfl : ri = false := by rw [HRI.out, q1]; rfl
    clear HRI HRN HR
    go_wp2_with fail
    refine (HNu.out th at1 _ hB).mono ?_
    rintro e w9 ⟨rfl, hbb⟩
    replace hB := chain hB hbb
    replace HP := Lib.hid (HP.out.below hbb)
    clear x0 x1 hbb
    obtain ⟨x0, x1⟩ := HP.out
    rcases HMN.out with hk | hk
    · rw [hk]
      have HK := Lib.hid hk
      clear hk HMN
      go_wp2
      go_ret
      exact ⟨rfl, hB⟩
    · have HI := Lib.hid (numI_is (ths := P.ths) (t := th) (k := at1) (by omega)).1
      have HK := Lib.hid hk
      obtain ⟨K9, hK9⟩ : ∃ x, x = numI P.ths th at1 := ⟨_, rfl⟩
      rw [← hK9] at HI HK ⊢
      have q7 : decide (K9 < 0) = false := decide_eq_false (by have := HK.out; omega)
      clear hk hK9 HMN
      go_wp2_with fail
      refine (HOf.out K9 _ hB).mono ?_
      rintro e w10 ⟨r9, rfl, hr9, hbb⟩
      obtain rfl := IsOf.one hr9 HI.out
      clear hr9
      dsimp only
      replace hB := chain hB hbb
      replace HP := Lib.hid (HP.out.below hbb)
      clear x0 x1 hbb
      obtain ⟨x0, x1⟩ := HP.out
      go_wp2
      go_ret
      exact ⟨rfl, hB⟩
  have q1 : decide (0 ≤ n) = true := decide_eq_true (by omega)
  go_wp2_with fail
  refine (HMa.out _ hB).mono ?_
  rintro e w4 ⟨rfl, hbb⟩
  replace hB := chain hB hbb
  replace HP := Lib.hid (HP.out.below hbb)
  clear x0 x1 hbb
  obtain ⟨x0, x1⟩ := HP.out
  by_cases hnm : n < many anyS P.ths
  · have q2 : decide (n < many anyS P.ths) = true := decide_eq_true hnm
    obtain rfl : ri = true := by rw [HRI.out, q1, q2]; rfl
    have HE := Lib.hid (HRN.out rfl)
    clear HRI HRN HR HMa hn0 hnm
    generalize many anyS P.ths = MM at *
    go_wp2_with fail
    refine (HNu.out rt rk _ hB).mono ?_
    rintro e w5 ⟨rfl, hbb⟩
    rw [HE.out]
    replace hB := chain hB hbb
    replace HP := Lib.hid (HP.out.below hbb)
    clear x0 x1 hbb
    obtain ⟨x0, x1⟩ := HP.out
    clear HE
    go_wp2_with fail
    refine (HNu.out th at1 _ hB).mono ?_
    rintro e w9 ⟨rfl, hbb⟩
    replace hB := chain hB hbb
    replace HP := Lib.hid (HP.out.below hbb)
    clear x0 x1 hbb
    obtain ⟨x0, x1⟩ := HP.out
    rcases HMN.out with hk | hk
    · rw [hk]
      have HK := Lib.hid hk
      clear hk HMN
      go_wp2
      go_ret
      exact ⟨rfl, hB⟩
    · have HI := Lib.hid (numI_is (ths := P.ths) (t := th) (k := at1) (by omega)).1
      have HK := Lib.hid hk
      obtain ⟨K9, hK9⟩ : ∃ x, x = numI P.ths th at1 := ⟨_, rfl⟩
      rw [← hK9] at HI HK ⊢
      have q7 : decide (K9 < 0) = false := decide_eq_false (by have := HK.out; omega)
      clear hk hK9 HMN
      go_wp2_with fail
      refine (HOf.out K9 _ hB).mono ?_
      rintro e w10 ⟨r9, rfl, hr9, hbb⟩
      obtain rfl := IsOf.one hr9 HI.out
      clear hr9
      dsimp only
      replace hB := chain hB hbb
      replace HP := Lib.hid (HP.out.below hbb)
      clear x0 x1 hbb
      obtain ⟨x0, x1⟩ := HP.out
      go_wp2
      go_ret
      exact ⟨rfl, hB⟩
  · have q2 : decide (n < many anyS P.ths) = false := decide_eq_false hnm
    obtain rfl : ri = false := by rw [HRI.out, q1, q2]; rfl
    clear HRI HRN HR HMa hn0 hnm
    generalize many anyS P.ths = MM at *
    go_wp2_with fail
    refine (HNu.out th at1 _ hB).mono ?_
    rintro e w9 ⟨rfl, hbb⟩
    replace hB := chain hB hbb
    replace HP := Lib.hid (HP.out.below hbb)
    clear x0 x1 hbb
    obtain ⟨x0, x1⟩ := HP.out
    rcases HMN.out with hk | hk
    · rw [hk]
      have HK := Lib.hid hk
      clear hk HMN
      go_wp2
      go_ret
      exact ⟨rfl, hB⟩
    · have HI := Lib.hid (numI_is (ths := P.ths) (t := th) (k := at1) (by omega)).1
      have HK := Lib.hid hk
      obtain ⟨K9, hK9⟩ : ∃ x, x = numI P.ths th at1 := ⟨_, rfl⟩
      rw [← hK9] at HI HK ⊢
      have q7 : decide (K9 < 0) = false := decide_eq_false (by have := HK.out; omega)
      clear hk hK9 HMN
      go_wp2_with fail
      refine (HOf.out K9 _ hB).mono ?_
      rintro e w10 ⟨r9, rfl, hr9, hbb⟩
      obtain rfl := IsOf.one hr9 HI.out
      clear hr9
      dsimp only
      replace hB := chain hB hbb
      replace HP := Lib.hid (HP.out.below hbb)
      clear x0 x1 hbb
      obtain ⟨x0, x1⟩ := HP.out
      go_wp2
      go_ret
      exact ⟨rfl, hB⟩
end Go.Proofs.Ytaelfjphgdlbcaa
