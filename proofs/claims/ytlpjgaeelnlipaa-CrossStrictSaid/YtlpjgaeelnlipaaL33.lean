/-
  THE MATHEMATICS OF CrossStrict, CrossNone, CrossWithin.
  LAYER 14: the walk of CrossStrict.
-/
import Derived.Test.YtlpjgaeelnlipaaL31
import Derived.Test.YtlpjgaeelnlipaaCri
import Derived.Test.YtlpjgaeelnlipaaL29
import Derived.Deep.RegionHeld3
import Derived.Deep.DeepCutAuto
set_option linter.unusedVariables false
set_option linter.unusedSimpArgs false
namespace Go.Proofs.Ytlpjgaeelnlipaa
set_option linter.unusedVariables false
set_option linter.unusedSimpArgs false
open CodM (St Pg rightP)
open BfM (Wr plc)
open ScM
open SlM
open CrM

theorem wys_app (P : Pg) : ∀ (a b : List (Int × Bool)) (s s1 : Sta) (n : Nat), runS P true s a = (s1, n, true) → wysS P s (a ++ b) = wysS P s a ++ wysS P s1 b
  | [], b, s, s1, n, h => by
    have : s1 = s := (congrArg (·.1) h).symm
    subst this
    rfl
  | k :: a, b, s, s1, n, h => by
    cases e : rst P s k.1 k.2 true with
    | none => rw [runS_none e] at h; exact absurd (congrArg (·.2.2) h) (by simp)
    | some s' =>
      rw [runS_some e] at h
      rcases hq : runS P true s' a with ⟨q1, q2, q3⟩
      rw [hq] at h
      injection h with e1 e2
      injection e2 with e2 e3
      dsimp only at e1 e2 e3
      rw [List.cons_append]
      have hr := wys_app P a b s' s1 q2 (by rw [hq, e1, e3])
      rw [wysS, e, wysS, e]
      dsimp only
      rw [hr]
      rfl
/-- The weak run of a strict one crosses nothing. -/
theorem strict_wys {P : Pg} (hr : rightP P = true) : ∀ (l : List (Int × Bool)) {s : Sta} {w : List (Int × Bool)}, OkSt P s → nbuf s → strS P s l = some w → ∀ y ∈ wysS P s w, y.2.2 = false
  | [], s, w, ho, hn, h => by
    have : w = [] := (Option.some.inj h).symm
    subst this
    intro y hy
    cases hy
  | k :: l, s, w, ho, hn, h => by
    rw [strS] at h
    cases e : rst P s k.1 k.2 false with
    | none => rw [e] at h; cases h
    | some s' =>
      obtain ⟨hd, j, hj, h1, h2, h3, ha, rfl⟩ := rst_strict e
      rw [e, ha] at h
      dsimp only at h
      obtain ⟨t, d⟩ := k
      dsimp only at hd hj h
      subst hd hj
      cases e2 : strS P (stp P s j) l with
      | none => rw [e2] at h; cases h
      | some r =>
        rw [e2] at h
        have h := Option.some.inj h
        have h5 := strict_one hr ho hn h1 h2 h3
        have h6 := strict_wys hr l (rst_ok hr ho e) (nbuf_stp hn _) e2
        rw [← h, wys_app P _ _ _ _ _ h5]
        intro y hy
        rcases List.mem_append.1 hy with hy | hy
        · have hz : ∀ (q : List (Int × Bool)) (s2 : Sta), (∀ x ∈ q, x.2 = true) → ∀ y ∈ wysS P s2 q, y.2.2 = false := by
            intro q
            induction q with
            | nil => intro s2 _ y hy; cases hy
            | cons a q ih =>
              intro s2 hq y hy
              unfold wysS at hy
              cases e3 : rst P s2 a.1 a.2 true with
              | none => rw [e3] at hy; cases hy
              | some s3 =>
                rw [e3] at hy
                rcases List.mem_cons.1 hy with rfl | hy
                · have := hq a (List.mem_cons_self)
                  unfold wayS; rw [this]; rfl
                · exact ih s3 (fun x hx => hq x (List.mem_cons_of_mem _ hx)) y hy
          have hw : ∃ q, wkOf P.ths[j][s.ths[j].at'.toNat] ((j : Int), false) = ((j : Int), false) :: q ∧ ∀ x ∈ q, x.2 = true := by
            unfold wkOf
            split
            · exact ⟨_, rfl, fun x hx => by rw [List.mem_singleton.1 hx]⟩
            · exact ⟨[], rfl, fun x hx => by cases hx⟩
          obtain ⟨q, hq1, hq2⟩ := hw
          rw [hq1] at hy
          unfold wysS at hy
          cases e3 : rst P s (j : Int) false true with
          | none => rw [e3] at hy; cases hy
          | some s3 =>
            rw [e3] at hy
            rcases List.mem_cons.1 hy with rfl | hy
            · unfold wayS noBuf
              dsimp only
              rw [if_neg (by decide), Int.toNat_natCast, SlM.getD_at h1, hn _ (List.getElem_mem h1)]
              rfl
            · exact hz q s3 hq2 y hy
        · exact h6 y hy
theorem raOk_unc {E : List ((Int × Bool) × (Int × Bool))} {f : Int → Bool} (hE : ∀ y ∈ E, y.2.2 = false) (k : Nat) : raOk f E k = true := by
  unfold raOk
  split
  · rename_i y h; rw [hE y (List.mem_of_getElem? h)]; simp
  · rfl
theorem crF_unc {E : List ((Int × Bool) × (Int × Bool))} (hE : ∀ y ∈ E, y.2.2 = false) (x : Int) : crF E x = false := by
  unfold crF
  rw [List.any_eq_false]
  intro y hy
  rw [hE y hy]; simp
theorem ris_none {f : Int → Bool} (hf : ∀ x, f x = false) {ks : List Int} (h : RisF f ks) : ks = [] := by
  cases ks with
  | nil => rfl
  | cons a r => have := (h.2 a).1 (List.mem_cons_self); rw [hf] at this; cases this
end Go.Proofs.Ytlpjgaeelnlipaa
namespace Go.Proofs.Ytlpjgaeelnlipaa
open Go.RowKit
set_option linter.unusedVariables false
set_option linter.unusedSimpArgs false
open CodM (St Pg rightP)
open BfM (Wr plc)
open ScM
open SlM
open CrM

set_option maxHeartbeats 16000000 in
set_option maxRecDepth 100000 in
theorem crossstrict_any {B : Nat} {v vl : Value} {P : Pg} {l : List (Int × Bool)} {vg : Value} {g : List Int}  (w : World) (hv : PgZ B w v P) (hl : KiR B w vl l) (hg : Ints B w vg g) (hgz : NilZ vg) (hBB : B ≤ w.heap.size) :
    Calls Try.prog 4 #[v, vg, vl] w fun e w' => e = .returned (.bool true) ∧ Below w.heap.size w w' := by
  have HPZ := Lib.hid (fun W (hW : Below w.heap.size w W) => (show PgZ W.heap.size W v P from (hv.below (hW.mono hBB)).more (Nat.le_trans hBB hW.size)))
  have HKL := Lib.hid (fun W (hW : Below w.heap.size w W) => (show KiR W.heap.size W vl l from (hl.below (hW.mono hBB)).more (Nat.le_trans hBB hW.size)))
  have HKG := Lib.hid (fun W (hW : Below w.heap.size w W) => (show Ints W.heap.size W vg g from (hg.below (hW.mono hBB)).more (Nat.le_trans hBB hW.size)))
  obtain ⟨pi, pt, rfl, hpm, -⟩ := hv
  obtain ⟨⟨P0, d0, rfl, -⟩, ⟨P1, d1, rfl, l1, l2, l3⟩⟩ := hpm
  obtain ⟨Al, cl, rfl, q1, q2, q0, q3⟩ := hl
  unfold maxLen at l2 q2
  obtain ⟨Ag, cg, rfl, g1, g2, g3⟩ := hg
  unfold maxLen at g2
  have HL3 := Lib.hid l3
  clear l3 q3 q0
  obtain ⟨W2, hW2⟩ : ∃ W, W = w.alloc (.cells #[.slice P0 P.init.length d0, .slice P1 P.ths.length d1] 25) := ⟨_, rfl⟩
  obtain ⟨gp, hgp⟩ : ∃ g, g = w.heap.size := ⟨_, rfl⟩
  have HX := Lib.hid (show BoxC W2 gp 25 #[.slice P0 P.init.length d0, .slice P1 P.ths.length d1] from by rw [hW2, hgp]; exact BoxC.new w _ _)
  have HB := Lib.hid (show Below w.heap.size w W2 from by rw [hW2]; exact below_al (Below.refl _ _) _)
  go_enter Try.func4, Try.ntmps4
  go_upto_region 1 with fail
  rw [← hW2]
  (try rw [← hgp])
  clear hW2 hgp
  go_wp2_with fail
  refine (head14_any _).mono ?_
  rintro e V1 ⟨rfl, hb⟩
  have HST := Lib.hid hb
  clear hb
  replace HX := Lib.hid (HX.out.below HST.out HX.out.lt)
  replace HB := Lib.hid (chain HB.out HST.out)
  have x0 := HX.out.cell 0 _ rfl
  have x1 := HX.out.cell 1 _ rfl
  go_wp2_with fail
  refine (great14_any _ (HPZ.out _ HB.out).v (HKL.out _ HB.out) (HKG.out _ HB.out) (Nat.le_refl _)).mono ?_
  rintro e V2 ⟨gb, rfl, hg, hb⟩
  replace HST := Lib.hid hb
  clear hb x0 x1
  replace HX := Lib.hid (HX.out.below HST.out HX.out.lt)
  replace HB := Lib.hid (chain HB.out HST.out)
  cases gb
  case true =>
    go_wp2
    go_ret
    exact ⟨rfl, HB.out⟩
  have HSC := Lib.hid (hg rfl).1
  have HRP := Lib.hid (hg rfl).1.r
  have HLE := Lib.hid (hg rfl).2.1
  have HGE := Lib.hid (hg rfl).2.2
  have HN5 := Lib.hid (show l.length ≤ 50000 from Nat.le_trans (hg rfl).2.1 (by decide))
  clear hg
  have x0 := HX.out.cell 0 _ rfl
  have x1 := HX.out.cell 1 _ rfl
  go_wp2_with fail
  refine (rstrict13_any _ (HPZ.out _ HB.out) (HKL.out _ HB.out) (Nat.le_refl _) HRP.out HN5.out).mono ?_
  rintro e V4 ⟨A4, n4, c4, rfl, hn, hrow, hb⟩
  have HN4 := Lib.hid hn
  have HW4 := Lib.hid (own_base hrow (Nat.zero_le _))
  replace HST := Lib.hid hb
  clear hn hrow hb x0 x1
  replace HX := Lib.hid (HX.out.below HST.out HX.out.lt)
  replace HB := Lib.hid (chain HB.out HST.out)
  have HSR := Lib.hid (strict_run HRP.out l (beg_ok P) (nbuf_beg P))
  obtain ⟨a4, ha4⟩ : ∃ a, a = (runS P false (beg P) l).2.2 := ⟨_, rfl⟩
  rw [← ha4]
  rw [← ha4] at HSR
  clear ha4
  cases a4
  case false =>
    go_wp2
    go_ret
    exact ⟨rfl, HB.out⟩
  have HSW := Lib.hid (show (runS P true (beg P) (strL P l)).2.2 = true ∧ (strL P l).length ≤ 2 * l.length ∧ ∀ y ∈ wysS P (beg P) (strL P l), y.2.2 = false from by
    rcases HSR.out with ⟨h, _⟩ | ⟨_, w', h1, h2, h3, h4⟩
    · exact absurd h (by simp)
    · have : strL P l = w' := by unfold strL; rw [h1]; rfl
      rw [this]
      exact ⟨by rw [h2], h4, strict_wys HRP.out l (beg_ok P) (nbuf_beg P) h1⟩)
  have HN6 := Lib.hid (show (strL P l).length ≤ 50000 from by have h1 := HSW.out.2.1; have h2 := HLE.out; omega)
  have HKW := Lib.hid (fun W (h : W.ownsRow 0 52 2 (.slice A4 n4 c4) n4 ((strL P l).flatMap kiC)) => show KiR W.heap.size W (.slice A4 n4 c4) (strL P l) from Rw.own (by rw [← HN4.out]; exact h) (Nat.le_refl _))
  have x0 := HX.out.cell 0 _ rfl
  have x1 := HX.out.cell 1 _ rfl
  go_wp2_with fail
  refine (crcross_any _ (HPZ.out _ HB.out) (HKW.out _ HW4.out) (Nat.le_refl _) HRP.out HN6.out).mono ?_
  rintro e V6 ⟨A6, n6, c6, ks, rfl, hks, ho, -, hb⟩
  rw [HSW.out.1, if_pos rfl] at hks
  have hk2 := ris_none (crF_unc HSW.out.2.2) hks
  subst hk2
  obtain ⟨Ae, ce, hAe⟩ := own_slice ho
  injection hAe with e1 e2 e3
  subst e1 e2 e3
  rw [HSW.out.1]
  replace HST := Lib.hid hb
  clear hks ho hb x0 x1
  replace HX := Lib.hid (HX.out.below HST.out HX.out.lt)
  replace HW4 := Lib.hid (own_below HW4.out HST.out)
  replace HB := Lib.hid (chain HB.out HST.out)
  have x0 := HX.out.cell 0 _ rfl
  have x1 := HX.out.cell 1 _ rfl
  go_wp2_with fail
  refine (crraise_any _ (HPZ.out _ HB.out) (HKG.out _ HB.out) (HKW.out _ HW4.out) (Nat.le_refl _) HRP.out HN6.out (by have := HGE.out; omega)).mono ?_
  rintro e V8 ⟨A8, c8, r8, b8, rfl, hbi, -, -, -, hb⟩
  have hbt : b8 = true := hbi.2 ⟨HSW.out.1, fun k _ => raOk_unc HSW.out.2.2 k⟩
  subst hbt
  replace HST := Lib.hid hb
  clear hbi hb x0 x1
  replace HX := Lib.hid (HX.out.below HST.out HX.out.lt)
  replace HW4 := Lib.hid (own_below HW4.out HST.out)
  replace HB := Lib.hid (chain HB.out HST.out)
  go_wp2
  go_ret
  exact ⟨rfl, HB.out⟩
end Go.Proofs.Ytlpjgaeelnlipaa
