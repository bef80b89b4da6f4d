/-
  SlotsNone, as a walk: it returns true.
-/
import Derived.Test.YtaelfjphgdlbcaaSHd
import Derived.Test.YtaelfjphgdlbcaaSlQ
import Derived.Deep.RegionHeld3
import Derived.Deep.DeepCutAuto
import Derived.Maps.AppendAt
namespace Go.Proofs.Ytaelfjphgdlbcaa
open Go.RowKit
set_option linter.unusedVariables false
set_option linter.unusedSimpArgs false
open WordM (L)
open VM
open CodM (St Pg hasS)
open SlM

set_option maxHeartbeats 8000000 in
set_option maxRecDepth 100000 in
theorem sno_law {v vg : Value} {P : Pg} {g : List Int} (w : World) (hv : PgV w.heap.size w v P) (hg : Ints w.heap.size w vg g) :
    Calls Try.prog 9 #[v, vg] w fun e w' => e = .returned (.bool true) ∧ Below w.heap.size w w' := by
  obtain ⟨pi, pt, rfl, hm⟩ := hv
  have HHd := Lib.hid (fun W => shead_any W)
  have HM := Lib.hid (fun W (hW : Below w.heap.size w W) => show PgM W.heap.size W pi pt P from (hm.below hW).more hW.size)
  have HG := Lib.hid (fun W (hW : Below w.heap.size w W) => show Ints W.heap.size W vg g from (hg.below hW).more hW.size)
  obtain ⟨AG, cg, rfl, hg1, hg2, hg3⟩ := hg
  unfold maxLen at hg2
  have HGP := Lib.hid (fun W (hW : Below w.heap.size w W) => sgreat_any W ⟨pi, pt, rfl, HM.out W hW⟩ (Nat.le_refl _))
  obtain ⟨⟨P0, d0, rfl, -⟩, ⟨P1, d1, rfl, l1, l2, l3⟩⟩ := hm
  unfold maxLen at l2
  have hB := below_al (Below.refl w.heap.size w) (.cells #[.slice P0 P.init.length d0, .slice P1 P.ths.length d1] 25)
  have HP := Lib.hid (PgBox.at (w := w) rfl (.slice P0 P.init.length d0) (.slice P1 P.ths.length d1) 25)
  obtain ⟨x0, x1⟩ := HP.out
  go_enter Try.func9, Try.ntmps9
  go_wp2_with fail
  refine (HHd.out _).mono ?_
  rintro e w1 ⟨rfl, hbb⟩
  replace hB := chain hB hbb
  replace HP := Lib.hid (HP.out.below hbb)
  clear x0 x1 hbb HHd
  obtain ⟨x0, x1⟩ := HP.out
  go_wp2_with fail
  refine (HGP.out _ hB).mono ?_
  rintro e w2 ⟨gb, rfl, hsx, hbb⟩
  replace hB := chain hB hbb
  replace HP := Lib.hid (HP.out.below hbb)
  clear x0 x1 hbb HGP
  obtain ⟨x0, x1⟩ := HP.out
  cases gb
  case true =>
    go_wp2
    go_ret
    exact ⟨rfl, hB⟩
  have HS := Lib.hid (hsx rfl)
  clear hsx
  have HL := Lib.hid (show P.ths.length ≤ 1000000 from by have := HS.out.s.ths; omega)
  have HLL := Lib.hid (show ∀ ss ∈ P.ths, ss.length ≤ 1000000 from fun ss hs => by have := HS.out.f ss hs; omega)
  by_cases hgl : 100 < g.length
  · have q : decide (100 < g.length) = true := decide_eq_true hgl
    go_wp2
    go_ret
    exact ⟨rfl, hB⟩
  have q : decide (100 < g.length) = false := decide_eq_false hgl
  have HIn := Lib.hid (fun W (hW : Below w.heap.size w W) (vg : Value) (g' : List Int) (h' : Ints W.heap.size W vg g') (hl' : g'.length ≤ 1000000) => insert_any (P := P) W ⟨_, _, rfl, HM.out W hW⟩ h' (Nat.le_refl _) (by have := HS.out.s.init; omega) HL.out HLL.out hl' HS.out.jmp)
  have HMa := Lib.hid (fun W (hW : Below w.heap.size w W) => many_any (vi := .slice P0 P.init.length d0) W ⟨_, _, _, rfl⟩ (HM.out W hW).2 (Nat.le_refl _) HL.out HLL.out)
  have HMM := Lib.hid (show many anyS P.ths ≤ 1000000 from by have := many_le anyS P.ths HS.out.s.ths HS.out.f; omega)
  go_wp2_with fail
  refine (HMa.out _ hB).mono ?_
  rintro e w4 ⟨rfl, hbb⟩
  replace hB := chain hB hbb
  replace HP := Lib.hid (HP.out.below hbb)
  clear x0 x1 hbb HMa
  have HNs := Lib.hid (NoR.start g (many anyS P.ths))
  have HFI := Lib.hid (fun (os bs : List Int) (h : NoR g (many anyS P.ths) 0 os bs) => And.intro h.insO h.insB)
  generalize many anyS P.ths = MM at *
  have hMM : MM ≤ 1000000 := HMM.out
  obtain ⟨i2, hi2, hx1, hx2, hx3⟩ := info_parts info_int
  have hszw : w.heap.size + 1 ≤ w4.heap.size := by have := lt_of_cell HP.out.1; omega
  have HB4 := Lib.hid hB
  have HPX := Lib.hid (fun W (hW : Below w4.heap.size w4 W) => HP.out.below hW)
  clear hB HP
  go_wp2
  go_loopw [7, 8, 9] (fun vo vb i wr => (∃ (k no nb : Nat) (os bs : List Int), i = .int .i64 ((k : Int) - 1) ∧ no = os.length ∧ nb = bs.length ∧ NoR g MM k os bs ∧ wr.ownsRow w4.heap.size 3 1 vo no (intCs os) ∧ wr.ownsRow w4.heap.size 3 1 vb nb (intCs bs) ∧ (vo.ownBlock = none ∨ vo.ownBlock ≠ vb.ownBlock) ∧ Below w4.heap.size w4 wr)) (fun _ _ i _ => (intOf i + 1).toNat)
  case atStart => exact ⟨g.length, 0, 0, [], [], rfl, rfl, rfl, HNs.out, World.ownsRow_nil _ _ _ _, World.ownsRow_nil _ _ _ _, .inl rfl, Below.refl _ _⟩
  case round =>
    obtain ⟨k, no, nb, os, bs, hi, hno, hnb, hnr, hvo, hvb, hap, hB⟩ := hrel
    obtain ⟨Ao, co, rfl⟩ := own_slice hvo
    obtain ⟨Ab, cb, rfl⟩ := own_slice hvb
    have HNO := Lib.hid hno
    have HNB := Lib.hid hnb
    have HNR := Lib.hid hnr
    have hk1 := hnr.kl
    have hlo : no ≤ 100 := by have := hnr.lo; omega
    have hlb : nb ≤ 200 := by have := hnr.lb; omega
    clear hno hnb hnr
    rcases k with _ | k
    · rw [show (((0 : Nat) : Int) - 1) = -1 from rfl] at hi
      subst hi
      have hIO := ints_of_own (by rw [← HNO.out]; exact hvo) (Nat.le_refl _)
      have hIB := ints_of_own (by rw [← HNB.out]; exact hvb) (Nat.le_refl _)
      have HIO := Lib.hid hIO
      have HIB := Lib.hid hIB
      have HEO := Lib.hid (HFI.out os bs HNR.out)
      have HBW := Lib.hid hB
      obtain ⟨x0, x1⟩ := HPX.out _ hB
      clear hvo hvb hap hB hIO hIB HFI hk1
      go_upto_region 13 with fail
      refine wp_region_held_drew (S := (fun w' => (w'.cell? ⟨w.heap.size, 0, none⟩ = some (.slice P0 P.init.length d0) ∧ w'.cell? ⟨w.heap.size, 1, none⟩ = some (.slice P1 P.ths.length d1)) ∧ Below wr.heap.size wr w')) (by kernel_rfl) ⟨⟨x0, x1⟩, below_drewN (Below.refl _ _) 1⟩ (fun hHeld => ?_)
      refine wpAnyH_take (i := 0) (v := ?_) rfl (by kernel_rfl) (by kernel_rfl) (by kernel_rfl) (fun _ _ _ h => h) (Or.inl ⟨by rfl, ?_⟩) (by assumption) ?_
      rotate_left
      · intro w hSw; (try dsimp only at hSw); go_simp; (try with_reducible rfl)
      (try simp only [Act.put, List.getElem_toArray, List.getElem_cons_zero, List.getElem_cons_succ, Array.getInternal_eq_getElem, List.setIfInBounds_toArray, List.set_cons_zero, List.set_cons_succ])
      refine wpAnyH_take (i := 1) (v := ?_) rfl (by kernel_rfl) (by kernel_rfl) (by kernel_rfl) (fun _ _ _ h => h) (Or.inl ⟨by rfl, ?_⟩) (by assumption) ?_
      rotate_left
      · intro w hSw; (try dsimp only at hSw); go_simp; (try with_reducible rfl)
      (try simp only [Act.put, List.getElem_toArray, List.getElem_cons_zero, List.getElem_cons_succ, Array.getInternal_eq_getElem, List.setIfInBounds_toArray, List.set_cons_zero, List.set_cons_succ])
      refine wpAnyH_take (i := 2) (v := ?_) rfl (by kernel_rfl) (by kernel_rfl) (by kernel_rfl) (fun _ _ _ h => h) (Or.inl ⟨by rfl, ?_⟩) (by assumption) ?_
      rotate_left
      · intro w hSw; (try dsimp only at hSw); go_simp; (try with_reducible rfl)
      (try simp only [Act.put, List.getElem_toArray, List.getElem_cons_zero, List.getElem_cons_succ, Array.getInternal_eq_getElem, List.setIfInBounds_toArray, List.set_cons_zero, List.set_cons_succ])
      refine wpAnyH_take (i := 3) (v := ?_) rfl (by kernel_rfl) (by kernel_rfl) (by kernel_rfl) (fun _ _ _ h => h) (Or.inl ⟨by rfl, ?_⟩) (by assumption) ?_
      rotate_left
      · intro w hSw; (try dsimp only at hSw); go_simp; (try with_reducible rfl)
      (try simp only [Act.put, List.getElem_toArray, List.getElem_cons_zero, List.getElem_cons_succ, Array.getInternal_eq_getElem, List.setIfInBounds_toArray, List.set_cons_zero, List.set_cons_succ])
      refine wpAnyH_take (i := 5) (v := ?_) rfl (by kernel_rfl) (by kernel_rfl) (by kernel_rfl) (fun _ _ _ h => h) (Or.inl ⟨by rfl, ?_⟩) (by assumption) ?_
      rotate_left
      · intro w hSw; (try dsimp only at hSw); go_simp; (try with_reducible rfl)
      (try simp only [Act.put, List.getElem_toArray, List.getElem_cons_zero, List.getElem_cons_succ, Array.getInternal_eq_getElem, List.setIfInBounds_toArray, List.set_cons_zero, List.set_cons_succ])
      refine wpAnyH_ready (rs := [4]) (by kernel_rfl) (by simp) ?_
      refine AllReadyH.cons rfl (fun K hK => ?_) AllReadyH.nil
      go_simp
      refine (HIn.out _ (chain HB4.out (chain HBW.out hHeld.2)) _ _ ((HIO.out.below hHeld.2).more hHeld.2.size) (by rw [← HNO.out]; omega)).mono ?_
      rintro e wa ⟨ua, rfl, hpa, hba⟩
      rw [HEO.out.1] at hpa
      have HPa := Lib.hid hpa
      clear hpa
      obtain ⟨q0, q1⟩ := hHeld.1
      refine hK.out _ _ ⟨⟨kc hba q0, kc hba q1⟩, chain hHeld.2 hba⟩ (fun hHeld => ?_)
      clear hba q0 q1
      clear hK K
      (try simp only [Act.put, List.getElem_toArray, List.getElem_cons_zero, List.getElem_cons_succ, Array.getInternal_eq_getElem, List.setIfInBounds_toArray, List.set_cons_zero, List.set_cons_succ])
      refine wpAnyH_ready (rs := [6]) (by kernel_rfl) (by simp) ?_
      refine AllReadyH.cons rfl (fun K hK => ?_) AllReadyH.nil
      go_simp
      refine (rsame_any _ HPa.out ⟨_, _, rfl, HM.out _ (chain HB4.out (chain HBW.out hHeld.2))⟩ (Nat.le_refl _)).mono ?_
      rintro e ws1 ⟨rfl, hba⟩
      obtain ⟨q0, q1⟩ := hHeld.1
      refine hK.out _ _ ⟨⟨kc hba q0, kc hba q1⟩, chain hHeld.2 hba⟩ (fun hHeld => ?_)
      clear hba q0 q1
      clear hK K
      (try simp only [Act.put, List.getElem_toArray, List.getElem_cons_zero, List.getElem_cons_succ, Array.getInternal_eq_getElem, List.setIfInBounds_toArray, List.set_cons_zero, List.set_cons_succ])
      refine wpAnyH_take (i := 7) (v := ?_) rfl (by kernel_rfl) (by kernel_rfl) (by kernel_rfl) (fun _ _ _ h => h) (Or.inl ⟨by rfl, ?_⟩) (by assumption) ?_
      rotate_left
      · intro w hSw; (try dsimp only at hSw); go_simp; (try with_reducible rfl)
      (try simp only [Act.put, List.getElem_toArray, List.getElem_cons_zero, List.getElem_cons_succ, Array.getInternal_eq_getElem, List.setIfInBounds_toArray, List.set_cons_zero, List.set_cons_succ])
      refine wpAnyH_take (i := 8) (v := ?_) rfl (by kernel_rfl) (by kernel_rfl) (by kernel_rfl) (fun _ _ _ h => h) (Or.inl ⟨by rfl, ?_⟩) (by assumption) ?_
      rotate_left
      · intro w hSw; (try dsimp only at hSw); go_simp; (try with_reducible rfl)
      (try simp only [Act.put, List.getElem_toArray, List.getElem_cons_zero, List.getElem_cons_succ, Array.getInternal_eq_getElem, List.setIfInBounds_toArray, List.set_cons_zero, List.set_cons_succ])
      refine wpAnyH_take (i := 9) (v := ?_) rfl (by kernel_rfl) (by kernel_rfl) (by kernel_rfl) (fun _ _ _ h => h) (Or.inl ⟨by rfl, ?_⟩) (by assumption) ?_
      rotate_left
      · intro w hSw; (try dsimp only at hSw); go_simp; (try with_reducible rfl)
      (try simp only [Act.put, List.getElem_toArray, List.getElem_cons_zero, List.getElem_cons_succ, Array.getInternal_eq_getElem, List.setIfInBounds_toArray, List.set_cons_zero, List.set_cons_succ])
      refine wpAnyH_take (i := 11) (v := ?_) rfl (by kernel_rfl) (by kernel_rfl) (by kernel_rfl) (fun _ _ _ h => h) (Or.inl ⟨by rfl, ?_⟩) (by assumption) ?_
      rotate_left
      · intro w hSw; (try dsimp only at hSw); go_simp; (try with_reducible rfl)
      (try simp only [Act.put, List.getElem_toArray, List.getElem_cons_zero, List.getElem_cons_succ, Array.getInternal_eq_getElem, List.setIfInBounds_toArray, List.set_cons_zero, List.set_cons_succ])
      refine wpAnyH_ready (rs := [10]) (by kernel_rfl) (by simp) ?_
      refine AllReadyH.cons rfl (fun K hK => ?_) AllReadyH.nil
      go_simp
      refine (HIn.out _ (chain HB4.out (chain HBW.out hHeld.2)) (.slice none 0 0) [] (ints_none _ _) (by decide)).mono ?_
      rintro e wb ⟨ub, rfl, hpb, hba⟩
      rw [insP_nil] at hpb
      have HPb := Lib.hid hpb
      clear hpb
      obtain ⟨q0, q1⟩ := hHeld.1
      refine hK.out _ _ ⟨⟨kc hba q0, kc hba q1⟩, chain hHeld.2 hba⟩ (fun hHeld => ?_)
      clear hba q0 q1
      clear hK K
      (try simp only [Act.put, List.getElem_toArray, List.getElem_cons_zero, List.getElem_cons_succ, Array.getInternal_eq_getElem, List.setIfInBounds_toArray, List.set_cons_zero, List.set_cons_succ])
      refine wpAnyH_ready (rs := [12]) (by kernel_rfl) (by simp) ?_
      refine AllReadyH.cons rfl (fun K hK => ?_) AllReadyH.nil
      go_simp
      refine (rsame_any _ HPb.out ⟨_, _, rfl, HM.out _ (chain HB4.out (chain HBW.out hHeld.2))⟩ (Nat.le_refl _)).mono ?_
      rintro e ws3 ⟨rfl, hba⟩
      obtain ⟨q0, q1⟩ := hHeld.1
      refine hK.out _ _ ⟨⟨kc hba q0, kc hba q1⟩, chain hHeld.2 hba⟩ (fun hHeld => ?_)
      clear hba q0 q1
      clear hK K
      (try simp only [Act.put, List.getElem_toArray, List.getElem_cons_zero, List.getElem_cons_succ, Array.getInternal_eq_getElem, List.setIfInBounds_toArray, List.set_cons_zero, List.set_cons_succ])
      refine wpAnyH_take (i := 13) (v := ?_) rfl (by kernel_rfl) (by kernel_rfl) (by kernel_rfl) (fun _ _ _ h => h) (Or.inl ⟨by rfl, ?_⟩) (by assumption) ?_
      rotate_left
      · intro w hSw; (try dsimp only at hSw); go_simp; (try with_reducible rfl)
      (try simp only [Act.put, List.getElem_toArray, List.getElem_cons_zero, List.getElem_cons_succ, Array.getInternal_eq_getElem, List.setIfInBounds_toArray, List.set_cons_zero, List.set_cons_succ])
      refine wpAnyH_take (i := 14) (v := ?_) rfl (by kernel_rfl) (by kernel_rfl) (by kernel_rfl) (fun _ _ _ h => h) (Or.inl ⟨by rfl, ?_⟩) (by assumption) ?_
      rotate_left
      · intro w hSw; (try dsimp only at hSw); go_simp; (try with_reducible rfl)
      (try simp only [Act.put, List.getElem_toArray, List.getElem_cons_zero, List.getElem_cons_succ, Array.getInternal_eq_getElem, List.setIfInBounds_toArray, List.set_cons_zero, List.set_cons_succ])
      refine wpAnyH_take (i := 15) (v := ?_) rfl (by kernel_rfl) (by kernel_rfl) (by kernel_rfl) (fun _ _ _ h => h) (Or.inl ⟨by rfl, ?_⟩) (by assumption) ?_
      rotate_left
      · intro w hSw; (try dsimp only at hSw); go_simp; (try with_reducible rfl)
      (try simp only [Act.put, List.getElem_toArray, List.getElem_cons_zero, List.getElem_cons_succ, Array.getInternal_eq_getElem, List.setIfInBounds_toArray, List.set_cons_zero, List.set_cons_succ])
      refine wpAnyH_take (i := 16) (v := ?_) rfl (by kernel_rfl) (by kernel_rfl) (by kernel_rfl) (fun _ _ _ h => h) (Or.inl ⟨by rfl, ?_⟩) (by assumption) ?_
      rotate_left
      · intro w hSw; (try dsimp only at hSw); go_simp; (try with_reducible rfl)
      (try simp only [Act.put, List.getElem_toArray, List.getElem_cons_zero, List.getElem_cons_succ, Array.getInternal_eq_getElem, List.setIfInBounds_toArray, List.set_cons_zero, List.set_cons_succ])
      refine wpAnyH_take (i := 18) (v := ?_) rfl (by kernel_rfl) (by kernel_rfl) (by kernel_rfl) (fun _ _ _ h => h) (Or.inl ⟨by rfl, ?_⟩) (by assumption) ?_
      rotate_left
      · intro w hSw; (try dsimp only at hSw); go_simp; (try with_reducible rfl)
      (try simp only [Act.put, List.getElem_toArray, List.getElem_cons_zero, List.getElem_cons_succ, Array.getInternal_eq_getElem, List.setIfInBounds_toArray, List.set_cons_zero, List.set_cons_succ])
      refine wpAnyH_take (i := 19) (v := ?_) rfl (by kernel_rfl) (by kernel_rfl) (by kernel_rfl) (fun _ _ _ h => h) (Or.inl ⟨by rfl, ?_⟩) (by assumption) ?_
      rotate_left
      · intro w hSw; (try dsimp only at hSw); go_simp; (try with_reducible rfl)
      (try simp only [Act.put, List.getElem_toArray, List.getElem_cons_zero, List.getElem_cons_succ, Array.getInternal_eq_getElem, List.setIfInBounds_toArray, List.set_cons_zero, List.set_cons_succ])
      refine wpAnyH_ready (rs := [17]) (by kernel_rfl) (by simp) ?_
      refine AllReadyH.cons rfl (fun K hK => ?_) AllReadyH.nil
      go_simp
      refine (HIn.out _ (chain HB4.out (chain HBW.out hHeld.2)) _ _ ((HIB.out.below hHeld.2).more hHeld.2.size) (by rw [← HNB.out]; omega)).mono ?_
      rintro e wc ⟨uc, rfl, hpc, hba⟩
      rw [HEO.out.2] at hpc
      have HPc := Lib.hid hpc
      clear hpc
      obtain ⟨q0, q1⟩ := hHeld.1
      refine hK.out _ _ ⟨⟨kc hba q0, kc hba q1⟩, chain hHeld.2 hba⟩ (fun hHeld => ?_)
      clear hba q0 q1
      clear hK K
      (try simp only [Act.put, List.getElem_toArray, List.getElem_cons_zero, List.getElem_cons_succ, Array.getInternal_eq_getElem, List.setIfInBounds_toArray, List.set_cons_zero, List.set_cons_succ])
      refine wpAnyH_ready (rs := [20]) (by kernel_rfl) (by simp) ?_
      refine AllReadyH.cons rfl (fun K hK => ?_) AllReadyH.nil
      go_simp
      refine (HIn.out _ (chain HB4.out (chain HBW.out hHeld.2)) _ g (HG.out _ (chain HB4.out (chain HBW.out hHeld.2))) (by omega)).mono ?_
      rintro e wd ⟨ud, rfl, hpd, hba⟩
      have HPd := Lib.hid hpd
      clear hpd
      replace HPc := Lib.hid ((HPc.out.below hba).more hba.size)
      obtain ⟨q0, q1⟩ := hHeld.1
      refine hK.out _ _ ⟨⟨kc hba q0, kc hba q1⟩, chain hHeld.2 hba⟩ (fun hHeld => ?_)
      clear hba q0 q1
      clear hK K
      (try simp only [Act.put, List.getElem_toArray, List.getElem_cons_zero, List.getElem_cons_succ, Array.getInternal_eq_getElem, List.setIfInBounds_toArray, List.set_cons_zero, List.set_cons_succ])
      refine wpAnyH_ready (rs := [21]) (by kernel_rfl) (by simp) ?_
      refine AllReadyH.cons rfl (fun K hK => ?_) AllReadyH.nil
      go_simp
      refine (rsame_any _ HPc.out HPd.out (Nat.le_refl _)).mono ?_
      rintro e ws6 ⟨rfl, hba⟩
      obtain ⟨q0, q1⟩ := hHeld.1
      refine hK.out _ _ ⟨⟨kc hba q0, kc hba q1⟩, chain hHeld.2 hba⟩ (fun hHeld => ?_)
      clear hba q0 q1
      clear hK K
      (try simp only [Act.put, List.getElem_toArray, List.getElem_cons_zero, List.getElem_cons_succ, Array.getInternal_eq_getElem, List.setIfInBounds_toArray, List.set_cons_zero, List.set_cons_succ])
      refine wpAnyH_take (i := 22) (v := ?_) rfl (by kernel_rfl) (by kernel_rfl) (by kernel_rfl) (fun _ _ _ h => h) (Or.inl ⟨by rfl, ?_⟩) (by assumption) ?_
      rotate_left
      · intro w hSw; (try dsimp only at hSw); go_simp; (try with_reducible rfl)
      (try simp only [Act.put, List.getElem_toArray, List.getElem_cons_zero, List.getElem_cons_succ, Array.getInternal_eq_getElem, List.setIfInBounds_toArray, List.set_cons_zero, List.set_cons_succ])
      refine wpAnyH_ready (rs := [23]) (by kernel_rfl) (by simp) ?_
      refine AllReadyH.cons rfl (fun K hK => ?_) AllReadyH.nil
      go_simp
      refine hK.out _ _ hHeld (fun hHeld => ?_)
      clear hK K
      (try simp only [Act.put, List.getElem_toArray, List.getElem_cons_zero, List.getElem_cons_succ, Array.getInternal_eq_getElem, List.setIfInBounds_toArray, List.set_cons_zero, List.set_cons_succ])
      refine wpAnyH_done (by kernel_rfl) ?_ _
      have HBF := Lib.hid (chain HB4.out (chain HBW.out hHeld.2))
      clear hHeld
      go_wp2
      go_ret
      exact ⟨rfl, HBF.out⟩
    · rw [show (((k + 1 : Nat) : Int) - 1) = (k : Int) by omega] at hi
      subst hi
      have hkl : k < g.length := by omega
      obtain ⟨bG, fG, rfl, hbG, hcG⟩ := hg3 (by omega)
      obtain ⟨x, hx⟩ : ∃ x, x = g[k] := ⟨_, rfl⟩
      have HGC := Lib.hid (fun W (hW : Below w4.heap.size w4 W) => show W.cell? ⟨bG, fG + k, none⟩ = some (.int .i64 x) from ((chain HB4.out hW).cell (p := ⟨bG, fG + k, none⟩) hbG).trans (by rw [hx]; exact hcG k hkl))
      have HNO1 := Lib.hid (fun (h : g[k] < 0 ∨ (MM : Int) ≤ g[k]) => HNR.out.out hkl h)
      have HNI1 := Lib.hid (HNR.out.inn hkl)
      rw [← hx] at HNO1 HNI1
      have c0 := HGC.out _ hB
      have HVO := Lib.hid hvo
      have HVB := Lib.hid hvb
      have HAP0 := Lib.hid hap
      have HB0 := Lib.hid hB
      have hsz0 := hB.size
      clear hvo hvb hap hB hcG hg3 hx
      by_cases hx0 : x < 0
      · have q1 : decide (x < 0) = true := decide_eq_true hx0
        have HN := Lib.hid (HNO1.out (.inl hx0))
        clear HNO1 HNI1
        have HOa := Lib.hid (HVO.out.alloc (.cells #[.int .i64 x] 3))
        have HVa := Lib.hid (HVB.out.alloc (.cells #[.int .i64 x] 3))
        have HBa := Lib.hid (below_al HB0.out (.cells #[.int .i64 x] 3))
        have hsza := HBa.out.size
        go_upto_if 40 with fail
        go_wp2_with (at_builtin; refine wpList_append_own_at _ rfl _ _ 22 rfl w4.heap.size 3 i2 (.int .i64 0) 1 8 Try.underlying22 hi2 hx1 hx2 hx3 rfl (by decide) (.slice Ao no co) no (intCs os) rfl HOa.out ⟨wr.heap.size, 0, none⟩ 1 1 [.int .i64 x] rfl rfl (cell_one_new _ _ _) (by simp [Value.oneCell']) (by unfold maxLen; omega) (by omega) hsza ?_; intro v1 wz hown1 hg1 _ hat1)
        obtain ⟨A1, c1, rfl⟩ := own_slice hown1
        have HBW := Lib.hid (below_append HBa.out HOa.out (Nat.le_refl _) hsza hg1)
        have HVb := Lib.hid (HVa.out.kept hg1 (apart_symm HAP0.out))
        have HO1 := Lib.hid (show wz.ownsRow w4.heap.size 3 1 (.slice A1 (no + 1) c1) (no + 1) (intCs (os ++ [x])) from by rw [intCs_app]; exact hown1)
        have HAP1 := Lib.hid (apart_new HAP0.out hat1 (fun g e => (HVa.out.lt g e).2))
        clear hown1 hg1 hat1 HOa HVa HBa HVO HVB HAP0 HB0
        refine wp_region_held_drew (S := (fun w' => w'.cell? ⟨bG, fG + k, none⟩ = some (.int .i64 x) ∧ Below w4.heap.size w4 w')) (by kernel_rfl) ⟨HGC.out _ (below_drewN HBW.out 1), below_drewN HBW.out 1⟩ (fun hHeld => ?_)
        obtain ⟨X0, hX0⟩ : ∃ W, W = wz.drew := ⟨_, rfl⟩
        have HB6 := Lib.hid (show X0.ownsRow w4.heap.size 3 1 (.slice Ab nb cb) nb (intCs bs) from by rw [hX0]; exact own_below HVb.out (below_drewN (Below.refl _ _) 1))
        have HO6 := Lib.hid (show X0.ownsRow w4.heap.size 3 1 (.slice A1 (no + 1) c1) (no + 1) (intCs (os ++ [x])) from by rw [hX0]; exact own_below HO1.out (below_drewN (Below.refl _ _) 1))
        have HAP := Lib.hid (HAP1.out)
        rw [← hX0] at hHeld ⊢
        clear hX0
        refine wpAnyH_take (i := 0) (v := ?_) rfl (by kernel_rfl) (by kernel_rfl) (by kernel_rfl) (fun _ _ _ h => h) (Or.inl ⟨by rfl, ?_⟩) (by assumption) ?_
        rotate_left
        · intro w hSw; (try dsimp only at hSw); go_simp; (try with_reducible rfl)
        (try simp only [Act.put, List.getElem_toArray, List.getElem_cons_zero, List.getElem_cons_succ, Array.getInternal_eq_getElem, List.setIfInBounds_toArray, List.set_cons_zero, List.set_cons_succ])
        refine wpAnyH_take (i := 1) (v := ?_) rfl (by kernel_rfl) (by kernel_rfl) (by kernel_rfl) (fun _ _ _ h => h) (Or.inl ⟨by rfl, ?_⟩) (by assumption) ?_
        rotate_left
        · intro w hSw; (try dsimp only at hSw); go_simp; (try with_reducible rfl)
        (try simp only [Act.put, List.getElem_toArray, List.getElem_cons_zero, List.getElem_cons_succ, Array.getInternal_eq_getElem, List.setIfInBounds_toArray, List.set_cons_zero, List.set_cons_succ])
        refine wpAnyH_take (i := 2) (v := ?_) rfl (by kernel_rfl) (by kernel_rfl) (by kernel_rfl) (fun _ _ _ h => h) (Or.inl ⟨by rfl, ?_⟩) (by assumption) ?_
        rotate_left
        · intro w hSw; (try dsimp only at hSw); go_simp; (try with_reducible rfl)
        (try simp only [Act.put, List.getElem_toArray, List.getElem_cons_zero, List.getElem_cons_succ, Array.getInternal_eq_getElem, List.setIfInBounds_toArray, List.set_cons_zero, List.set_cons_succ])
        refine wpAnyH_take (i := 3) (v := ?_) rfl (by kernel_rfl) (by kernel_rfl) (by kernel_rfl) (fun _ _ _ h => h) (Or.inl ⟨by rfl, ?_⟩) (by assumption) ?_
        rotate_left
        · intro w hSw; (try dsimp only at hSw); go_simp; (try with_reducible rfl)
        (try simp only [Act.put, List.getElem_toArray, List.getElem_cons_zero, List.getElem_cons_succ, Array.getInternal_eq_getElem, List.setIfInBounds_toArray, List.set_cons_zero, List.set_cons_succ])
        refine wpAnyH_take (i := 4) (v := ?_) rfl (by kernel_rfl) (by kernel_rfl) (by kernel_rfl) (fun _ _ _ h => h) (Or.inl ⟨by rfl, ?_⟩) (by assumption) ?_
        rotate_left
        · intro w hSw; (try dsimp only at hSw); go_simp; (try with_reducible rfl)
        (try simp only [Act.put, List.getElem_toArray, List.getElem_cons_zero, List.getElem_cons_succ, Array.getInternal_eq_getElem, List.setIfInBounds_toArray, List.set_cons_zero, List.set_cons_succ])
        refine wpAnyH_take (i := 5) (v := ?_) rfl (by kernel_rfl) (by kernel_rfl) (by kernel_rfl) (fun _ _ _ h => h) (Or.inl ⟨by rfl, ?_⟩) (by assumption) ?_
        rotate_left
        · intro w hSw; (try dsimp only at hSw); go_simp; (try with_reducible rfl)
        (try simp only [Act.put, List.getElem_toArray, List.getElem_cons_zero, List.getElem_cons_succ, Array.getInternal_eq_getElem, List.setIfInBounds_toArray, List.set_cons_zero, List.set_cons_succ])
        refine wpAnyH_take (i := 6) (v := ?_) rfl (by kernel_rfl) (by kernel_rfl) (by kernel_rfl) (fun _ _ _ h => h) (Or.inl ⟨by rfl, ?_⟩) (by assumption) ?_
        rotate_left
        · intro w hSw; (try dsimp only at hSw); go_simp; (try with_reducible rfl)
        (try simp only [Act.put, List.getElem_toArray, List.getElem_cons_zero, List.getElem_cons_succ, Array.getInternal_eq_getElem, List.setIfInBounds_toArray, List.set_cons_zero, List.set_cons_succ])
        refine wpAnyH_take (i := 7) (v := ?_) rfl (by kernel_rfl) (by kernel_rfl) (by kernel_rfl) (fun _ _ _ h => h) (Or.inl ⟨by rfl, ?_⟩) (by assumption) ?_
        rotate_left
        · intro w hSw; (try dsimp only at hSw); go_simp; (try with_reducible rfl)
        (try simp only [Act.put, List.getElem_toArray, List.getElem_cons_zero, List.getElem_cons_succ, Array.getInternal_eq_getElem, List.setIfInBounds_toArray, List.set_cons_zero, List.set_cons_succ])
        refine wpAnyH_take (i := 8) (v := ?_) rfl (by kernel_rfl) (by kernel_rfl) (by kernel_rfl) (fun _ _ _ h => h) (Or.inl ⟨by rfl, ?_⟩) (by assumption) ?_
        rotate_left
        · intro w hSw; (try dsimp only at hSw); go_simp; (try with_reducible rfl)
        (try simp only [Act.put, List.getElem_toArray, List.getElem_cons_zero, List.getElem_cons_succ, Array.getInternal_eq_getElem, List.setIfInBounds_toArray, List.set_cons_zero, List.set_cons_succ])
        refine wpAnyH_ready (rs := [9]) (by kernel_rfl) (by simp) ?_
        refine AllReadyH.cons rfl (fun K hK => ?_) AllReadyH.nil
        go_simp
        refine hK.out _ _ ⟨HGC.out _ (below_al hHeld.2 (.cells #[.int .i64 x, .int .i64 x] 3)), below_al hHeld.2 (.cells #[.int .i64 x, .int .i64 x] 3)⟩ (fun hHeld => ?_)
        clear hK K
        (try simp only [Act.put, List.getElem_toArray, List.getElem_cons_zero, List.getElem_cons_succ, Array.getInternal_eq_getElem, List.setIfInBounds_toArray, List.set_cons_zero, List.set_cons_succ])
        obtain ⟨X7, hX7⟩ : ∃ W, W = X0.alloc (.cells #[.int .i64 x, .int .i64 x] 3) := ⟨_, rfl⟩
        have HB7 := Lib.hid (show X7.ownsRow w4.heap.size 3 1 (.slice Ab nb cb) nb (intCs bs) from by rw [hX7]; exact HB6.out.alloc _)
        have HO7 := Lib.hid (show X7.ownsRow w4.heap.size 3 1 (.slice A1 (no + 1) c1) (no + 1) (intCs (os ++ [x])) from by rw [hX7]; exact HO6.out.alloc _)
        have HF := Lib.hid (fun (i : Nat) (u : Value) (h : ([.int .i64 x, .int .i64 x] : List Value)[i]? = some u) => (show X7.cell? (Addr.add ⟨X0.heap.size, 0, none⟩ i) = some u from by
          rw [hX7]; exact World.news_of_block (heap_alloc_new X0 (.cells #[.int .i64 x, .int .i64 x] 3)) i u h))
        rw [← hX7] at hHeld ⊢
        clear hX7
        refine wpAnyH_ready (rs := [10]) (by kernel_rfl) (by simp) ?_
        refine AllReadyH.cons rfl (fun K hK => ?_) AllReadyH.nil
        refine step_append_at (by rfl) _ _ _ (by rfl) w4.heap.size 3 i2 (.int .i64 0) 1 8 Try.underlying22 hi2 hx1 hx2 hx3 (by rfl) (by decide) (.slice Ab nb cb) nb (intCs bs) (by rfl) HB7.out ⟨X0.heap.size, 0, none⟩ 2 2 [.int .i64 x, .int .i64 x] (by rfl) (by rfl) HF.out (by simp [Value.oneCell']) (by unfold maxLen; omega) (by omega) hHeld.2.size (fun v8 w8 hown8 hg8 hat8 => ?_)
        obtain ⟨A8, c8, rfl⟩ := own_slice hown8
        have HB8 := Lib.hid (below_append hHeld.2 HB7.out (Nat.le_refl _) hHeld.2.size hg8)
        have HO8 := Lib.hid (HO7.out.kept hg8 HAP.out)
        have HA8 := Lib.hid (apart_new (apart_symm HAP.out) hat8 (fun g e => (HO7.out.lt g e).2))
        have HC8 := Lib.hid (show w8.cell? ⟨bG, fG + k, none⟩ = some (.int .i64 x) from HGC.out _ HB8.out)
        have HN8 := Lib.hid hown8
        clear hown8 hg8 hat8 HF
        refine hK.out _ _ ⟨HC8.out, HB8.out⟩ (fun hHeld => ?_)
        clear hK K
        (try simp only [Act.put, List.getElem_toArray, List.getElem_cons_zero, List.getElem_cons_succ, Array.getInternal_eq_getElem, List.setIfInBounds_toArray, List.set_cons_zero, List.set_cons_succ])
        refine wpAnyH_ready (rs := [11]) (by kernel_rfl) (by simp) ?_
        refine AllReadyH.cons rfl (fun K hK => ?_) AllReadyH.nil
        go_simp
        refine hK.out _ _ hHeld (fun hHeld => ?_)
        clear hK K
        (try simp only [Act.put, List.getElem_toArray, List.getElem_cons_zero, List.getElem_cons_succ, Array.getInternal_eq_getElem, List.setIfInBounds_toArray, List.set_cons_zero, List.set_cons_succ])
        refine wpAnyH_done (by kernel_rfl) ?_ _
        clear hHeld
        go_wp2_with fail
        go_roundw
        case rel => exact ⟨k, (no + 1), nb + 2, (os ++ [x]), bs ++ [x, x], rfl, by rw [List.length_append, ← HNO.out]; rfl, by rw [List.length_append, ← HNB.out]; rfl, HN.out, HO8.out, by rw [intCs_app]; exact HN8.out, apart_symm HA8.out, HB8.out⟩
        case measure => simp [intOf] <;> omega
      have q1 : decide (x < 0) = false := decide_eq_false hx0
      by_cases hxm : (MM : Int) ≤ x
      · have q2 : decide ((MM : Int) ≤ x) = true := decide_eq_true hxm
        have HN := Lib.hid (HNO1.out (.inr hxm))
        clear HNO1 HNI1
        have HOa := Lib.hid (HVO.out.alloc (.cells #[.int .i64 x] 3))
        have HVa := Lib.hid (HVB.out.alloc (.cells #[.int .i64 x] 3))
        have HBa := Lib.hid (below_al HB0.out (.cells #[.int .i64 x] 3))
        have hsza := HBa.out.size
        go_upto_if 40 with fail
        go_wp2_with (at_builtin; refine wpList_append_own_at _ rfl _ _ 22 rfl w4.heap.size 3 i2 (.int .i64 0) 1 8 Try.underlying22 hi2 hx1 hx2 hx3 rfl (by decide) (.slice Ao no co) no (intCs os) rfl HOa.out ⟨wr.heap.size, 0, none⟩ 1 1 [.int .i64 x] rfl rfl (cell_one_new _ _ _) (by simp [Value.oneCell']) (by unfold maxLen; omega) (by omega) hsza ?_; intro v1 wz hown1 hg1 _ hat1)
        obtain ⟨A1, c1, rfl⟩ := own_slice hown1
        have HBW := Lib.hid (below_append HBa.out HOa.out (Nat.le_refl _) hsza hg1)
        have HVb := Lib.hid (HVa.out.kept hg1 (apart_symm HAP0.out))
        have HO1 := Lib.hid (show wz.ownsRow w4.heap.size 3 1 (.slice A1 (no + 1) c1) (no + 1) (intCs (os ++ [x])) from by rw [intCs_app]; exact hown1)
        have HAP1 := Lib.hid (apart_new HAP0.out hat1 (fun g e => (HVa.out.lt g e).2))
        clear hown1 hg1 hat1 HOa HVa HBa HVO HVB HAP0 HB0
        refine wp_region_held_drew (S := (fun w' => w'.cell? ⟨bG, fG + k, none⟩ = some (.int .i64 x) ∧ Below w4.heap.size w4 w')) (by kernel_rfl) ⟨HGC.out _ (below_drewN HBW.out 1), below_drewN HBW.out 1⟩ (fun hHeld => ?_)
        obtain ⟨X0, hX0⟩ : ∃ W, W = wz.drew := ⟨_, rfl⟩
        have HB6 := Lib.hid (show X0.ownsRow w4.heap.size 3 1 (.slice Ab nb cb) nb (intCs bs) from by rw [hX0]; exact own_below HVb.out (below_drewN (Below.refl _ _) 1))
        have HO6 := Lib.hid (show X0.ownsRow w4.heap.size 3 1 (.slice A1 (no + 1) c1) (no + 1) (intCs (os ++ [x])) from by rw [hX0]; exact own_below HO1.out (below_drewN (Below.refl _ _) 1))
        have HAP := Lib.hid (HAP1.out)
        rw [← hX0] at hHeld ⊢
        clear hX0
        refine wpAnyH_take (i := 0) (v := ?_) rfl (by kernel_rfl) (by kernel_rfl) (by kernel_rfl) (fun _ _ _ h => h) (Or.inl ⟨by rfl, ?_⟩) (by assumption) ?_
        rotate_left
        · intro w hSw; (try dsimp only at hSw); go_simp; (try with_reducible rfl)
        (try simp only [Act.put, List.getElem_toArray, List.getElem_cons_zero, List.getElem_cons_succ, Array.getInternal_eq_getElem, List.setIfInBounds_toArray, List.set_cons_zero, List.set_cons_succ])
        refine wpAnyH_take (i := 1) (v := ?_) rfl (by kernel_rfl) (by kernel_rfl) (by kernel_rfl) (fun _ _ _ h => h) (Or.inl ⟨by rfl, ?_⟩) (by assumption) ?_
        rotate_left
        · intro w hSw; (try dsimp only at hSw); go_simp; (try with_reducible rfl)
        (try simp only [Act.put, List.getElem_toArray, List.getElem_cons_zero, List.getElem_cons_succ, Array.getInternal_eq_getElem, List.setIfInBounds_toArray, List.set_cons_zero, List.set_cons_succ])
        refine wpAnyH_take (i := 2) (v := ?_) rfl (by kernel_rfl) (by kernel_rfl) (by kernel_rfl) (fun _ _ _ h => h) (Or.inl ⟨by rfl, ?_⟩) (by assumption) ?_
        rotate_left
        · intro w hSw; (try dsimp only at hSw); go_simp; (try with_reducible rfl)
        (try simp only [Act.put, List.getElem_toArray, List.getElem_cons_zero, List.getElem_cons_succ, Array.getInternal_eq_getElem, List.setIfInBounds_toArray, List.set_cons_zero, List.set_cons_succ])
        refine wpAnyH_take (i := 3) (v := ?_) rfl (by kernel_rfl) (by kernel_rfl) (by kernel_rfl) (fun _ _ _ h => h) (Or.inl ⟨by rfl, ?_⟩) (by assumption) ?_
        rotate_left
        · intro w hSw; (try dsimp only at hSw); go_simp; (try with_reducible rfl)
        (try simp only [Act.put, List.getElem_toArray, List.getElem_cons_zero, List.getElem_cons_succ, Array.getInternal_eq_getElem, List.setIfInBounds_toArray, List.set_cons_zero, List.set_cons_succ])
        refine wpAnyH_take (i := 4) (v := ?_) rfl (by kernel_rfl) (by kernel_rfl) (by kernel_rfl) (fun _ _ _ h => h) (Or.inl ⟨by rfl, ?_⟩) (by assumption) ?_
        rotate_left
        · intro w hSw; (try dsimp only at hSw); go_simp; (try with_reducible rfl)
        (try simp only [Act.put, List.getElem_toArray, List.getElem_cons_zero, List.getElem_cons_succ, Array.getInternal_eq_getElem, List.setIfInBounds_toArray, List.set_cons_zero, List.set_cons_succ])
        refine wpAnyH_take (i := 5) (v := ?_) rfl (by kernel_rfl) (by kernel_rfl) (by kernel_rfl) (fun _ _ _ h => h) (Or.inl ⟨by rfl, ?_⟩) (by assumption) ?_
        rotate_left
        · intro w hSw; (try dsimp only at hSw); go_simp; (try with_reducible rfl)
        (try simp only [Act.put, List.getElem_toArray, List.getElem_cons_zero, List.getElem_cons_succ, Array.getInternal_eq_getElem, List.setIfInBounds_toArray, List.set_cons_zero, List.set_cons_succ])
        refine wpAnyH_take (i := 6) (v := ?_) rfl (by kernel_rfl) (by kernel_rfl) (by kernel_rfl) (fun _ _ _ h => h) (Or.inl ⟨by rfl, ?_⟩) (by assumption) ?_
        rotate_left
        · intro w hSw; (try dsimp only at hSw); go_simp; (try with_reducible rfl)
        (try simp only [Act.put, List.getElem_toArray, List.getElem_cons_zero, List.getElem_cons_succ, Array.getInternal_eq_getElem, List.setIfInBounds_toArray, List.set_cons_zero, List.set_cons_succ])
        refine wpAnyH_take (i := 7) (v := ?_) rfl (by kernel_rfl) (by kernel_rfl) (by kernel_rfl) (fun _ _ _ h => h) (Or.inl ⟨by rfl, ?_⟩) (by assumption) ?_
        rotate_left
        · intro w hSw; (try dsimp only at hSw); go_simp; (try with_reducible rfl)
        (try simp only [Act.put, List.getElem_toArray, List.getElem_cons_zero, List.getElem_cons_succ, Array.getInternal_eq_getElem, List.setIfInBounds_toArray, List.set_cons_zero, List.set_cons_succ])
        refine wpAnyH_take (i := 8) (v := ?_) rfl (by kernel_rfl) (by kernel_rfl) (by kernel_rfl) (fun _ _ _ h => h) (Or.inl ⟨by rfl, ?_⟩) (by assumption) ?_
        rotate_left
        · intro w hSw; (try dsimp only at hSw); go_simp; (try with_reducible rfl)
        (try simp only [Act.put, List.getElem_toArray, List.getElem_cons_zero, List.getElem_cons_succ, Array.getInternal_eq_getElem, List.setIfInBounds_toArray, List.set_cons_zero, List.set_cons_succ])
        refine wpAnyH_ready (rs := [9]) (by kernel_rfl) (by simp) ?_
        refine AllReadyH.cons rfl (fun K hK => ?_) AllReadyH.nil
        go_simp
        refine hK.out _ _ ⟨HGC.out _ (below_al hHeld.2 (.cells #[.int .i64 x, .int .i64 x] 3)), below_al hHeld.2 (.cells #[.int .i64 x, .int .i64 x] 3)⟩ (fun hHeld => ?_)
        clear hK K
        (try simp only [Act.put, List.getElem_toArray, List.getElem_cons_zero, List.getElem_cons_succ, Array.getInternal_eq_getElem, List.setIfInBounds_toArray, List.set_cons_zero, List.set_cons_succ])
        obtain ⟨X7, hX7⟩ : ∃ W, W = X0.alloc (.cells #[.int .i64 x, .int .i64 x] 3) := ⟨_, rfl⟩
        have HB7 := Lib.hid (show X7.ownsRow w4.heap.size 3 1 (.slice Ab nb cb) nb (intCs bs) from by rw [hX7]; exact HB6.out.alloc _)
        have HO7 := Lib.hid (show X7.ownsRow w4.heap.size 3 1 (.slice A1 (no + 1) c1) (no + 1) (intCs (os ++ [x])) from by rw [hX7]; exact HO6.out.alloc _)
        have HF := Lib.hid (fun (i : Nat) (u : Value) (h : ([.int .i64 x, .int .i64 x] : List Value)[i]? = some u) => (show X7.cell? (Addr.add ⟨X0.heap.size, 0, none⟩ i) = some u from by
          rw [hX7]; exact World.news_of_block (heap_alloc_new X0 (.cells #[.int .i64 x, .int .i64 x] 3)) i u h))
        rw [← hX7] at hHeld ⊢
        clear hX7
        refine wpAnyH_ready (rs := [10]) (by kernel_rfl) (by simp) ?_
        refine AllReadyH.cons rfl (fun K hK => ?_) AllReadyH.nil
        refine step_append_at (by rfl) _ _ _ (by rfl) w4.heap.size 3 i2 (.int .i64 0) 1 8 Try.underlying22 hi2 hx1 hx2 hx3 (by rfl) (by decide) (.slice Ab nb cb) nb (intCs bs) (by rfl) HB7.out ⟨X0.heap.size, 0, none⟩ 2 2 [.int .i64 x, .int .i64 x] (by rfl) (by rfl) HF.out (by simp [Value.oneCell']) (by unfold maxLen; omega) (by omega) hHeld.2.size (fun v8 w8 hown8 hg8 hat8 => ?_)
        obtain ⟨A8, c8, rfl⟩ := own_slice hown8
        have HB8 := Lib.hid (below_append hHeld.2 HB7.out (Nat.le_refl _) hHeld.2.size hg8)
        have HO8 := Lib.hid (HO7.out.kept hg8 HAP.out)
        have HA8 := Lib.hid (apart_new (apart_symm HAP.out) hat8 (fun g e => (HO7.out.lt g e).2))
        have HC8 := Lib.hid (show w8.cell? ⟨bG, fG + k, none⟩ = some (.int .i64 x) from HGC.out _ HB8.out)
        have HN8 := Lib.hid hown8
        clear hown8 hg8 hat8 HF
        refine hK.out _ _ ⟨HC8.out, HB8.out⟩ (fun hHeld => ?_)
        clear hK K
        (try simp only [Act.put, List.getElem_toArray, List.getElem_cons_zero, List.getElem_cons_succ, Array.getInternal_eq_getElem, List.setIfInBounds_toArray, List.set_cons_zero, List.set_cons_succ])
        refine wpAnyH_ready (rs := [11]) (by kernel_rfl) (by simp) ?_
        refine AllReadyH.cons rfl (fun K hK => ?_) AllReadyH.nil
        go_simp
        refine hK.out _ _ hHeld (fun hHeld => ?_)
        clear hK K
        (try simp only [Act.put, List.getElem_toArray, List.getElem_cons_zero, List.getElem_cons_succ, Array.getInternal_eq_getElem, List.setIfInBounds_toArray, List.set_cons_zero, List.set_cons_succ])
        refine wpAnyH_done (by kernel_rfl) ?_ _
        clear hHeld
        go_wp2_with fail
        go_roundw
        case rel => exact ⟨k, (no + 1), nb + 2, (os ++ [x]), bs ++ [x, x], rfl, by rw [List.length_append, ← HNO.out]; rfl, by rw [List.length_append, ← HNB.out]; rfl, HN.out, HO8.out, by rw [intCs_app]; exact HN8.out, apart_symm HA8.out, HB8.out⟩
        case measure => simp [intOf] <;> omega
      · have q2 : decide ((MM : Int) ≤ x) = false := decide_eq_false hxm
        clear HNO1
        go_upto_region 12 with fail
        have HBW := Lib.hid HB0.out
        refine wp_region_held_drew (S := (fun w' => w'.cell? ⟨bG, fG + k, none⟩ = some (.int .i64 x) ∧ Below w4.heap.size w4 w')) (by kernel_rfl) ⟨HGC.out _ (below_drewN HBW.out 1), below_drewN HBW.out 1⟩ (fun hHeld => ?_)
        obtain ⟨X0, hX0⟩ : ∃ W, W = wr.drew := ⟨_, rfl⟩
        have HB6 := Lib.hid (show X0.ownsRow w4.heap.size 3 1 (.slice Ab nb cb) nb (intCs bs) from by rw [hX0]; exact own_below HVB.out (below_drewN (Below.refl _ _) 1))
        have HO6 := Lib.hid (show X0.ownsRow w4.heap.size 3 1 (.slice Ao no co) no (intCs os) from by rw [hX0]; exact own_below HVO.out (below_drewN (Below.refl _ _) 1))
        have HAP := Lib.hid (HAP0.out)
        rw [← hX0] at hHeld ⊢
        clear hX0
        refine wpAnyH_take (i := 0) (v := ?_) rfl (by kernel_rfl) (by kernel_rfl) (by kernel_rfl) (fun _ _ _ h => h) (Or.inl ⟨by rfl, ?_⟩) (by assumption) ?_
        rotate_left
        · intro w hSw; (try dsimp only at hSw); go_simp; (try with_reducible rfl)
        (try simp only [Act.put, List.getElem_toArray, List.getElem_cons_zero, List.getElem_cons_succ, Array.getInternal_eq_getElem, List.setIfInBounds_toArray, List.set_cons_zero, List.set_cons_succ])
        refine wpAnyH_take (i := 1) (v := ?_) rfl (by kernel_rfl) (by kernel_rfl) (by kernel_rfl) (fun _ _ _ h => h) (Or.inl ⟨by rfl, ?_⟩) (by assumption) ?_
        rotate_left
        · intro w hSw; (try dsimp only at hSw); go_simp; (try with_reducible rfl)
        (try simp only [Act.put, List.getElem_toArray, List.getElem_cons_zero, List.getElem_cons_succ, Array.getInternal_eq_getElem, List.setIfInBounds_toArray, List.set_cons_zero, List.set_cons_succ])
        refine wpAnyH_take (i := 2) (v := ?_) rfl (by kernel_rfl) (by kernel_rfl) (by kernel_rfl) (fun _ _ _ h => h) (Or.inl ⟨by rfl, ?_⟩) (by assumption) ?_
        rotate_left
        · intro w hSw; (try dsimp only at hSw); go_simp; (try with_reducible rfl)
        (try simp only [Act.put, List.getElem_toArray, List.getElem_cons_zero, List.getElem_cons_succ, Array.getInternal_eq_getElem, List.setIfInBounds_toArray, List.set_cons_zero, List.set_cons_succ])
        refine wpAnyH_take (i := 3) (v := ?_) rfl (by kernel_rfl) (by kernel_rfl) (by kernel_rfl) (fun _ _ _ h => h) (Or.inl ⟨by rfl, ?_⟩) (by assumption) ?_
        rotate_left
        · intro w hSw; (try dsimp only at hSw); go_simp; (try with_reducible rfl)
        (try simp only [Act.put, List.getElem_toArray, List.getElem_cons_zero, List.getElem_cons_succ, Array.getInternal_eq_getElem, List.setIfInBounds_toArray, List.set_cons_zero, List.set_cons_succ])
        refine wpAnyH_take (i := 4) (v := ?_) rfl (by kernel_rfl) (by kernel_rfl) (by kernel_rfl) (fun _ _ _ h => h) (Or.inl ⟨by rfl, ?_⟩) (by assumption) ?_
        rotate_left
        · intro w hSw; (try dsimp only at hSw); go_simp; (try with_reducible rfl)
        (try simp only [Act.put, List.getElem_toArray, List.getElem_cons_zero, List.getElem_cons_succ, Array.getInternal_eq_getElem, List.setIfInBounds_toArray, List.set_cons_zero, List.set_cons_succ])
        refine wpAnyH_take (i := 5) (v := ?_) rfl (by kernel_rfl) (by kernel_rfl) (by kernel_rfl) (fun _ _ _ h => h) (Or.inl ⟨by rfl, ?_⟩) (by assumption) ?_
        rotate_left
        · intro w hSw; (try dsimp only at hSw); go_simp; (try with_reducible rfl)
        (try simp only [Act.put, List.getElem_toArray, List.getElem_cons_zero, List.getElem_cons_succ, Array.getInternal_eq_getElem, List.setIfInBounds_toArray, List.set_cons_zero, List.set_cons_succ])
        refine wpAnyH_take (i := 6) (v := ?_) rfl (by kernel_rfl) (by kernel_rfl) (by kernel_rfl) (fun _ _ _ h => h) (Or.inl ⟨by rfl, ?_⟩) (by assumption) ?_
        rotate_left
        · intro w hSw; (try dsimp only at hSw); go_simp; (try with_reducible rfl)
        (try simp only [Act.put, List.getElem_toArray, List.getElem_cons_zero, List.getElem_cons_succ, Array.getInternal_eq_getElem, List.setIfInBounds_toArray, List.set_cons_zero, List.set_cons_succ])
        refine wpAnyH_take (i := 7) (v := ?_) rfl (by kernel_rfl) (by kernel_rfl) (by kernel_rfl) (fun _ _ _ h => h) (Or.inl ⟨by rfl, ?_⟩) (by assumption) ?_
        rotate_left
        · intro w hSw; (try dsimp only at hSw); go_simp; (try with_reducible rfl)
        (try simp only [Act.put, List.getElem_toArray, List.getElem_cons_zero, List.getElem_cons_succ, Array.getInternal_eq_getElem, List.setIfInBounds_toArray, List.set_cons_zero, List.set_cons_succ])
        refine wpAnyH_take (i := 8) (v := ?_) rfl (by kernel_rfl) (by kernel_rfl) (by kernel_rfl) (fun _ _ _ h => h) (Or.inl ⟨by rfl, ?_⟩) (by assumption) ?_
        rotate_left
        · intro w hSw; (try dsimp only at hSw); go_simp; (try with_reducible rfl)
        (try simp only [Act.put, List.getElem_toArray, List.getElem_cons_zero, List.getElem_cons_succ, Array.getInternal_eq_getElem, List.setIfInBounds_toArray, List.set_cons_zero, List.set_cons_succ])
        refine wpAnyH_ready (rs := [9]) (by kernel_rfl) (by simp) ?_
        refine AllReadyH.cons rfl (fun K hK => ?_) AllReadyH.nil
        go_simp
        refine hK.out _ _ ⟨HGC.out _ (below_al hHeld.2 (.cells #[.int .i64 x, .int .i64 x] 3)), below_al hHeld.2 (.cells #[.int .i64 x, .int .i64 x] 3)⟩ (fun hHeld => ?_)
        clear hK K
        (try simp only [Act.put, List.getElem_toArray, List.getElem_cons_zero, List.getElem_cons_succ, Array.getInternal_eq_getElem, List.setIfInBounds_toArray, List.set_cons_zero, List.set_cons_succ])
        obtain ⟨X7, hX7⟩ : ∃ W, W = X0.alloc (.cells #[.int .i64 x, .int .i64 x] 3) := ⟨_, rfl⟩
        have HB7 := Lib.hid (show X7.ownsRow w4.heap.size 3 1 (.slice Ab nb cb) nb (intCs bs) from by rw [hX7]; exact HB6.out.alloc _)
        have HO7 := Lib.hid (show X7.ownsRow w4.heap.size 3 1 (.slice Ao no co) no (intCs os) from by rw [hX7]; exact HO6.out.alloc _)
        have HF := Lib.hid (fun (i : Nat) (u : Value) (h : ([.int .i64 x, .int .i64 x] : List Value)[i]? = some u) => (show X7.cell? (Addr.add ⟨X0.heap.size, 0, none⟩ i) = some u from by
          rw [hX7]; exact World.news_of_block (heap_alloc_new X0 (.cells #[.int .i64 x, .int .i64 x] 3)) i u h))
        rw [← hX7] at hHeld ⊢
        clear hX7
        refine wpAnyH_ready (rs := [10]) (by kernel_rfl) (by simp) ?_
        refine AllReadyH.cons rfl (fun K hK => ?_) AllReadyH.nil
        refine step_append_at (by rfl) _ _ _ (by rfl) w4.heap.size 3 i2 (.int .i64 0) 1 8 Try.underlying22 hi2 hx1 hx2 hx3 (by rfl) (by decide) (.slice Ab nb cb) nb (intCs bs) (by rfl) HB7.out ⟨X0.heap.size, 0, none⟩ 2 2 [.int .i64 x, .int .i64 x] (by rfl) (by rfl) HF.out (by simp [Value.oneCell']) (by unfold maxLen; omega) (by omega) hHeld.2.size (fun v8 w8 hown8 hg8 hat8 => ?_)
        obtain ⟨A8, c8, rfl⟩ := own_slice hown8
        have HB8 := Lib.hid (below_append hHeld.2 HB7.out (Nat.le_refl _) hHeld.2.size hg8)
        have HO8 := Lib.hid (HO7.out.kept hg8 HAP.out)
        have HA8 := Lib.hid (apart_new (apart_symm HAP.out) hat8 (fun g e => (HO7.out.lt g e).2))
        have HC8 := Lib.hid (show w8.cell? ⟨bG, fG + k, none⟩ = some (.int .i64 x) from HGC.out _ HB8.out)
        have HN8 := Lib.hid hown8
        clear hown8 hg8 hat8 HF
        refine hK.out _ _ ⟨HC8.out, HB8.out⟩ (fun hHeld => ?_)
        clear hK K
        (try simp only [Act.put, List.getElem_toArray, List.getElem_cons_zero, List.getElem_cons_succ, Array.getInternal_eq_getElem, List.setIfInBounds_toArray, List.set_cons_zero, List.set_cons_succ])
        refine wpAnyH_ready (rs := [11]) (by kernel_rfl) (by simp) ?_
        refine AllReadyH.cons rfl (fun K hK => ?_) AllReadyH.nil
        go_simp
        refine hK.out _ _ hHeld (fun hHeld => ?_)
        clear hK K
        (try simp only [Act.put, List.getElem_toArray, List.getElem_cons_zero, List.getElem_cons_succ, Array.getInternal_eq_getElem, List.setIfInBounds_toArray, List.set_cons_zero, List.set_cons_succ])
        refine wpAnyH_done (by kernel_rfl) ?_ _
        clear hHeld
        go_wp2_with fail
        go_roundw
        case rel => exact ⟨k, no, nb + 2, os, bs ++ [x, x], rfl, HNO.out, by rw [List.length_append, ← HNB.out]; rfl, HNI1.out, HO8.out, by rw [intCs_app]; exact HN8.out, apart_symm HA8.out, HB8.out⟩
        case measure => simp [intOf] <;> omega
end Go.Proofs.Ytaelfjphgdlbcaa
