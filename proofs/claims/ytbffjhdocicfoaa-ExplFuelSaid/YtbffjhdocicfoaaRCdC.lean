/-
  THE DOCUMENT's Right of codes.
-/
import Derived.Test.YtbffjhdocicfoaaRCdB
import Derived.Deep.RegionHeld3
namespace Go.Proofs.Ytbffjhdocicfoaa
open Go.RowKit
set_option linter.unusedVariables false
set_option linter.unusedSimpArgs false
open WordM (L)
open CodM (St Pg rightS rightT rightP)

theorem rightP_few {P : Pg} (h : 4 < P.init.length ∨ P.ths.length < 1 ∨ 3 < P.ths.length) : rightP P = false := by
  unfold rightP
  cases e : (decide (P.init.length ≤ 4) && (decide (1 ≤ P.ths.length) && decide (P.ths.length ≤ 3)) && P.ths.all (rightT P.init.length))
  · rfl
  · simp at e; omega
theorem rightP_no {P : Pg} {k : Nat} (hk : k < P.ths.length) (h : rightT P.init.length P.ths[k] = false) : rightP P = false := by
  unfold rightP
  rw [Bool.and_eq_false_iff]; right
  exact List.all_eq_false.2 ⟨_, List.getElem_mem hk, by simp [h]⟩
theorem rightP_all {P : Pg} (h : ¬ (4 < P.init.length ∨ P.ths.length < 1 ∨ 3 < P.ths.length)) (hall : ∀ k (hk : k < P.ths.length), rightT P.init.length P.ths[k] = true) : rightP P = true := by
  unfold rightP
  simp only [Bool.and_eq_true, decide_eq_true_eq, List.all_eq_true]
  refine ⟨⟨by omega, by omega, by omega⟩, fun ss hs => ?_⟩
  obtain ⟨j, hj, rfl⟩ := List.mem_iff_getElem.1 hs
  exact hall j hj
def W1 (w : World) (a b : Value) : World := w.alloc (.cells #[a, b] 25)
theorem W1_size (w : World) (a b : Value) : (W1 w a b).heap.size = w.heap.size + 1 := by unfold W1; simp
set_option maxHeartbeats 8000000 in
set_option maxRecDepth 100000 in
theorem rrightp_any {B : Nat} {v : Value} {P : Pg} (w : World) (hv : PgV B w v P) (hBB : B ≤ w.heap.size) :
    Calls Try.prog 23 #[v] w fun e w' => e = .returned (.bool (rightP P)) ∧ Below w.heap.size w w' := by
  obtain ⟨vi, vt, rfl, hmi, hmt⟩ := hv
  obtain ⟨A0, c0, rfl, -⟩ := hmi
  obtain ⟨A1, c1, rfl, h1, h2, h3⟩ := hmt
  unfold maxLen at h2
  have hB := below_al (Below.refl w.heap.size w) (.cells #[.slice A0 P.init.length c0, .slice A1 P.ths.length c1] 25)
  have hbx := Lib.hid (PgBox.at (w := w) rfl (.slice A0 P.init.length c0) (.slice A1 P.ths.length c1) 25)
  by_cases hf : 4 < P.init.length ∨ P.ths.length < 1 ∨ 3 < P.ths.length
  · have HE := Lib.hid (rightP_few hf)
    clear h3
    by_cases ha : 4 < P.init.length
    · have q : decide (4 < P.init.length) = true := decide_eq_true ha
      go_enter Try.func23, Try.ntmps23
      go_wp2
      go_ret
      exact ⟨ret_boolc HE.out.symm, hB⟩
    have q : decide (4 < P.init.length) = false := decide_eq_false ha
    by_cases hb : P.ths.length < 1
    · have q2 : decide (P.ths.length < 1) = true := decide_eq_true hb
      have hz : P.ths.length = 0 := by omega
      have HZ := Lib.hid hz
      have q3 : decide ((P.ths.length : Int) < 1) = true := decide_eq_true (by omega)
      clear hb hz hf
      go_enter Try.func23, Try.ntmps23
      go_wp2
      all_goals go_ret
      all_goals first | exact ⟨ret_boolc HE.out.symm, hB⟩ | (have := HZ.out; simp_all)
    have hc : 3 < P.ths.length := by omega
    have q3 : decide (P.ths.length < 1) = false := decide_eq_false hb
    have q4 : decide (3 < P.ths.length) = true := decide_eq_true hc
    clear hf
    go_enter Try.func23, Try.ntmps23
    go_wp2
    go_ret
    exact ⟨ret_boolc HE.out.symm, hB⟩
  have HF := Lib.hid hf
  have qa : decide (4 < P.init.length) = false := decide_eq_false (by omega)
  have qb : decide (P.ths.length < 1) = false := decide_eq_false (by omega)
  have qc : decide (3 < P.ths.length) = false := decide_eq_false (by omega)
  have n1 : ¬ 4 < P.init.length := by omega
  have n2 : ¬ P.ths.length < 1 := by omega
  have n3 : ¬ 3 < P.ths.length := by omega
  have n4 : 1 ≤ P.ths.length := by omega
  clear hf
  obtain ⟨t0, t1⟩ := hbx.out
  have HB1 := Lib.hid (show Below (w.heap.size + 1) (W1 w (.slice A0 P.init.length c0) (.slice A1 P.ths.length c1)) (w.alloc (.cells #[.slice A0 P.init.length c0, .slice A1 P.ths.length c1] 25)) from Below.refl _ _)
  have HPB := Lib.hid (fun W (hW : Below (w.heap.size + 1) (W1 w (.slice A0 P.init.length c0) (.slice A1 P.ths.length c1)) W) => show PgBox W w.heap.size (.slice A0 P.init.length c0) (.slice A1 P.ths.length c1) from hbx.out.below (by
    have : (w.alloc (.cells #[.slice A0 P.init.length c0, .slice A1 P.ths.length c1] 25)).heap.size = w.heap.size + 1 := by simp
    rw [this]; exact hW))
  go_enter Try.func23, Try.ntmps23
  go_wp2
  go_loopw [3] (fun i wr => (∃ k : Nat, k ≤ P.ths.length ∧ i = .int .i64 k ∧ (∀ j (hj : j < P.ths.length), j < k → rightT P.init.length P.ths[j] = true) ∧ Below w.heap.size w wr ∧ Below (w.heap.size + 1) (W1 w (.slice A0 P.init.length c0) (.slice A1 P.ths.length c1)) wr)) (fun i _ => P.ths.length - (intOf i).toNat)
  case atStart => exact ⟨0, Nat.zero_le _, rfl, fun j _ h => absurd h (Nat.not_lt_zero j), hB, HB1.out⟩
  case round =>
    obtain ⟨k, hk, rfl, hall, hB2, hW2⟩ := hrel
    have HA := Lib.hid hall
    clear hall t0 t1
    obtain ⟨t0, t1⟩ := HPB.out _ hW2
    by_cases hlt : k < P.ths.length
    · obtain ⟨b1, f1, rfl, hb1, hcl⟩ := h3 (by omega)
      obtain ⟨u, z0, hS⟩ := hcl k hlt
      have HN := Lib.hid (fun (h : rightT P.init.length P.ths[k] = false) => rightP_no hlt h)
      have HY := Lib.hid (fun (h : rightT P.init.length P.ths[k] = true) (j : Nat) (hj : j < P.ths.length) (hjk : j < k + 1) => show rightT P.init.length P.ths[j] = true by
        by_cases e : j = k
        · subst e; exact h
        · exact HA.out j hj (by omega))
      obtain ⟨ss, hx⟩ : ∃ x, x = P.ths[k] := ⟨_, rfl⟩
      rw [← hx] at hS HY HN
      obtain ⟨A3, c3, rfl, he1, he2, he3⟩ := hS
      unfold maxLen at he2
      have Z0 := Lib.hid z0
      have y1 := ((hB2.mono hBB).cell (p := ⟨b1, f1 + k, none⟩) hb1).trans z0
      clear hx hcl h3 HA z0
      by_cases hs : 80 < ss.length
      · have q3 : decide (80 < ss.length) = true := decide_eq_true hs
        have HE := Lib.hid (HN.out (CodM.rightT_many hs))
        clear he3
        go_wp2
        go_ret
        exact ⟨ret_boolc HE.out.symm, hB2⟩
      have q3 : decide (80 < ss.length) = false := decide_eq_false hs
      have hs8 : ss.length ≤ 80 := by omega
      go_wp2
      go_loopw [4] (fun i wq => (∃ m : Nat, m ≤ ss.length ∧ i = .int .i64 m ∧ (∀ j (hj : j < ss.length), j < m → rightS P.init.length ss.length j ss[j] = true) ∧ Below w.heap.size w wq ∧ Below (w.heap.size + 1) (W1 w (.slice A0 P.init.length c0) (.slice (some ⟨b1, f1, none⟩) P.ths.length c1)) wq)) (fun i _ => ss.length - (intOf i).toNat)
      case atStart => exact ⟨0, Nat.zero_le _, rfl, fun j _ h => absurd h (Nat.not_lt_zero j), hB2, hW2⟩
      case round =>
        obtain ⟨m, hmk, rfl, hal, hB3, hW3⟩ := hrel
        have HAl := Lib.hid hal
        clear hal t0 t1 y1
        obtain ⟨t0, t1⟩ := HPB.out _ hW3
        have y1 := ((hB3.mono hBB).cell (p := ⟨b1, f1 + k, none⟩) hb1).trans Z0.out
        by_cases hlm : m < ss.length
        · obtain ⟨b3, f3, rfl, hb3, hc3⟩ := he3 (by omega)
          obtain ⟨z0, z1, z2, z3, z4⟩ := (hc3 m hlm).below (hB3.mono hBB) hb3
          have HS := fun W => rright7_any (vi := .slice A0 P.init.length c0) (vt := .slice (some ⟨b1, f1, none⟩) P.ths.length c1) P.init.length m ss.length ss[m].op ss[m].reg ss[m].loc ss[m].n ss[m].to A0 P.init.length c0 W rfl rfl
          rw [← rS_right] at HS
          have HNs := Lib.hid (fun (h : rightS P.init.length ss.length m ss[m] = false) => HN.out (CodM.rightT_no hlm h))
          have HYs := Lib.hid (fun (h : rightS P.init.length ss.length m ss[m] = true) (j : Nat) (hj : j < ss.length) (hjk : j < m + 1) => show rightS P.init.length ss.length j ss[j] = true by
            by_cases e : j = m
            · subst e; exact h
            · exact HAl.out j hj (by omega))
          generalize rightS P.init.length ss.length m ss[m] = q at *
          obtain ⟨x, hx⟩ : ∃ x, x = ss[m] := ⟨_, rfl⟩
          rw [← hx] at z0 z1 z2 z3 z4 HS
          replace HS := Lib.hid HS
          have HW3 := Lib.hid hW3
          have HB3 := Lib.hid hB3
          clear hx hc3 he3 HAl
          go_wp2
          refine wp_region_held_drew (S := (fun w' => (w'.cell? ⟨w.heap.size, 0, none⟩ = some (.slice A0 P.init.length c0) ∧ w'.cell? ⟨w.heap.size, 1, none⟩ = some (.slice (some ⟨b1, f1, none⟩) P.ths.length c1) ∧ w'.cell? ⟨b1, f1 + k, none⟩ = some (.slice (some ⟨b3, f3, none⟩) ss.length c3) ∧ w'.cell? ⟨b3, f3 + m * 5, none⟩ = some (.int .i64 x.op) ∧ w'.cell? ⟨b3, f3 + m * 5 + 1, none⟩ = some (.int .i64 x.reg) ∧ w'.cell? ⟨b3, f3 + m * 5 + 2, none⟩ = some (.int .i64 x.loc) ∧ w'.cell? ⟨b3, f3 + m * 5 + 3, none⟩ = some (.int .i64 x.n) ∧ w'.cell? ⟨b3, f3 + m * 5 + 4, none⟩ = some (.int .i64 x.to)) ∧ Below w.heap.size w w')) (by kernel_rfl) ⟨⟨t0, t1, y1, z0, z1, z2, z3, z4⟩, below_drewN hB3 1⟩ (fun hHeld => ?_)
          refine wpAnyH_take (i := 0) (v := ?_) rfl (by kernel_rfl) (by kernel_rfl) (by kernel_rfl) (fun _ _ _ h => h) (Or.inl ⟨by rfl, ?_⟩) (by assumption) ?_
          rotate_left
          · intro w hSw; (try dsimp only at hSw); go_simp; (try with_reducible rfl)
          (try simp only [Act.put, pt8])
          refine wpAnyH_take (i := 1) (v := ?_) rfl (by kernel_rfl) (by kernel_rfl) (by kernel_rfl) (fun _ _ _ h => h) (Or.inl ⟨by rfl, ?_⟩) (by assumption) ?_
          rotate_left
          · intro w hSw; (try dsimp only at hSw); go_simp; (try with_reducible rfl)
          (try simp only [Act.put, pt8])
          refine wpAnyH_take (i := 2) (v := ?_) rfl (by kernel_rfl) (by kernel_rfl) (by kernel_rfl) (fun _ _ _ h => h) (Or.inl ⟨by rfl, ?_⟩) (by assumption) ?_
          rotate_left
          · intro w hSw; (try dsimp only at hSw); go_simp; (try with_reducible rfl)
          (try simp only [Act.put, pt8])
          refine wpAnyH_take (i := 3) (v := ?_) rfl (by kernel_rfl) (by kernel_rfl) (by kernel_rfl) (fun _ _ _ h => h) (Or.inl ⟨by rfl, ?_⟩) (by assumption) ?_
          rotate_left
          · intro w hSw; (try dsimp only at hSw); go_simp; (try with_reducible rfl)
          (try simp only [Act.put, pt8])
          refine wpAnyH_take (i := 4) (v := ?_) rfl (by kernel_rfl) (by kernel_rfl) (by kernel_rfl) (fun _ _ _ h => h) (Or.inl ⟨by rfl, ?_⟩) (by assumption) ?_
          rotate_left
          · intro w hSw; (try dsimp only at hSw); go_simp; (try with_reducible rfl)
          (try simp only [Act.put, pt8])
          refine wpAnyH_take (i := 5) (v := ?_) rfl (by kernel_rfl) (by kernel_rfl) (by kernel_rfl) (fun _ _ _ h => h) (Or.inl ⟨by rfl, ?_⟩) (by assumption) ?_
          rotate_left
          · intro w hSw; (try dsimp only at hSw); go_simp; (try with_reducible rfl)
          (try simp only [Act.put, pt8])
          refine wpAnyH_take (i := 6) (v := ?_) rfl (by kernel_rfl) (by kernel_rfl) (by kernel_rfl) (fun _ _ _ h => h) (Or.inl ⟨by rfl, ?_⟩) (by assumption) ?_
          rotate_left
          · intro w hSw; (try dsimp only at hSw); go_simp; (try with_reducible rfl)
          (try simp only [Act.put, pt8])
          refine wpAnyH_take (i := 7) (v := ?_) rfl (by kernel_rfl) (by kernel_rfl) (by kernel_rfl) (fun _ _ _ h => h) (Or.inl ⟨by rfl, ?_⟩) (by assumption) ?_
          rotate_left
          · intro w hSw; (try dsimp only at hSw); go_simp; (try with_reducible rfl)
          (try simp only [Act.put, pt8])
          refine wpAnyH_take (i := 8) (v := ?_) rfl (by kernel_rfl) (by kernel_rfl) (by kernel_rfl) (fun _ _ _ h => h) (Or.inl ⟨by rfl, ?_⟩) (by assumption) ?_
          rotate_left
          · intro w hSw; (try dsimp only at hSw); go_simp; (try with_reducible rfl)
          (try simp only [Act.put, pt8])
          refine wpAnyH_take (i := 9) (v := ?_) rfl (by kernel_rfl) (by kernel_rfl) (by kernel_rfl) (fun _ _ _ h => h) (Or.inl ⟨by rfl, ?_⟩) (by assumption) ?_
          rotate_left
          · intro w hSw; (try dsimp only at hSw); go_simp; (try with_reducible rfl)
          (try simp only [Act.put, pt8])
          refine wpAnyH_take (i := 10) (v := ?_) rfl (by kernel_rfl) (by kernel_rfl) (by kernel_rfl) (fun _ _ _ h => h) (Or.inl ⟨by rfl, ?_⟩) (by assumption) ?_
          rotate_left
          · intro w hSw; (try dsimp only at hSw); go_simp; (try with_reducible rfl)
          (try simp only [Act.put, pt8])
          refine wpAnyH_take (i := 11) (v := ?_) rfl (by kernel_rfl) (by kernel_rfl) (by kernel_rfl) (fun _ _ _ h => h) (Or.inl ⟨by rfl, ?_⟩) (by assumption) ?_
          rotate_left
          · intro w hSw; (try dsimp only at hSw); go_simp; (try with_reducible rfl)
          (try simp only [Act.put, pt8])
          refine wpAnyH_take (i := 12) (v := ?_) rfl (by kernel_rfl) (by kernel_rfl) (by kernel_rfl) (fun _ _ _ h => h) (Or.inl ⟨by rfl, ?_⟩) (by assumption) ?_
          rotate_left
          · intro w hSw; (try dsimp only at hSw); go_simp; (try with_reducible rfl)
          (try simp only [Act.put, pt8])
          refine wpAnyH_take (i := 13) (v := ?_) rfl (by kernel_rfl) (by kernel_rfl) (by kernel_rfl) (fun _ _ _ h => h) (Or.inl ⟨by rfl, ?_⟩) (by assumption) ?_
          rotate_left
          · intro w hSw; (try dsimp only at hSw); go_simp; (try with_reducible rfl)
          (try simp only [Act.put, pt8])
          refine wpAnyH_take (i := 14) (v := ?_) rfl (by kernel_rfl) (by kernel_rfl) (by kernel_rfl) (fun _ _ _ h => h) (Or.inl ⟨by rfl, ?_⟩) (by assumption) ?_
          rotate_left
          · intro w hSw; (try dsimp only at hSw); go_simp; (try with_reducible rfl)
          (try simp only [Act.put, pt8])
          refine wpAnyH_take (i := 15) (v := ?_) rfl (by kernel_rfl) (by kernel_rfl) (by kernel_rfl) (fun _ _ _ h => h) (Or.inl ⟨by rfl, ?_⟩) (by assumption) ?_
          rotate_left
          · intro w hSw; (try dsimp only at hSw); go_simp; (try with_reducible rfl)
          (try simp only [Act.put, pt8])
          refine wpAnyH_ready (rs := [16]) (by kernel_rfl) (by simp) ?_
          refine AllReadyH.cons rfl (fun K hK => ?_) AllReadyH.nil
          go_simp
          refine (HS.out _).mono ?_
          rintro e wa ⟨rfl, hba⟩
          have HBa := Lib.hid (chain hHeld.2 hba)
          have HWW := Lib.hid ((below_drewN HW3.out 1).trans (hba.mono (W1_size w (.slice A0 P.init.length c0) (.slice (some ⟨b1, f1, none⟩) P.ths.length c1) ▸ (below_drewN HW3.out 1).size)))
          obtain ⟨q0, q1, q2, q3, q4, q5, q6, q7⟩ := hHeld.1
          refine hK.out _ _ ⟨⟨kc hba q0, kc hba q1, kc hba q2, kc hba q3, kc hba q4, kc hba q5, kc hba q6, kc hba q7⟩, HBa.out⟩ (fun hHeld => ?_)
          clear hba q0 q1 q2 q3 q4 q5 q6 q7
          clear hK K
          (try simp only [Act.put, pt8])
          refine wpAnyH_take (i := 17) (v := ?_) rfl (by kernel_rfl) (by kernel_rfl) (by kernel_rfl) (fun _ _ _ h => h) (Or.inl ⟨by rfl, ?_⟩) (by assumption) ?_
          rotate_left
          · intro w hSw; (try dsimp only at hSw); go_simp; (try with_reducible rfl)
          (try simp only [Act.put, pt8])
          refine wpAnyH_done (by kernel_rfl) ?_ _
          have HWa := Lib.hid (show Below (w.heap.size + 1) (W1 w (.slice A0 P.init.length c0) (.slice (some ⟨b1, f1, none⟩) P.ths.length c1)) wa from HWW.out)
          cases q
          · go_wp2
            go_ret
            exact ⟨ret_boolc (HNs.out (by trivial)).symm, HBa.out⟩
          · go_wp2
            go_roundw
            case rel => exact ⟨m + 1, by omega, by go_num, HYs.out (by trivial), HBa.out, HWa.out⟩
            case measure => simp [intOf]; omega
        · obtain rfl : ss.length = m := by omega
          have HE := Lib.hid (HY.out (CodM.rightT_all hs8 (fun j hj => HAl.out j hj hj)))
          clear he3
          go_wp2
          refine ⟨⟨k + 1, by omega, by go_num, HE.out, hB3, hW3⟩, by simp [intOf]; omega⟩
    · obtain rfl : P.ths.length = k := by omega
      have HE := Lib.hid (rightP_all HF.out (fun j hj => HA.out j hj hj))
      clear h3
      go_wp2
      go_ret
      exact ⟨ret_boolc HE.out.symm, hB2⟩
end Go.Proofs.Ytbffjhdocicfoaa
