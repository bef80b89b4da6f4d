/-
  THE DOCUMENT's ahead, At, Line, place of layer 7.
-/
import Derived.Test.YtmpiapmfdmllkaaGreatDoorCd2
namespace Go.Proofs.YtmpiapmfdmllkaaGreatDoor
open Go.RowKit
set_option linter.unusedVariables false
set_option linter.unusedSimpArgs false
open WordM (L)
open VM
open CodM (St Pg hasS cnt atI lineI lnP pos0 locN)

set_option maxHeartbeats 4000000 in
theorem rahead_any {B : Nat} {v : Value} {ls : List OpsM.Ln} (w : World) (h : Lns B w v ls) (hBB : B ≤ w.heap.size) :
    Calls Tryz.prog 43 #[v] w fun e w' => e = .returned (.int .i64 (cnt ls : Nat)) ∧ w = w' := by
  obtain ⟨A1, c1, rfl, h1, h2, h3⟩ := h
  unfold maxLen at h2
  go_enter Tryz.func43, Tryz.ntmps43
  go_wp2
  go_loop [3, 4] (fun n i => (∃ k m : Nat, k ≤ ls.length ∧ i = .int .i64 k ∧ m = cnt (ls.take k) ∧ m ≤ k ∧ n = .int .i64 m)) (fun _ i => ls.length - (intOf i).toNat)
  case atStart => exact ⟨0, 0, Nat.zero_le _, rfl, rfl, Nat.le_refl _, rfl⟩
  case round =>
    obtain ⟨k, m, hk, rfl, hm, hmk, rfl⟩ := hrel
    have HM := Lib.hid hm
    clear hm
    by_cases hlt : k < ls.length
    · obtain ⟨b1, f1, rfl, hb1, hcl⟩ := h3 (by omega)
      obtain ⟨z0, z1, z2, z3, z4⟩ := hcl k hlt
      have HTS := Lib.hid (CodM.cnt_take ls k hlt)
      obtain ⟨x, hx⟩ : ∃ x, x = ls[k] := ⟨_, rfl⟩
      rw [← hx] at z0 z1 z2 z3 z4 HTS
      clear hx hcl h3
      by_cases ho : x.op = 11
      · have q : (x.op != 11) = false := by simp [ho]
        have HE := Lib.hid (show cnt (ls.take (k + 1)) = m by rw [HTS.out, HM.out, show hasS x = false by unfold CodM.hasS; simp [ho]]; rfl)
        clear ho HTS
        go_wp2
        go_round
        case rel => exact ⟨k + 1, m, by omega, by go_num, HE.out.symm, by omega, rfl⟩
        case measure => simp [intOf]; omega
      · have q : (x.op != 11) = true := by simpa using ho
        have HE := Lib.hid (show cnt (ls.take (k + 1)) = m + 1 by rw [HTS.out, HM.out, show hasS x = true by unfold CodM.hasS; simp [ho]]; rfl)
        clear ho HTS
        go_wp2
        go_round
        case rel => exact ⟨k + 1, m + 1, by omega, by go_num, HE.out.symm, by omega, by go_num⟩
        case measure => simp [intOf]; omega
    · obtain rfl : ls.length = k := by omega
      rw [List.take_length] at HM
      clear h3
      go_wp2
      go_ret
      exact ⟨ret_int (by rw [HM.out]), rfl⟩
set_option maxHeartbeats 4000000 in
set_option maxRecDepth 100000 in
theorem rat_any {B : Nat} {v : Value} {F : Fl} (t k : Int) (w : World) (hv : FlV B w v F) (hBB : B ≤ w.heap.size) :
    Calls Tryz.prog 16 #[v, .int .i64 t, .int .i64 k] w fun e w' => e = .returned (.int .i64 (atI F t k)) ∧ Below w.heap.size w w' := by
  obtain ⟨vi, vt, vc, rfl, hmi, hmt, hmc⟩ := hv
  unfold flv
  obtain ⟨A2, c2, rfl, h1, h2, h3⟩ := hmt
  unfold maxLen at h2
  have hB := below_al (Below.refl w.heap.size w) (.cells #[.string ⟨F.name.toArray⟩, vi, .slice A2 F.ths.length c2, .bool F.all, vc] 26)
  clear hmi hmc
  by_cases h0 : t < 0
  · have HE := Lib.hid (show atI F t k = -1 from atI_out (by omega))
    go_enter Tryz.func16, Tryz.ntmps16
    go_wp2
    go_ret
    exact ⟨ret_int HE.out.symm, hB⟩
  obtain ⟨i, rfl⟩ := Int.eq_ofNat_of_zero_le (show 0 ≤ t by omega)
  by_cases hi : i < F.ths.length
  case neg =>
    have HE := Lib.hid (show atI F i k = -1 from atI_out (by omega))
    have q : decide (F.ths.length ≤ i) = true := decide_eq_true (by omega)
    clear h3
    go_enter Tryz.func16, Tryz.ntmps16
    go_wp2
    go_ret
    exact ⟨ret_int HE.out.symm, hB⟩
  obtain ⟨b1, f1, rfl, hb1, hcl⟩ := h3 (by omega)
  obtain ⟨u, z0, hL⟩ := (hcl i hi).below (hB.mono hBB) hb1
  have HO := Lib.hid (@atI_off F i k hi)
  have HI := Lib.hid (fun (q : Nat) (h : q ≤ F.ths[i].length) => atI_in hi h)
  obtain ⟨ls, hx⟩ : ∃ x, x = F.ths[i] := ⟨_, rfl⟩
  rw [← hx] at hL HO HI
  obtain ⟨A3, c3, rfl, e1, e2, e3⟩ := id hL
  unfold maxLen at e2
  have HL := Lib.hid hL
  have q : decide (F.ths.length ≤ i) = false := decide_eq_false (by omega)
  clear hx hcl h3 hL e3
  by_cases hk0 : k < 0
  · have HE := Lib.hid (HO.out (by omega))
    go_enter Tryz.func16, Tryz.ntmps16
    go_wp2
    go_ret
    exact ⟨ret_int HE.out.symm, hB⟩
  obtain ⟨m, rfl⟩ := Int.eq_ofNat_of_zero_le (show 0 ≤ k by omega)
  by_cases hm : m ≤ ls.length
  · have HE := Lib.hid (HI.out m hm)
    have HC := Lib.hid (rahead_any _ (HL.out.take m hm) (Nat.le_trans hBB hB.size))
    have q2 : decide (ls.length < m) = false := decide_eq_false (by omega)
    clear HI HO
    go_enter Tryz.func16, Tryz.ntmps16
    go_wp2_with fail
    refine HC.out.mono ?_
    rintro e w1 ⟨rfl, rfl⟩
    go_wp2
    go_ret
    exact ⟨ret_int HE.out.symm, hB⟩
  · have HE := Lib.hid (HO.out (by omega))
    have q2 : decide (ls.length < m) = true := decide_eq_true (by omega)
    clear HI HO
    go_enter Tryz.func16, Tryz.ntmps16
    go_wp2
    go_ret
    exact ⟨ret_int HE.out.symm, hB⟩
set_option maxHeartbeats 4000000 in
set_option maxRecDepth 100000 in
theorem rline7_any {B : Nat} {v : Value} {F : Fl} (t a : Int) (w : World) (hv : FlV B w v F) (hBB : B ≤ w.heap.size) :
    Calls Tryz.prog 18 #[v, .int .i64 t, .int .i64 a] w fun e w' => e = .returned (.int .i64 (lineI F t a)) ∧ Below w.heap.size w w' := by
  obtain ⟨vi, vt, vc, rfl, hmi, hmt, hmc⟩ := hv
  unfold flv
  obtain ⟨A2, c2, rfl, h1, h2, h3⟩ := hmt
  unfold maxLen at h2
  have hB := below_al (Below.refl w.heap.size w) (.cells #[.string ⟨F.name.toArray⟩, vi, .slice A2 F.ths.length c2, .bool F.all, vc] 26)
  clear hmi hmc
  by_cases h0 : t < 0
  · have HE := Lib.hid (show lineI F t a = -1 from lineI_out (by omega))
    go_enter Tryz.func18, Tryz.ntmps18
    go_wp2
    go_ret
    exact ⟨ret_int HE.out.symm, hB⟩
  obtain ⟨i, rfl⟩ := Int.eq_ofNat_of_zero_le (show 0 ≤ t by omega)
  by_cases hi : i < F.ths.length
  case neg =>
    have HE := Lib.hid (show lineI F i a = -1 from lineI_out (by omega))
    have q : decide (F.ths.length ≤ i) = true := decide_eq_true (by omega)
    clear h3
    go_enter Tryz.func18, Tryz.ntmps18
    go_wp2
    go_ret
    exact ⟨ret_int HE.out.symm, hB⟩
  obtain ⟨b1, f1, rfl, hb1, hcl⟩ := h3 (by omega)
  obtain ⟨u, z0, hL⟩ := (hcl i hi).below (hB.mono hBB) hb1
  have HI := Lib.hid (@lineI_in F i a hi)
  obtain ⟨ls, hx⟩ : ∃ x, x = F.ths[i] := ⟨_, rfl⟩
  rw [← hx] at hL HI
  obtain ⟨A3, c3, rfl, e1, e2, e3⟩ := hL
  unfold maxLen at e2
  have q : decide (F.ths.length ≤ i) = false := decide_eq_false (by omega)
  clear hx hcl h3
  go_enter Tryz.func18, Tryz.ntmps18
  go_wp2
  go_loop [8, 9] (fun n i => (∃ k m : Nat, k ≤ ls.length ∧ i = .int .i64 k ∧ m = cnt (ls.take k) ∧ m ≤ k ∧ n = .int .i64 m ∧ (∀ j (hj : j < ls.length), j < k → hasS ls[j] = true → ¬ (cnt (ls.take j) : Int) = a))) (fun _ i => ls.length - (intOf i).toNat)
  case atStart => exact ⟨0, 0, Nat.zero_le _, rfl, rfl, Nat.le_refl _, rfl, fun j _ h => absurd h (Nat.not_lt_zero j)⟩
  case round =>
    obtain ⟨k, m, hk, rfl, hcm, hmk, rfl, hall⟩ := hrel
    have HCM := Lib.hid hcm
    have HAL := Lib.hid hall
    clear hcm hall
    by_cases hlt : k < ls.length
    · obtain ⟨b3, f3, rfl, hb3, hcl⟩ := e3 (by omega)
      obtain ⟨z0, z1, z2, z3, z4⟩ := hcl k hlt
      have HTS := Lib.hid (CodM.cnt_take ls k hlt)
      have HH := Lib.hid (fun (h1 : hasS ls[k] = true) (h2 : (m : Int) = a) => show lineI F i a = k by rw [HI.out]; exact CodM.lnP_hit hlt h1 (by rw [← HCM.out]; exact h2))
      have HY := Lib.hid (fun (h : ¬ (hasS ls[k] = true ∧ (m : Int) = a)) (j : Nat) (hj : j < ls.length) (hjk : j < k + 1) => show hasS ls[j] = true → ¬ (cnt (ls.take j) : Int) = a by
        by_cases e : j = k
        · subst e; rw [← HCM.out]; exact fun h1 h2 => h ⟨h1, h2⟩
        · exact HAL.out j hj (by omega))
      obtain ⟨x, hx⟩ : ∃ x, x = ls[k] := ⟨_, rfl⟩
      rw [← hx] at z0 z1 z2 z3 z4 HTS HH HY
      clear hx hcl e3 HAL
      by_cases ho : x.op = 11
      · have q1 : (x.op == 11) = true := by simp [ho]
        have hs : hasS x = false := by unfold CodM.hasS; simp [ho]
        rw [hs] at HTS HY
        clear ho hs HH
        go_wp2
        refine ⟨⟨k + 1, m, by omega, by go_num, by rw [HTS.out, ← HCM.out]; rfl, by omega, rfl, HY.out (by simp)⟩, by simp [intOf]; omega⟩
      · have q1 : (x.op == 11) = false := by simpa using ho
        have hs : hasS x = true := by unfold CodM.hasS; simp [ho]
        rw [hs] at HTS HY HH
        clear ho hs
        by_cases he : (m : Int) = a
        · have q2 : ((m : Int) == a) = true := by simp [he]
          have HE := Lib.hid (HH.out (by trivial) he)
          clear he HH HY
          go_wp2
          go_ret
          exact ⟨ret_int HE.out.symm, hB⟩
        · have q2 : ((m : Int) == a) = false := by simpa using he
          have HE := Lib.hid (HY.out (fun c => he c.2))
          clear he HH HY
          go_wp2
          go_round
          case rel => exact ⟨k + 1, m + 1, by omega, by go_num, by rw [HTS.out, ← HCM.out]; rfl, by omega, by go_num, HE.out⟩
          case measure => simp [intOf]; omega
    · obtain rfl : ls.length = k := by omega
      have HE := Lib.hid (show lineI F i a = -1 by rw [HI.out]; exact CodM.lnP_none (fun j hj => HAL.out j hj hj))
      clear e3
      go_wp2
      go_ret
      exact ⟨ret_int HE.out.symm, hB⟩
set_option maxHeartbeats 4000000 in
set_option maxRecDepth 100000 in
theorem place_any {B : Nat} {v : Value} {ls : List L} (s : L) (w : World) (h : Strs B w v ls) :
    Calls Tryz.prog 38 #[v, .string ⟨s.toArray⟩] w fun e w' => e = .returned (.int .i64 (locN ls s : Nat)) ∧ w = w' := by
  obtain ⟨A1, c1, rfl, ha1, ha2, ha3⟩ := h
  unfold maxLen at ha2
  go_enter Tryz.func38, Tryz.ntmps38
  go_wp2
  go_loop [5] (fun i => IxRel ls s i) (fun i => ls.length - (intOf i).toNat)
  case atStart => exact ⟨0, Nat.zero_le _, rfl, fun j _ h => absurd h (Nat.not_lt_zero j)⟩
  case round =>
    obtain ⟨k, hk, rfl, hall⟩ := hrel
    have HA := Lib.hid hall
    clear hall
    by_cases hlt : k < ls.length
    · obtain ⟨b1, f1, rfl, hb1, hcl⟩ := ha3 (by omega)
      have e1 := hcl k hlt
      unfold sv at e1
      have HN := Lib.hid (fun (h : decide (ls[k] = s) = true) => show locN ls s = k from CodM.pos0_hit (p := fun x => decide (x = s)) hlt HA.out h)
      have HY := Lib.hid (fun (h : decide (ls[k] = s) = false) (j : Nat) (hj : j < ls.length) (hjk : j < k + 1) => show decide (ls[j] = s) = false by
        by_cases e : j = k
        · subst e; exact h
        · exact HA.out j hj (by omega))
      have q : (ls[k] == s) = decide (ls[k] = s) := beq_dec _ _
      generalize decide (ls[k] = s) = d at *
      obtain ⟨x, hx⟩ : ∃ x, x = ls[k] := ⟨_, rfl⟩
      rw [← hx] at e1 q
      clear hx hcl ha3 HA
      cases d
      · go_wp2
        go_round
        case rel => exact ⟨k + 1, by omega, by go_num, HY.out (by trivial)⟩
        case measure => simp [intOf]; omega
      · go_wp2
        go_ret
        exact ⟨ret_int (by rw [HN.out (by trivial)]), rfl⟩
    · obtain rfl : ls.length = k := by omega
      have HE := Lib.hid (show locN ls s = 0 from CodM.pos0_none (p := fun x => decide (x = s)) (fun j hj => HA.out j hj hj))
      clear ha3
      go_wp2
      go_ret
      exact ⟨ret_int (by rw [HE.out]; rfl), rfl⟩
end Go.Proofs.YtmpiapmfdmllkaaGreatDoor
