/-
  THE DOCUMENT's Has, Count, Many, Of, Num of layer 8.
-/
import Derived.Test.YtaelfjphgdlbcaaM05
import Derived.Test.YtaelfjphgdlbcaaM03
namespace Go.Proofs.Ytaelfjphgdlbcaa
open Go.RowKit
set_option linter.unusedVariables false
set_option linter.unusedSimpArgs false
open WordM (L)
open CodM (St Pg hasS)
open SlM

set_option maxHeartbeats 4000000 in
theorem rhas_any {B : Nat} {v : Value} {g : List Int} (n : Int) (w : World) (hg : Ints B w v g) (hBB : B ≤ w.heap.size) :
    Calls Try.prog 29 #[v, .int .i64 n] w fun e w' => e = .returned (.bool (has g n)) ∧ w = w' := by
  obtain ⟨A1, c1, rfl, h1, h2, h3⟩ := hg
  unfold maxLen at h2
  go_enter Try.func29, Try.ntmps29
  go_wp2
  go_loop [5] (fun i => (∃ k : Nat, k ≤ g.length ∧ i = .int .i64 k ∧ has (g.take k) n = false)) (fun i => g.length - (intOf i).toNat)
  case atStart => exact ⟨0, Nat.zero_le _, rfl, rfl⟩
  case round =>
    obtain ⟨k, hk, rfl, hm⟩ := hrel
    have HM := Lib.hid hm
    clear hm
    by_cases hlt : k < g.length
    · obtain ⟨b1, f1, rfl, hb1, hcl⟩ := h3 (by omega)
      have z0 := hcl k hlt
      unfold IntAt at z0
      have HT := Lib.hid (has_take g k hlt n)
      rw [HM.out] at HT
      have HY := Lib.hid (fun (e : g[k] = n) => show has g n = true from (has_mem g n).2 (e ▸ List.getElem_mem hlt))
      obtain ⟨x, hx⟩ : ∃ x, x = g[k] := ⟨_, rfl⟩
      rw [← hx] at z0 HT HY
      clear hx hcl h3
      by_cases he : x = n
      · have HE := Lib.hid (HY.out he)
        subst he
        clear HY HT
        go_wp2
        go_ret
        exact ⟨by rw [HE.out]; rfl, rfl⟩
      · have q : (x == n) = false := beq_eq_false_iff_ne.2 he
        have HE := Lib.hid (show has (g.take (k + 1)) n = false by rw [HT.out, q]; rfl)
        clear HY HT
        go_wp2
        go_round
        case rel => exact ⟨k + 1, by omega, by go_num, HE.out⟩
        case measure => simp [intOf]; omega
    · obtain rfl : g.length = k := by omega
      rw [List.take_length] at HM
      clear h3
      go_wp2
      go_ret
      exact ⟨by rw [HM.out]; rfl, rfl⟩
set_option maxHeartbeats 4000000 in
theorem rcount_any {B : Nat} {v : Value} {g : List Int} (fr m : Nat) (w : World) (hg : Ints B w v g) (hBB : B ≤ w.heap.size) (hf : fr ≤ 1000000) (hm : m ≤ 1000000) :
    Calls Try.prog 51 #[v, .int .i64 fr, .int .i64 m] w fun e w' => e = .returned (.int .i64 (cntC (fun i => has g ((fr + i : Nat) : Int)) m : Nat)) ∧ w = w' := by
  have HH := Lib.hid (fun n => rhas_any n w hg hBB)
  obtain ⟨f, hf'⟩ : ∃ f : Nat → Bool, f = fun i => has g ((fr + i : Nat) : Int) := ⟨_, rfl⟩
  have HF := Lib.hid (fun k => show has g ((fr + k : Nat) : Int) = f k from by rw [hf'])
  rw [← hf']
  clear hf'
  obtain ⟨A1, c1, rfl, h1, h2, h3⟩ := hg
  clear h3
  go_enter Try.func51, Try.ntmps51
  go_wp2
  go_loop [7, 8] (fun n i => (∃ k q : Nat, k ≤ m ∧ i = .int .i64 k ∧ q = cntC f k ∧ q ≤ k ∧ n = .int .i64 q)) (fun _ i => m - (intOf i).toNat)
  case atStart => exact ⟨0, 0, Nat.zero_le _, rfl, rfl, Nat.le_refl _, rfl⟩
  case round =>
    obtain ⟨k, q, hk, rfl, hq, hqk, rfl⟩ := hrel
    have HQ := Lib.hid hq
    clear hq
    by_cases hlt : k < m
    · have HN := Lib.hid (show cntC f (k + 1) = q + if f k then 1 else 0 from by rw [cntC, ← HQ.out])
      have HHk := Lib.hid (HH.out ((fr + k : Nat) : Int))
      rw [HF.out k] at HHk
      cases hb : f k
      · rw [hb] at HN HHk
        have HE := Lib.hid (show q = cntC f (k + 1) from by rw [HN.out]; rfl)
        clear hb HN
        go_wp2_with fail
        refine HHk.out.mono ?_
        rintro e w1 ⟨rfl, rfl⟩
        go_wp2
        go_round
        case rel => exact ⟨k + 1, q, by omega, by go_num, HE.out, by omega, rfl⟩
        case measure => simp [intOf]; omega
      · rw [hb] at HN HHk
        have HE := Lib.hid (show q + 1 = cntC f (k + 1) from by rw [HN.out]; rfl)
        clear hb HN
        go_wp2_with fail
        refine HHk.out.mono ?_
        rintro e w1 ⟨rfl, rfl⟩
        go_wp2
        go_round
        case rel => exact ⟨k + 1, q + 1, by omega, by go_num, HE.out, by omega, by go_num⟩
        case measure => simp [intOf]; omega
    · obtain rfl : m = k := by omega
      clear HH
      go_wp2
      go_ret
      exact ⟨ret_int (by rw [HQ.out]), rfl⟩
theorem ahd_le {ths : List (List St)} (hll : ∀ ss ∈ ths, ss.length ≤ 1000000) : ∀ k, k ≤ ths.length → ahd anyS ths k ≤ k * 1000000
  | 0, _ => by rw [ahd_zero]; exact Nat.zero_le _
  | k + 1, h => by
    have h1 := ahd_le hll k (by omega)
    have h2 := hll _ (List.getElem_mem (show k < ths.length by omega))
    rw [ahd_any ths (show k < ths.length by omega)]; omega
set_option maxHeartbeats 4000000 in
theorem rmany_any {B : Nat} {v : Value} {P : Pg} (w : World) (hv : PgV B w v P) (hBB : B ≤ w.heap.size) (hl : P.ths.length ≤ 1000000) (hll : ∀ ss ∈ P.ths, ss.length ≤ 1000000) :
    Calls Try.prog 18 #[v] w fun e w' => e = .returned (.int .i64 (many anyS P.ths : Nat)) ∧ Below w.heap.size w w' := by
  obtain ⟨vi, vt, rfl, ⟨A0, c0, rfl, -⟩, ⟨A1, c1, rfl, h1, h2, h3⟩⟩ := hv
  unfold maxLen at h2
  have hB := below_al (Below.refl w.heap.size w) (.cells #[.slice A0 P.init.length c0, .slice A1 P.ths.length c1] 25)
  have hbx := Lib.hid (PgBox.at (w := w) rfl (.slice A0 P.init.length c0) (.slice A1 P.ths.length c1) 25)
  obtain ⟨t0, t1⟩ := hbx.out
  have HAL := Lib.hid (ahd_le hll)
  have HLL := Lib.hid hll
  clear hll
  go_enter Try.func18, Try.ntmps18
  go_wp2
  go_loop [3, 4] (fun n i => (∃ k m : Nat, k ≤ P.ths.length ∧ i = .int .i64 k ∧ m = ahd anyS P.ths k ∧ m ≤ k * 1000000 ∧ n = .int .i64 m)) (fun _ i => P.ths.length - (intOf i).toNat)
  case atStart => exact ⟨0, 0, Nat.zero_le _, rfl, rfl, Nat.zero_le _, rfl⟩
  case round =>
    obtain ⟨k, m, hk, rfl, hm, hmk, rfl⟩ := hrel
    have HM := Lib.hid hm
    clear hm
    by_cases hlt : k < P.ths.length
    · obtain ⟨b1, f1, rfl, hb1, hcl⟩ := h3 (by omega)
      obtain ⟨u, z0, hS⟩ := (hcl k hlt).below (hB.mono hBB) hb1
      have HE := Lib.hid (show m + P.ths[k].length = ahd anyS P.ths (k + 1) from by rw [ahd_any P.ths hlt, ← HM.out])
      have hle := HLL.out _ (List.getElem_mem hlt)
      obtain ⟨ss, hx⟩ : ∃ x, x = P.ths[k] := ⟨_, rfl⟩
      rw [← hx] at hS HE hle
      obtain ⟨A3, c3, rfl, -⟩ := hS
      clear hx hcl h3 HAL
      go_wp2
      go_round
      case rel => exact ⟨k + 1, m + ss.length, by omega, by go_num, HE.out, by omega, by go_num⟩
      case measure => simp [intOf]; omega
    · obtain rfl : P.ths.length = k := by omega
      clear h3 HAL
      go_wp2
      go_ret
      exact ⟨ret_int (by rw [HM.out]; rfl), hB⟩
set_option maxHeartbeats 4000000 in
theorem rof_any {B : Nat} {v : Value} {P : Pg} (n : Int) (w : World) (hv : PgV B w v P) (hBB : B ≤ w.heap.size) (hl : P.ths.length ≤ 1000000) (hll : ∀ ss ∈ P.ths, ss.length ≤ 1000000) (hn : n ≤ 9223372036854775807) :
    Calls Try.prog 14 #[v, .int .i64 n] w fun e w' => (∃ r : Pl, e = .returned (.tuple #[.int .i64 r.t, .int .i64 r.k, .bool r.is]) ∧ IsOf P.ths n r) ∧ Below w.heap.size w w' := by
  obtain ⟨vi, vt, rfl, ⟨A0, c0, rfl, -⟩, ⟨A1, c1, rfl, h1, h2, h3⟩⟩ := hv
  unfold maxLen at h2
  have hB := below_al (Below.refl w.heap.size w) (.cells #[.slice A0 P.init.length c0, .slice A1 P.ths.length c1] 25)
  have hbx := Lib.hid (PgBox.at (w := w) rfl (.slice A0 P.init.length c0) (.slice A1 P.ths.length c1) 25)
  obtain ⟨t0, t1⟩ := hbx.out
  have HLL := Lib.hid hll
  clear hll
  go_enter Try.func14, Try.ntmps14
  go_wp2
  go_loop [7, 8] (fun fr i => (∃ k m : Nat, k ≤ P.ths.length ∧ i = .int .i64 k ∧ m = ahd anyS P.ths k ∧ m ≤ k * 1000000 ∧ fr = .int .i64 m ∧ (n < 0 ∨ (m : Int) ≤ n))) (fun _ i => P.ths.length - (intOf i).toNat)
  case atStart => exact ⟨0, 0, Nat.zero_le _, rfl, rfl, Nat.zero_le _, rfl, by omega⟩
  case round =>
    obtain ⟨k, m, hk, rfl, hm, hmk, rfl, hno⟩ := hrel
    have HM := Lib.hid hm
    clear hm
    by_cases hlt : k < P.ths.length
    · obtain ⟨b1, f1, rfl, hb1, hcl⟩ := h3 (by omega)
      obtain ⟨u, z0, hS⟩ := (hcl k hlt).below (hB.mono hBB) hb1
      have HE := Lib.hid (show m + P.ths[k].length = ahd anyS P.ths (k + 1) from by rw [ahd_any P.ths hlt, ← HM.out])
      have hle := HLL.out _ (List.getElem_mem hlt)
      have HH := Lib.hid (fun (q : Nat) (hq : n = ((m + q : Nat) : Int)) (hql : q < P.ths[k].length) => show IsOf P.ths n ⟨(k : Nat), (q : Nat), true⟩ from .inr ⟨k, q, hlt, hql, by rw [hq, ← HM.out], rfl⟩)
      obtain ⟨ss, hx⟩ : ∃ x, x = P.ths[k] := ⟨_, rfl⟩
      rw [← hx] at hS HE hle HH
      obtain ⟨A3, c3, rfl, -⟩ := hS
      clear hx hcl h3
      by_cases hmn : (m : Int) ≤ n
      · obtain ⟨q, hq⟩ : ∃ q : Nat, n = ((m + q : Nat) : Int) := ⟨(n - m).toNat, by omega⟩
        have HQ := Lib.hid hq
        have q1 : decide ((m : Int) ≤ n) = true := decide_eq_true hmn
        by_cases hql : n - (m : Int) < ss.length
        · have q2 : decide (n - (m : Int) < ss.length) = true := decide_eq_true hql
          have HI := Lib.hid (HH.out q hq (by omega))
          clear HH hq hno
          go_wp2
          refine bodyPost_ret (v := .tuple #[.int .i64 k, .int .i64 (n - m), .bool true]) (by simp [results, Try.results14, go_sem]) rfl ⟨⟨⟨k, q, true⟩, by have := HQ.out; rw [show n - (m : Int) = q by omega], HI.out⟩, hB⟩
        · have q2 : decide (n - (m : Int) < ss.length) = false := decide_eq_false hql
          have hno2 : n < 0 ∨ ((m + ss.length : Nat) : Int) ≤ n := by omega
          have HNO := Lib.hid hno2
          clear HH hq hno hno2
          go_wp2
          go_round
          case rel => exact ⟨k + 1, m + ss.length, by omega, by go_num, HE.out, by omega, by go_num, HNO.out⟩
          case measure => simp [intOf]; omega
      · have q1 : decide ((m : Int) ≤ n) = false := decide_eq_false hmn
        have hno2 : n < 0 ∨ ((m + ss.length : Nat) : Int) ≤ n := by omega
        have HNO := Lib.hid hno2
        clear HH hno hno2
        go_wp2
        go_round
        case rel => exact ⟨k + 1, m + ss.length, by omega, by go_num, HE.out, by omega, by go_num, HNO.out⟩
        case measure => simp [intOf]; omega
    · obtain rfl : P.ths.length = k := by omega
      have HI := Lib.hid (show IsOf P.ths n ⟨0, 0, false⟩ from .inl ⟨rfl, fun ⟨h1, h2⟩ => by
        have h3 := HM.out
        unfold many at h2
        omega⟩)
      clear h3
      go_wp2
      refine bodyPost_ret (v := .tuple #[.int .i64 0, .int .i64 0, .bool false]) (by simp [results, Try.results14, go_sem]) rfl ⟨⟨_, rfl, HI.out⟩, hB⟩
set_option maxHeartbeats 4000000 in
set_option maxRecDepth 100000 in
theorem rnum_any {B : Nat} {v : Value} {P : Pg} (th at1 : Int) (w : World) (hv : PgV B w v P) (hBB : B ≤ w.heap.size) (hl : P.ths.length ≤ 1000000) (hll : ∀ ss ∈ P.ths, ss.length ≤ 1000000) :
    Calls Try.prog 20 #[v, .int .i64 th, .int .i64 at1] w fun e w' => e = .returned (.int .i64 (numI P.ths th at1)) ∧ Below w.heap.size w w' := by
  obtain ⟨vi, vt, rfl, ⟨A0, c0, rfl, -⟩, ⟨A1, c1, rfl, h1, h2, h3⟩⟩ := hv
  unfold maxLen at h2
  have hB := below_al (Below.refl w.heap.size w) (.cells #[.slice A0 P.init.length c0, .slice A1 P.ths.length c1] 25)
  have hbx := Lib.hid (PgBox.at (w := w) rfl (.slice A0 P.init.length c0) (.slice A1 P.ths.length c1) 25)
  obtain ⟨t0, t1⟩ := hbx.out
  have HNO := Lib.hid (fun (h : ¬ (0 ≤ th ∧ th < P.ths.length ∧ 0 ≤ at1 ∧ at1 < (P.ths.getD th.toNat []).length)) => show numI P.ths th at1 = -1 from by unfold numI; rw [if_neg h])
  have HLL := Lib.hid hll
  clear hll
  by_cases ht0 : th < 0
  · have HE := Lib.hid (HNO.out (by omega))
    clear HNO
    have q1 : decide (th < 0) = true := decide_eq_true ht0
    go_enter Try.func20, Try.ntmps20
    go_wp2
    go_ret
    exact ⟨ret_int HE.out.symm, hB⟩
  obtain ⟨t, rfl⟩ := Int.eq_ofNat_of_zero_le (show 0 ≤ th by omega)
  by_cases ht : t < P.ths.length
  case neg =>
    have HE := Lib.hid (HNO.out (by omega))
    clear HNO
    have q2 : decide (P.ths.length ≤ t) = true := decide_eq_true (by omega)
    clear ht0 h3
    go_enter Try.func20, Try.ntmps20
    go_wp2
    go_ret
    exact ⟨ret_int HE.out.symm, hB⟩
  have q2 : decide (P.ths.length ≤ t) = false := decide_eq_false (by omega)
  by_cases ha0 : at1 < 0
  · have HE := Lib.hid (HNO.out (by omega))
    clear HNO
    have q3 : decide (at1 < 0) = true := decide_eq_true ha0
    clear ht0 h3
    go_enter Try.func20, Try.ntmps20
    go_wp2
    go_ret
    exact ⟨ret_int HE.out.symm, hB⟩
  obtain ⟨a, rfl⟩ := Int.eq_ofNat_of_zero_le (show 0 ≤ at1 by omega)
  have HHit := Lib.hid (fun (h : a < P.ths[t].length) => numI_hit ht h)
  have HMs := Lib.hid (fun (h : ¬ a < P.ths[t].length) => HNO.out (fun ⟨_, _, _, h4⟩ => by rw [Int.toNat_natCast, SlM.getD_at ht] at h4; omega))
  obtain ⟨b1, f1, rfl, hb1, hcl⟩ := h3 (by omega)
  have HCL := Lib.hid hcl
  obtain ⟨u, z0, hS⟩ := (hcl t ht).below (hB.mono hBB) hb1
  obtain ⟨ss, hx⟩ : ∃ x, x = P.ths[t] := ⟨_, rfl⟩
  have hssl := HLL.out _ (List.getElem_mem ht)
  rw [← hx] at hS HHit HMs hssl
  obtain ⟨A3, c3, rfl, -⟩ := hS
  clear hx hcl h3 HNO ht0 ha0
  by_cases hal : a < ss.length
  case neg =>
    have HE := Lib.hid (HMs.out hal)
    have q4 : decide (ss.length ≤ a) = true := decide_eq_true (by omega)
    clear HMs HHit
    go_enter Try.func20, Try.ntmps20
    go_wp2
    go_ret
    exact ⟨ret_int HE.out.symm, hB⟩
  have HE := Lib.hid (HHit.out hal)
  have q4 : decide (ss.length ≤ a) = false := decide_eq_false (by omega)
  clear HMs HHit
  go_enter Try.func20, Try.ntmps20
  go_wp2
  clear z0
  go_loop [7, 8] (fun n i => (∃ k m : Nat, k ≤ t ∧ i = .int .i64 k ∧ m = ahd anyS P.ths k ∧ m ≤ k * 1000000 ∧ n = .int .i64 ((a + m : Nat) : Int))) (fun _ i => t - (intOf i).toNat)
  case atStart => exact ⟨0, 0, Nat.zero_le _, rfl, rfl, Nat.zero_le _, rfl⟩
  case round =>
    obtain ⟨k, m, hk, rfl, hm, hmk, rfl⟩ := hrel
    have HM := Lib.hid hm
    clear hm
    by_cases hlt : k < t
    · obtain ⟨u, z0, hS⟩ := (HCL.out k (by omega)).below (hB.mono hBB) hb1
      have HE2 := Lib.hid (show m + P.ths[k].length = ahd anyS P.ths (k + 1) from by rw [ahd_any P.ths (show k < P.ths.length by omega), ← HM.out])
      have hle := HLL.out _ (List.getElem_mem (show k < P.ths.length by omega))
      obtain ⟨sk, hx⟩ : ∃ x, x = P.ths[k] := ⟨_, rfl⟩
      rw [← hx] at hS HE2 hle
      obtain ⟨A4, c4, rfl, -⟩ := hS
      clear hx
      go_wp2
      go_round
      case rel => exact ⟨k + 1, m + sk.length, by omega, by go_num, HE2.out, by omega, by go_num⟩
      case measure => simp [intOf]; omega
    · obtain rfl : t = k := by omega
      go_wp2
      go_ret
      exact ⟨ret_int (by rw [HE.out, HM.out]; omega), hB⟩
end Go.Proofs.Ytaelfjphgdlbcaa
