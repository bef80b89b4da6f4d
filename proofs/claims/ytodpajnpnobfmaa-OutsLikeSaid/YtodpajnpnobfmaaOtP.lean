/-
  THE DOCUMENT'S ends: SameOut, Ahead, Less, Set, Has, Same.
-/
import Derived.Test.YtodpajnpnobfmaaOtN
namespace Go.Proofs.Ytodpajnpnobfmaa
open Go.RowKit
set_option linter.unusedVariables false
set_option linter.unusedSimpArgs false
open OtM

set_option maxHeartbeats 4000000 in
set_option maxRecDepth 100000 in
theorem rsout_any {B : Nat} {v u : Value} {a b : Ot} (w : World) (hv : OutR B w v a) (hu : OutR B w u b) (hBB : B ≤ w.heap.size) :
    Calls Try.prog 24 #[v, u] w fun e w' => e = .returned (.bool (decide (a = b))) ∧ Below w.heap.size w w' := by
  obtain ⟨vm, vr, rfl, h1, h2⟩ := hv
  obtain ⟨um, ur, rfl, g1, g2⟩ := hu
  have HC1 := Lib.hid (fun W (hW : Below w.heap.size w W) => nsame_dec W (h1.below (hW.mono hBB)) (g1.below (hW.mono hBB)) (Nat.le_trans hBB hW.size))
  have HC2 := Lib.hid (fun W (hW : Below w.heap.size w W) => nsame_dec W (h2.below (hW.mono hBB)) (g2.below (hW.mono hBB)) (Nat.le_trans hBB hW.size))
  obtain ⟨A1, n1, c1, rfl⟩ := h1.sl
  obtain ⟨A2, n2, c2, rfl⟩ := h2.sl
  obtain ⟨D1, n3, e1, rfl⟩ := g1.sl
  obtain ⟨D2, n4, e2, rfl⟩ := g2.sl
  clear h1 h2 g1 g2
  have HAB := Lib.hid (show decide (a = b) = (decide (a.1 = b.1) && decide (a.2 = b.2)) from by
    obtain ⟨a1, a2⟩ := a
    obtain ⟨b1, b2⟩ := b
    simp)
  obtain ⟨W2, hW2⟩ : ∃ W, W = (w.alloc (.cells #[.slice A1 n1 c1, .slice A2 n2 c2] 24)).alloc (.cells #[.slice D1 n3 e1, .slice D2 n4 e2] 24) := ⟨_, rfl⟩
  obtain ⟨ga, hga⟩ : ∃ g, g = w.heap.size := ⟨_, rfl⟩
  obtain ⟨gb, hgb⟩ : ∃ g, g = w.heap.size + 1 := ⟨_, rfl⟩
  have HX := Lib.hid (show BoxC W2 ga 24 #[.slice A1 n1 c1, .slice A2 n2 c2] from by rw [hW2, hga]; exact (BoxC.new w _ _).alloc _)
  have HY := Lib.hid (show BoxC W2 gb 24 #[.slice D1 n3 e1, .slice D2 n4 e2] from by rw [hW2, hgb]; have := BoxC.new (w.alloc (.cells #[.slice A1 n1 c1, .slice A2 n2 c2] 24)) 24 #[.slice D1 n3 e1, .slice D2 n4 e2]; rw [World.size_alloc] at this; exact this)
  have HB2 := Lib.hid (show Below w.heap.size w W2 from by rw [hW2]; exact below_al (below_al (Below.refl _ _) _) _)
  go_enter Try.func24, Try.ntmps24
  go_upto_region 1 with fail
  rw [← hW2]
  (try rw [← hgb])
  (try rw [← hga])
  clear hW2 hga hgb
  have x0 := HX.out.cell 0 (.slice A1 n1 c1) rfl
  have x1 := HX.out.cell 1 (.slice A2 n2 c2) rfl
  have y0 := HY.out.cell 0 (.slice D1 n3 e1) rfl
  have y1 := HY.out.cell 1 (.slice D2 n4 e2) rfl
  go_wp2_with fail
  refine (HC1.out _ HB2.out).mono ?_
  rintro e V1 ⟨r1, rfl, hr1, hb⟩
  have HB3 := Lib.hid (chain HB2.out hb)
  replace x0 := kc hb x0
  replace x1 := kc hb x1
  replace y0 := kc hb y0
  replace y1 := kc hb y1
  clear hb
  cases r1
  · have HE := Lib.hid (show decide (a = b) = false from by rw [HAB.out, show decide (a.1 = b.1) = false from decide_eq_false (fun h => by simp at hr1; exact hr1 h)]; rfl)
    clear hr1
    go_wp2
    go_ret
    exact ⟨by rw [HE.out]; rfl, HB3.out⟩
  · have HE := Lib.hid (show decide (a = b) = decide (a.2 = b.2) from by rw [HAB.out, show decide (a.1 = b.1) = true from decide_eq_true (hr1.1 rfl)]; rfl)
    clear hr1
    go_wp2_with fail
    refine (HC2.out _ HB3.out).mono ?_
    rintro e V2 ⟨r2, rfl, hr2, hb⟩
    have HB4 := Lib.hid (chain HB3.out hb)
    have HF := Lib.hid (show decide (a.2 = b.2) = r2 from by
      cases r2
      · exact decide_eq_false (fun h => by simp at hr2; exact hr2 h)
      · exact decide_eq_true (hr2.1 rfl))
    clear hb hr2
    go_wp2
    go_ret
    exact ⟨by rw [HE.out, HF.out]; rfl, HB4.out⟩
set_option maxHeartbeats 4000000 in
set_option maxRecDepth 100000 in
theorem rahead_any {B : Nat} {v u : Value} {ns ms : List Int} (w : World) (hv : IntR B w v ns) (hu : IntR B w u ms) (hBB : B ≤ w.heap.size) :
    Calls Try.prog 27 #[v, u] w fun e w' => e = .returned (.bool (decide (cmpI ns ms < 0))) ∧ Below w.heap.size w w' := by
  obtain ⟨A1, c1, rfl, ha1, ha2, -, ha3⟩ := hv
  obtain ⟨A2, c2, rfl, hb1, hb2, -, hb3⟩ := hu
  unfold maxLen at ha2 hb2
  have ha3 := nu_at (c := c1) ha3
  have hb3 := nu_at (c := c2) hb3
  obtain ⟨n, hn⟩ : ∃ n, n = ns.length := ⟨_, rfl⟩
  obtain ⟨m, hm⟩ : ∃ n, n = ms.length := ⟨_, rfl⟩
  have HN := Lib.hid hn
  have HM := Lib.hid hm
  rw [← hn] at ha1 ⊢
  rw [← hm] at hb1 ⊢
  clear hn hm
  go_enter Try.func27, Try.ntmps27
  go_wp2
  go_loopw [5] (fun i wr => ∃ k : Nat, k ≤ n ∧ k ≤ m ∧ i = .int .i64 k ∧ Hid (cmpI ns ms = cmpI (ns.drop k) (ms.drop k)) ∧ Below w.heap.size w wr) (fun i _ => n - (intOf i).toNat)
  case atStart => exact ⟨0, Nat.zero_le _, Nat.zero_le _, rfl, Lib.hid rfl, Below.refl _ _⟩
  case round =>
    obtain ⟨k, hk, hkm, rfl, he, hB⟩ := hrel
    by_cases hlt : k < n
    · by_cases hlm : k < m
      · have hn1 : k < ns.length := by have := HN.out; omega
        have hn2 : k < ms.length := by have := HM.out; omega
        obtain ⟨b1, f1, rfl, hl1, hc1⟩ := ha3 (by omega)
        obtain ⟨b2, f2, rfl, hl2, hc2⟩ := hb3 (by omega)
        have d1 := ((hB.mono hBB).cell (p := ⟨b1, f1 + k, none⟩) hl1).trans (hc1 k hn1)
        have d2 := ((hB.mono hBB).cell (p := ⟨b2, f2 + k, none⟩) hl2).trans (hc2 k hn2)
        have HT := Lib.hid (fun (h : ns[k] = ms[k]) => he.out.trans (cmpI_step hn1 hn2 h))
        have HF := Lib.hid (fun (h : ¬ ns[k] = ms[k]) => he.out.trans (cmpI_apart hn1 hn2 h))
        obtain ⟨x, hx⟩ : ∃ x, x = ns[k] := ⟨_, rfl⟩
        obtain ⟨y, hy⟩ : ∃ x, x = ms[k] := ⟨_, rfl⟩
        rw [← hx] at d1 HT HF
        rw [← hy] at d2 HT HF
        clear hx hy hc1 hc2 ha3 hb3 he hn1 hn2
        by_cases hxy : x = y
        · have HE := Lib.hid (HT.out hxy)
          subst hxy
          clear HT HF
          go_wp2
          go_quiet (fail)
          go_wp2
          go_roundw
          case rel => exact ⟨k + 1, by omega, by omega, by go_num, HE, below_drewN hB _⟩
          case measure => simp [intOf]; omega
        · have HE := Lib.hid (show decide (cmpI ns ms < 0) = decide (x < y) from by rw [HF.out hxy]; by_cases h : x < y <;> simp [h])
          have q1 : (x != y) = true := by simp [bne, hxy]
          have q2 : (x == y) = false := beq_eq_false_iff_ne.2 hxy
          clear HT HF
          go_wp2
          go_quiet (fail)
          go_wp2
          go_quiet (fail)
          go_wp2
          go_ret
          exact ⟨by rw [HE.out]; rfl, below_drewN (below_drewN hB _) _⟩
      · obtain rfl : m = k := by omega
        have hnm : ¬ n < m := by omega
        have HE := Lib.hid (show decide (cmpI ns ms < 0) = false from by rw [he.out, cmpI_long (by have := HN.out; omega) (by have := HM.out; omega)]; rfl)
        clear ha3 hb3 he
        go_wp2
        go_ret
        exact ⟨by rw [HE.out]; rfl, hB⟩
    · obtain rfl : n = k := by omega
      have HE := Lib.hid (show decide (cmpI ns ms < 0) = decide (n < m) from by
        by_cases h : n < m
        · rw [he.out, cmpI_short (by have := HN.out; omega) (by have := HM.out; omega), decide_eq_true h]; rfl
        · rw [he.out, cmpI_end (by have := HN.out; omega) (by have := HM.out; omega), decide_eq_false h]; rfl)
      clear ha3 hb3 he
      by_cases hlm : n < m
      · rw [decide_eq_true hlm] at HE
        go_wp2
        go_ret
        exact ⟨by rw [HE.out]; rfl, hB⟩
      · rw [decide_eq_false hlm] at HE
        go_wp2
        go_ret
        exact ⟨by rw [HE.out]; rfl, hB⟩
end Go.Proofs.Ytodpajnpnobfmaa
