/-
  slices.Equal and slices.EqualFunc over lines.
-/
import Derived.Test.YtaelfjphgdlbcaaM06
import Derived.Test.YtaelfjphgdlbcaaCSame
import Derived.Deep.RegionHeld3
import Derived.Deep.DeepCutAuto
namespace Go.Proofs.Ytaelfjphgdlbcaa
open Go.RowKit
set_option linter.unusedVariables false
set_option linter.unusedSimpArgs false
open SlM

theorem ifs5 {α : Type} {x y : OpsM.Ln} {a b : α} (h : x ≠ y) : (if x.op = y.op then if x.reg = y.reg then if x.loc = y.loc then if x.label = y.label then if x.n = y.n then a else b else b else b else b else b) = b := by
  by_cases c1 : x.op = y.op
  · by_cases c2 : x.reg = y.reg
    · by_cases c3 : x.loc = y.loc
      · by_cases c4 : x.label = y.label
        · by_cases c5 : x.n = y.n
          · exact absurd (OpsM.Ln.same c1 c2 c3 c4 c5) h
          · rw [if_pos c1, if_pos c2, if_pos c3, if_pos c4, if_neg c5]
        · rw [if_pos c1, if_pos c2, if_pos c3, if_neg c4]
      · rw [if_pos c1, if_pos c2, if_neg c3]
    · rw [if_pos c1, if_neg c2]
  · rw [if_neg c1]
set_option maxHeartbeats 8000000 in
set_option maxRecDepth 100000 in
theorem equal_any {B : Nat} {v u : Value} {ls ms : List OpsM.Ln} (w : World) (hv : Lns B w v ls) (hu : Lns B w u ms) (hBB : B ≤ w.heap.size) :
    Calls Try.prog 42 #[v, u] w fun e w' => e = .returned (.bool (decide (ls = ms))) ∧ Below w.heap.size w w' := by
  obtain ⟨A1, c1, rfl, d1, d2, d3⟩ := hv
  obtain ⟨A2, c2, rfl, e1, e2, e3⟩ := hu
  unfold maxLen at d2 e2
  have HN := Lib.hid (fun (h : ¬ ls.length = ms.length) => show decide (ls = ms) = false from decide_eq_false (fun e => h (by rw [e])))
  by_cases hle : ls.length = ms.length
  · have HLE := Lib.hid hle
    rw [← hle]
    rw [← hle] at e1
    clear hle HN
    go_enter Try.func42, Try.ntmps42
    go_wp2
    go_loopw [13] (fun i wr => ∃ k : Nat, k ≤ ls.length ∧ i = .int .i64 k ∧ Up ls ms k ∧ Below w.heap.size w wr) (fun i _ => ls.length - (intOf i).toNat)
    case atStart => exact ⟨0, Nat.zero_le _, rfl, Up.none _ _, Below.refl _ _⟩
    case round =>
      obtain ⟨k, hk, rfl, hup, hB⟩ := hrel
      by_cases hlt : k < ls.length
      · have hlt2 : k < ms.length := by have := HLE.out; omega
        obtain ⟨b1, f1, rfl, hb1, hc1⟩ := d3 (by omega)
        obtain ⟨b2, f2, rfl, hb2, hc2⟩ := e3 (by have := HLE.out; omega)
        obtain ⟨x0, x1, x2, x3, x4⟩ := (hc1 k hlt).below (hB.mono hBB) hb1
        obtain ⟨y0, y1, y2, y3, y4⟩ := (hc2 k hlt2).below (hB.mono hBB) hb2
        obtain ⟨x, hx⟩ : ∃ x, x = ls[k] := ⟨_, rfl⟩
        obtain ⟨y, hy⟩ : ∃ y, y = ms[k] := ⟨_, rfl⟩
        rw [← hx] at x0 x1 x2 x3 x4
        rw [← hy] at y0 y1 y2 y3 y4
        have HX := Lib.hid hx
        have HY := Lib.hid hy
        have HU := Lib.hid hup
        clear hc1 hc2 hx hy hup
        by_cases hxy : x = y
        · subst hxy
          go_upto_region 6 with fail
          refine wp_region_held_drew (S := (fun w' => (w'.cell? ⟨b1, f1 + k * 5, none⟩ = some (.int .i64 x.op) ∧ w'.cell? ⟨b1, f1 + k * 5 + 1, none⟩ = some (.string ⟨x.reg.toArray⟩) ∧ w'.cell? ⟨b1, f1 + k * 5 + 2, none⟩ = some (.string ⟨x.loc.toArray⟩) ∧ w'.cell? ⟨b1, f1 + k * 5 + 3, none⟩ = some (.string ⟨x.label.toArray⟩) ∧ w'.cell? ⟨b1, f1 + k * 5 + 4, none⟩ = some (.int .i64 x.n) ∧ w'.cell? ⟨b2, f2 + k * 5, none⟩ = some (.int .i64 x.op) ∧ w'.cell? ⟨b2, f2 + k * 5 + 1, none⟩ = some (.string ⟨x.reg.toArray⟩) ∧ w'.cell? ⟨b2, f2 + k * 5 + 2, none⟩ = some (.string ⟨x.loc.toArray⟩) ∧ w'.cell? ⟨b2, f2 + k * 5 + 3, none⟩ = some (.string ⟨x.label.toArray⟩) ∧ w'.cell? ⟨b2, f2 + k * 5 + 4, none⟩ = some (.int .i64 x.n)) ∧ Below w.heap.size w w')) (by kernel_rfl) ⟨⟨x0, x1, x2, x3, x4, y0, y1, y2, y3, y4⟩, below_drewN hB 1⟩ (fun hHeld => ?_)
          refine wpAnyH_take (i := 0) (v := ?_) rfl (by kernel_rfl) (by kernel_rfl) (by kernel_rfl) (fun _ _ _ h => h) (Or.inl ⟨by rfl, ?_⟩) (by assumption) ?_
          rotate_left
          · intro w hSw; (try dsimp only at hSw); go_simp; (try with_reducible rfl)
          (try simp only [Act.put, List.getElem_toArray, List.getElem_cons_zero, List.getElem_cons_succ, Array.getInternal_eq_getElem, List.setIfInBounds_toArray, List.set_cons_zero, List.set_cons_succ])
          refine wpAnyH_take (i := 1) (v := ?_) rfl (by kernel_rfl) (by kernel_rfl) (by kernel_rfl) (fun _ _ _ h => h) (Or.inl ⟨by rfl, ?_⟩) (by assumption) ?_
          rotate_left
          · intro w hSw; (try dsimp only at hSw); go_simp; (try with_reducible rfl)
          (try simp only [Act.put, List.getElem_toArray, List.getElem_cons_zero, List.getElem_cons_succ, Array.getInternal_eq_getElem, List.setIfInBounds_toArray, List.set_cons_zero, List.set_cons_succ])
          refine wpAnyH_take (i := 2) (v := ?_) rfl (by kernel_rfl) (by kernel_rfl) (by kernel_rfl) (fun _ _ _ h => h) (Or.inl ⟨by rfl, ?_⟩) (by assumption) ?_
          rotate_left
          · intro w hSw; (try dsimp only at hSw); go_simp; (try with_reducible rfl)
          (try simp only [Act.put, List.getElem_toArray, List.getElem_cons_zero, List.getElem_cons_succ, Array.getInternal_eq_getElem, List.setIfInBounds_toArray, List.set_cons_zero, List.set_cons_succ])
          refine wpAnyH_take (i := 3) (v := ?_) rfl (by kernel_rfl) (by kernel_rfl) (by kernel_rfl) (fun _ _ _ h => h) (Or.inl ⟨by rfl, ?_⟩) (by assumption) ?_
          rotate_left
          · intro w hSw; (try dsimp only at hSw); go_simp; (try with_reducible rfl)
          (try simp only [Act.put, List.getElem_toArray, List.getElem_cons_zero, List.getElem_cons_succ, Array.getInternal_eq_getElem, List.setIfInBounds_toArray, List.set_cons_zero, List.set_cons_succ])
          refine wpAnyH_take (i := 4) (v := ?_) rfl (by kernel_rfl) (by kernel_rfl) (by kernel_rfl) (fun _ _ _ h => h) (Or.inl ⟨by rfl, ?_⟩) (by assumption) ?_
          rotate_left
          · intro w hSw; (try dsimp only at hSw); go_simp; (try with_reducible rfl)
          (try simp only [Act.put, List.getElem_toArray, List.getElem_cons_zero, List.getElem_cons_succ, Array.getInternal_eq_getElem, List.setIfInBounds_toArray, List.set_cons_zero, List.set_cons_succ])
          refine wpAnyH_take (i := 5) (v := ?_) rfl (by kernel_rfl) (by kernel_rfl) (by kernel_rfl) (fun _ _ _ h => h) (Or.inl ⟨by rfl, ?_⟩) (by assumption) ?_
          rotate_left
          · intro w hSw; (try dsimp only at hSw); go_simp; (try with_reducible rfl)
          (try simp only [Act.put, List.getElem_toArray, List.getElem_cons_zero, List.getElem_cons_succ, Array.getInternal_eq_getElem, List.setIfInBounds_toArray, List.set_cons_zero, List.set_cons_succ])
          refine wpAnyH_take (i := 6) (v := ?_) rfl (by kernel_rfl) (by kernel_rfl) (by kernel_rfl) (fun _ _ _ h => h) (Or.inl ⟨by rfl, ?_⟩) (by assumption) ?_
          rotate_left
          · intro w hSw; (try dsimp only at hSw); go_simp; (try with_reducible rfl)
          (try simp only [Act.put, List.getElem_toArray, List.getElem_cons_zero, List.getElem_cons_succ, Array.getInternal_eq_getElem, List.setIfInBounds_toArray, List.set_cons_zero, List.set_cons_succ])
          refine wpAnyH_take (i := 7) (v := ?_) rfl (by kernel_rfl) (by kernel_rfl) (by kernel_rfl) (fun _ _ _ h => h) (Or.inl ⟨by rfl, ?_⟩) (by assumption) ?_
          rotate_left
          · intro w hSw; (try dsimp only at hSw); go_simp; (try with_reducible rfl)
          (try simp only [Act.put, List.getElem_toArray, List.getElem_cons_zero, List.getElem_cons_succ, Array.getInternal_eq_getElem, List.setIfInBounds_toArray, List.set_cons_zero, List.set_cons_succ])
          refine wpAnyH_take (i := 8) (v := ?_) rfl (by kernel_rfl) (by kernel_rfl) (by kernel_rfl) (fun _ _ _ h => h) (Or.inl ⟨by rfl, ?_⟩) (by assumption) ?_
          rotate_left
          · intro w hSw; (try dsimp only at hSw); go_simp; (try with_reducible rfl)
          (try simp only [Act.put, List.getElem_toArray, List.getElem_cons_zero, List.getElem_cons_succ, Array.getInternal_eq_getElem, List.setIfInBounds_toArray, List.set_cons_zero, List.set_cons_succ])
          refine wpAnyH_done (by kernel_rfl) ?_ _
          go_wp2
          go_roundw
          case rel => exact ⟨k + 1, by omega, by go_num, HU.out.next hlt hlt2 HX.out HY.out rfl, hHeld.2⟩
          case measure => simp [intOf]; omega
        · have HIF := Lib.hid (fun (a b : Result Next) => ifs5 (a := a) (b := b) hxy)
          have HNO := Lib.hid (show decide (ls = ms) = false from decide_eq_false (Up.not hlt hlt2 HX.out HY.out hxy))
          clear hxy
          go_upto_region 6 with fail
          refine wp_region_held_drew (S := (fun w' => (w'.cell? ⟨b1, f1 + k * 5, none⟩ = some (.int .i64 x.op) ∧ w'.cell? ⟨b1, f1 + k * 5 + 1, none⟩ = some (.string ⟨x.reg.toArray⟩) ∧ w'.cell? ⟨b1, f1 + k * 5 + 2, none⟩ = some (.string ⟨x.loc.toArray⟩) ∧ w'.cell? ⟨b1, f1 + k * 5 + 3, none⟩ = some (.string ⟨x.label.toArray⟩) ∧ w'.cell? ⟨b1, f1 + k * 5 + 4, none⟩ = some (.int .i64 x.n) ∧ w'.cell? ⟨b2, f2 + k * 5, none⟩ = some (.int .i64 y.op) ∧ w'.cell? ⟨b2, f2 + k * 5 + 1, none⟩ = some (.string ⟨y.reg.toArray⟩) ∧ w'.cell? ⟨b2, f2 + k * 5 + 2, none⟩ = some (.string ⟨y.loc.toArray⟩) ∧ w'.cell? ⟨b2, f2 + k * 5 + 3, none⟩ = some (.string ⟨y.label.toArray⟩) ∧ w'.cell? ⟨b2, f2 + k * 5 + 4, none⟩ = some (.int .i64 y.n)) ∧ Below w.heap.size w w')) (by kernel_rfl) ⟨⟨x0, x1, x2, x3, x4, y0, y1, y2, y3, y4⟩, below_drewN hB 1⟩ (fun hHeld => ?_)
          refine wpAnyH_take (i := 0) (v := ?_) rfl (by kernel_rfl) (by kernel_rfl) (by kernel_rfl) (fun _ _ _ h => h) (Or.inl ⟨by rfl, ?_⟩) (by assumption) ?_
          rotate_left
          · intro w hSw; (try dsimp only at hSw); go_simp; (try with_reducible rfl)
          (try simp only [Act.put, List.getElem_toArray, List.getElem_cons_zero, List.getElem_cons_succ, Array.getInternal_eq_getElem, List.setIfInBounds_toArray, List.set_cons_zero, List.set_cons_succ])
          refine wpAnyH_take (i := 1) (v := ?_) rfl (by kernel_rfl) (by kernel_rfl) (by kernel_rfl) (fun _ _ _ h => h) (Or.inl ⟨by rfl, ?_⟩) (by assumption) ?_
          rotate_left
          · intro w hSw; (try dsimp only at hSw); go_simp; (try with_reducible rfl)
          (try simp only [Act.put, List.getElem_toArray, List.getElem_cons_zero, List.getElem_cons_succ, Array.getInternal_eq_getElem, List.setIfInBounds_toArray, List.set_cons_zero, List.set_cons_succ])
          refine wpAnyH_take (i := 2) (v := ?_) rfl (by kernel_rfl) (by kernel_rfl) (by kernel_rfl) (fun _ _ _ h => h) (Or.inl ⟨by rfl, ?_⟩) (by assumption) ?_
          rotate_left
          · intro w hSw; (try dsimp only at hSw); go_simp; (try with_reducible rfl)
          (try simp only [Act.put, List.getElem_toArray, List.getElem_cons_zero, List.getElem_cons_succ, Array.getInternal_eq_getElem, List.setIfInBounds_toArray, List.set_cons_zero, List.set_cons_succ])
          refine wpAnyH_take (i := 3) (v := ?_) rfl (by kernel_rfl) (by kernel_rfl) (by kernel_rfl) (fun _ _ _ h => h) (Or.inl ⟨by rfl, ?_⟩) (by assumption) ?_
          rotate_left
          · intro w hSw; (try dsimp only at hSw); go_simp; (try with_reducible rfl)
          (try simp only [Act.put, List.getElem_toArray, List.getElem_cons_zero, List.getElem_cons_succ, Array.getInternal_eq_getElem, List.setIfInBounds_toArray, List.set_cons_zero, List.set_cons_succ])
          refine wpAnyH_take (i := 4) (v := ?_) rfl (by kernel_rfl) (by kernel_rfl) (by kernel_rfl) (fun _ _ _ h => h) (Or.inl ⟨by rfl, ?_⟩) (by assumption) ?_
          rotate_left
          · intro w hSw; (try dsimp only at hSw); go_simp; (try with_reducible rfl)
          (try simp only [Act.put, List.getElem_toArray, List.getElem_cons_zero, List.getElem_cons_succ, Array.getInternal_eq_getElem, List.setIfInBounds_toArray, List.set_cons_zero, List.set_cons_succ])
          refine wpAnyH_take (i := 5) (v := ?_) rfl (by kernel_rfl) (by kernel_rfl) (by kernel_rfl) (fun _ _ _ h => h) (Or.inl ⟨by rfl, ?_⟩) (by assumption) ?_
          rotate_left
          · intro w hSw; (try dsimp only at hSw); go_simp; (try with_reducible rfl)
          (try simp only [Act.put, List.getElem_toArray, List.getElem_cons_zero, List.getElem_cons_succ, Array.getInternal_eq_getElem, List.setIfInBounds_toArray, List.set_cons_zero, List.set_cons_succ])
          refine wpAnyH_take (i := 6) (v := ?_) rfl (by kernel_rfl) (by kernel_rfl) (by kernel_rfl) (fun _ _ _ h => h) (Or.inl ⟨by rfl, ?_⟩) (by assumption) ?_
          rotate_left
          · intro w hSw; (try dsimp only at hSw); go_simp; (try with_reducible rfl)
          (try simp only [Act.put, List.getElem_toArray, List.getElem_cons_zero, List.getElem_cons_succ, Array.getInternal_eq_getElem, List.setIfInBounds_toArray, List.set_cons_zero, List.set_cons_succ])
          refine wpAnyH_take (i := 7) (v := ?_) rfl (by kernel_rfl) (by kernel_rfl) (by kernel_rfl) (fun _ _ _ h => h) (Or.inl ⟨by rfl, ?_⟩) (by assumption) ?_
          rotate_left
          · intro w hSw; (try dsimp only at hSw); go_simp; (try with_reducible rfl)
          (try simp only [Act.put, List.getElem_toArray, List.getElem_cons_zero, List.getElem_cons_succ, Array.getInternal_eq_getElem, List.setIfInBounds_toArray, List.set_cons_zero, List.set_cons_succ])
          refine wpAnyH_take (i := 8) (v := ?_) rfl (by kernel_rfl) (by kernel_rfl) (by kernel_rfl) (fun _ _ _ h => h) (Or.inl ⟨by rfl, ?_⟩) (by assumption) ?_
          rotate_left
          · intro w hSw; (try dsimp only at hSw); go_simp; exact HIF.out _ _
          (try simp only [Act.put, List.getElem_toArray, List.getElem_cons_zero, List.getElem_cons_succ, Array.getInternal_eq_getElem, List.setIfInBounds_toArray, List.set_cons_zero, List.set_cons_succ])
          refine wpAnyH_done (by kernel_rfl) ?_ _
          go_wp2
          go_ret
          exact ⟨by rw [HNO.out]; rfl, hHeld.2⟩
      · obtain rfl : ls.length = k := by omega
        have HYES := Lib.hid (show decide (ls = ms) = true from decide_eq_true (hup.all HLE.out))
        go_wp2
        go_ret
        exact ⟨by rw [HYES.out]; rfl, hB⟩
  · have hN := HN.out hle
    have hli : ¬ (ls.length : Int) = (ms.length : Int) := by omega
    rw [hN]
    clear hN HN hle
    go_enter Try.func42, Try.ntmps42
    go_wp2
    go_ret
    exact ⟨rfl, Below.refl _ _⟩
set_option maxHeartbeats 8000000 in
set_option maxRecDepth 100000 in
theorem equalfunc_any {B : Nat} {v u : Value} {ts us : List (List OpsM.Ln)} (w : World) (hv : Ths B w v ts) (hu : Ths B w u us) (hBB : B ≤ w.heap.size) :
    Calls Try.prog 41 #[v, u, .func (.func 42) #[] #[]] w fun e w' => e = .returned (.bool (decide (ts = us))) ∧ Below w.heap.size w w' := by
  obtain ⟨A1, c1, rfl, d1, d2, d3⟩ := hv
  obtain ⟨A2, c2, rfl, e1, e2, e3⟩ := hu
  unfold maxLen at d2 e2
  have HN := Lib.hid (fun (h : ¬ ts.length = us.length) => show decide (ts = us) = false from decide_eq_false (fun e => h (by rw [e])))
  by_cases hle : ts.length = us.length
  · have HLE := Lib.hid hle
    rw [← hle]
    rw [← hle] at e1
    clear hle HN
    go_enter Try.func41, Try.ntmps41
    go_wp2
    go_loopw [17] (fun i wr => ∃ k : Nat, k ≤ ts.length ∧ i = .int .i64 k ∧ Up ts us k ∧ Below w.heap.size w wr) (fun i _ => ts.length - (intOf i).toNat)
    case atStart => exact ⟨0, Nat.zero_le _, rfl, Up.none _ _, Below.refl _ _⟩
    case round =>
      obtain ⟨k, hk, rfl, hup, hB⟩ := hrel
      by_cases hlt : k < ts.length
      · have hlt2 : k < us.length := by have := HLE.out; omega
        obtain ⟨b1, f1, rfl, hb1, hc1⟩ := d3 (by omega)
        obtain ⟨b2, f2, rfl, hb2, hc2⟩ := e3 (by have := HLE.out; omega)
        obtain ⟨v1, x0, hx1⟩ := (hc1 k hlt).below (hB.mono hBB) hb1
        obtain ⟨v2, y0, hy1⟩ := (hc2 k hlt2).below (hB.mono hBB) hb2
        obtain ⟨x, hx⟩ : ∃ x, x = ts[k] := ⟨_, rfl⟩
        obtain ⟨y, hy⟩ : ∃ y, y = us[k] := ⟨_, rfl⟩
        rw [← hx] at hx1
        rw [← hy] at hy1
        have HQ := Lib.hid (equal_any wr hx1 hy1 (Nat.le_trans hBB hB.size))
        obtain ⟨B1, g1, rfl, -⟩ := hx1
        obtain ⟨B2, g2, rfl, -⟩ := hy1
        have HX := Lib.hid hx
        have HY := Lib.hid hy
        have HU := Lib.hid hup
        clear hc1 hc2 hx hy hup
        by_cases hxy : x = y
        · have HD := Lib.hid (show decide (x = y) = true from decide_eq_true hxy)
          have HXY := Lib.hid hxy
          rw [HD.out] at HQ
          clear hxy
          go_wp2_with fail
          refine HQ.out.mono ?_
          rintro e wa ⟨rfl, hba⟩
          have hBa := chain hB hba
          clear HQ x0 y0
          go_wp2_with fail
          go_roundw
          case rel => exact ⟨k + 1, by omega, by go_num, HU.out.next hlt hlt2 HX.out HY.out HXY.out, hBa⟩
          case measure => simp [intOf]; omega
        · have HD := Lib.hid (show decide (x = y) = false from decide_eq_false hxy)
          have HNO := Lib.hid (show decide (ts = us) = false from decide_eq_false (Up.not hlt hlt2 HX.out HY.out hxy))
          rw [HD.out] at HQ
          clear hxy
          go_wp2_with fail
          refine HQ.out.mono ?_
          rintro e wa ⟨rfl, hba⟩
          have hBa := chain hB hba
          clear HQ x0 y0
          go_wp2_with fail
          go_ret
          exact ⟨by rw [HNO.out]; rfl, hBa⟩
      · obtain rfl : ts.length = k := by omega
        have HYES := Lib.hid (show decide (ts = us) = true from decide_eq_true (hup.all HLE.out))
        go_wp2
        go_ret
        exact ⟨by rw [HYES.out]; rfl, hB⟩
  · have hN := HN.out hle
    have hli : ¬ (ts.length : Int) = (us.length : Int) := by omega
    rw [hN]
    clear hN HN hle
    go_enter Try.func41, Try.ntmps41
    go_wp2
    go_ret
    exact ⟨rfl, Below.refl _ _⟩
end Go.Proofs.Ytaelfjphgdlbcaa
