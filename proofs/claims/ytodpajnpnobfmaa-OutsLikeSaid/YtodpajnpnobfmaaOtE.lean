/-
  ENDS: Set, of the program and of the document.
-/
import Derived.Test.YtodpajnpnobfmaaOtD
namespace Go.Proofs.Ytodpajnpnobfmaa
open Go.RowKit
set_option linter.unusedVariables false
set_option linter.unusedSimpArgs false
open OtM

theorem srt_take {l : List Ot} {j : Nat} (h : j + 1 < l.length) (hs : Srt (l.take (j + 1))) : Srt (l.take (j + 1 + 1)) ↔ Lt (l[j]'(by omega)) l[j + 1] := by
  rw [List.take_succ_eq_append_getElem h]
  constructor
  · intro k
    refine (List.pairwise_append.1 k).2.2 _ ?_ _ (List.mem_singleton.2 rfl)
    rw [List.take_succ_eq_append_getElem (show j < l.length by omega)]
    exact List.mem_append_right _ (List.mem_singleton.2 rfl)
  · intro k
    refine List.pairwise_append.2 ⟨hs, List.pairwise_singleton _ _, fun x hx y hy => ?_⟩
    rw [List.mem_singleton.1 hy]
    rw [List.take_succ_eq_append_getElem (show j < l.length by omega)] at hx hs
    rcases List.mem_append.1 hx with hx | hx
    · exact ((List.pairwise_append.1 hs).2.2 x hx _ (List.mem_singleton.2 rfl)).trans k
    · rw [List.mem_singleton.1 hx]; exact k
theorem srt_part {l : List Ot} {k : Nat} (h : ¬ Srt (l.take k)) : ¬ Srt l := fun g => h (g.sublist (List.take_sublist _ _))
def srtB (l : List Ot) : Bool := decide (Srt l)
theorem keepE {w W W' : World} {p q r s : Addr} {x y z u : Value} (h : W.cell? p = some x ∧ W.cell? q = some y ∧ W.cell? r = some z ∧ W.cell? s = some u ∧ Bg w W) (hb : Bg W W') (hp : p.spot = none ∧ q.spot = none ∧ r.spot = none ∧ s.spot = none := by exact ⟨rfl, rfl, rfl, rfl⟩) :
    W'.cell? p = some x ∧ W'.cell? q = some y ∧ W'.cell? r = some z ∧ W'.cell? s = some u ∧ Bg w W' := by
  obtain ⟨p1, p2, p3⟩ := p; obtain ⟨q1, q2, q3⟩ := q; obtain ⟨r1, r2, r3⟩ := r; obtain ⟨s1, s2, s3⟩ := s
  obtain ⟨e1, e2, e3, e4⟩ := hp
  dsimp only at e1 e2 e3 e4
  subst e1 e2 e3 e4
  exact ⟨kc hb.1 h.1, kc hb.1 h.2.1, kc hb.1 h.2.2.1, kc hb.1 h.2.2.2.1, h.2.2.2.2.trans hb⟩
theorem bgE {w W : World} {p q r s : Addr} {x y z u : Value} (h : W.cell? p = some x ∧ W.cell? q = some y ∧ W.cell? r = some z ∧ W.cell? s = some u ∧ Bg w W) : Bg w W := h.2.2.2.2
set_option maxHeartbeats 8000000 in
set_option maxRecDepth 100000 in
theorem oset_any {B : Nat} {v : Value} {xs : List OV} (w : World) (hv : OutsX B w v xs) (hBB : B ≤ w.heap.size) (hl : xs.length ≤ 1000000) :
    Calls Try.prog 13 #[v] w fun e w' => e = .returned (.bool (srtB (os xs))) ∧ Bg w w' := by
  obtain ⟨⟨A, c, rfl, h1, h2, h0, h3⟩, hov⟩ := hv
  unfold maxLen at h2
  have h3 := ov_at h3
  obtain ⟨n, hn⟩ : ∃ n, n = xs.length := ⟨_, rfl⟩
  have HN := Lib.hid hn
  rw [← hn] at h1 hl ⊢
  clear hn
  have HC := Lib.hid (fun (i j : Nat) (hi : i < xs.length) (hj : j < xs.length) (W : World) (hW : Bg w W) => oless_any W (((hov xs[i] (List.getElem_mem hi)).below (hW.1.mono hBB)).out) (((hov xs[j] (List.getElem_mem hj)).below (hW.1.mono hBB)).out) (Nat.le_trans hBB hW.1.size))
  have HSL := Lib.hid (fun (k : Nat) (hk : k < xs.length) => And.intro (hov xs[k] (List.getElem_mem hk)).1.sl (hov xs[k] (List.getElem_mem hk)).2.sl)
  clear hov h0
  go_enter Try.func13, Try.ntmps13
  go_wp2
  go_loopw [3] (fun i wr => ∃ j k : Nat, Hid (k = j + 1) ∧ (k ≤ n ∨ k = 1) ∧ i = .int .i64 k ∧ Hid (Srt ((os xs).take k)) ∧ Bg w wr) (fun i _ => n - (intOf i).toNat)
  case atStart => exact ⟨0, 1, Lib.hid rfl, .inr rfl, rfl, Lib.hid (by cases os xs <;> simp), Bg.refl _⟩
  case round =>
    obtain ⟨j, k, HJ, hk, rfl, HS, hB⟩ := hrel
    by_cases hlt : k < n
    · have hkx : k < xs.length := by have := HN.out; omega
      have hjx : j < xs.length := by have := HJ.out; omega
      obtain ⟨b1, f1, rfl, hl1, hc1⟩ := h3 (by omega)
      have hcc := fun i hi => And.intro (((hB.1.mono hBB).cell (p := ⟨b1, f1 + i * 2, none⟩) hl1).trans (hc1 i hi).1) (((hB.1.mono hBB).cell (p := ⟨b1, f1 + i * 2 + 1, none⟩) hl1).trans (hc1 i hi).2)
      obtain ⟨d1, d2⟩ := hcc k hkx
      obtain ⟨e1, e2⟩ := hcc j hjx
      have HC1 := HC.out j k hjx hkx
      have HSL1 := HSL.out j hjx
      have HSL2 := HSL.out k hkx
      have HT := Lib.hid (show Srt ((os xs).take (k + 1)) ↔ Lt xs[j].o xs[k].o from by
        have hj := HJ.out
        subst hj
        have := srt_take (l := os xs) (j := j) (by simpa using hkx) HS.out
        simpa using this)
      obtain ⟨x, hx⟩ : ∃ x, x = xs[j] := ⟨_, rfl⟩
      obtain ⟨y, hy⟩ : ∃ y, y = xs[k] := ⟨_, rfl⟩
      rw [← hx] at e1 e2 HC1 HSL1 HT
      rw [← hy] at d1 d2 HC1 HSL2 HT
      clear hx hy hcc hc1 h3 hkx HS
      obtain ⟨xm, xr, xo⟩ := x
      obtain ⟨ym, yr, yo⟩ := y
      dsimp only at d1 d2 e1 e2 HC1 HSL1 HSL2 HT
      obtain ⟨⟨A1, n1, c1, rfl⟩, A2, n2, c2, rfl⟩ := HSL1
      obtain ⟨⟨D1, n3, c3, rfl⟩, D2, n4, c4, rfl⟩ := HSL2
      have hsub : (k : Int) - 1 = (j : Int) := by have := HJ.out; omega
      have hwr : IntKind.i64.wrap (j : Int) = j := IntWalk.i64_in _ (by omega)
      have hjn : j < n := by have := HJ.out; omega
      obtain ⟨b, hb⟩ : ∃ b, b = decide (Lt xo yo) := ⟨_, rfl⟩
      rw [← hb] at HC1
      have HBD := Lib.hid hb
      have HC2 := Lib.hid HC1
      clear HC1 hjx hb
      have hS : wr.cell? ⟨b1, f1 + j * 2, none⟩ = some (.slice A1 n1 c1) ∧ wr.cell? ⟨b1, f1 + j * 2 + 1, none⟩ = some (.slice A2 n2 c2) ∧ wr.cell? ⟨b1, f1 + k * 2, none⟩ = some (.slice D1 n3 c3) ∧ wr.cell? ⟨b1, f1 + k * 2 + 1, none⟩ = some (.slice D2 n4 c4) ∧ Bg w wr := ⟨e1, e2, d1, d2, hB⟩
      clear d1 d2 e1 e2
      go_upto_region 4 with fail
      go_region_held3 (fun w' => w'.cell? ⟨b1, f1 + j * 2, none⟩ = some (.slice A1 n1 c1) ∧ w'.cell? ⟨b1, f1 + j * 2 + 1, none⟩ = some (.slice A2 n2 c2) ∧ w'.cell? ⟨b1, f1 + k * 2, none⟩ = some (.slice D1 n3 c3) ∧ w'.cell? ⟨b1, f1 + k * 2 + 1, none⟩ = some (.slice D2 n4 c4) ∧ Bg w w') (first | (exact keepE (by assumption) (by assumption)) | (exact keepE (by assumption) (Bg.dn _ 1)))
        (first | (go_at_call 11; refine (HC2.out _ (bgE (by assumption))).mono ?_; rintro e w' ⟨rfl, hb2⟩))
      all_goals
        rename_i hHeld
        have HBF := Lib.hid (bgE hHeld)
        clear hHeld hS hb2
        cases b
        · have HE := Lib.hid (show srtB (os xs) = false from decide_eq_false (srt_part (fun h => by have := HT.out.1 h; have h2 := HBD.out; simp [this] at h2)))
          go_wp2
          go_ret
          exact ⟨by rw [HE.out]; rfl, HBF.out⟩
        · have HE := Lib.hid (HT.out.2 (of_decide_eq_true HBD.out.symm))
          go_wp2
          go_roundw
          case rel => exact ⟨k, k + 1, Lib.hid rfl, .inl (by omega), by go_num, HE, HBF.out⟩
          case measure => simp [intOf]; omega
    · have HE := Lib.hid (show srtB (os xs) = true from decide_eq_true (by
        have := HS.out
        rwa [List.take_of_length_le (by have := HN.out; simp; omega)] at this))
      clear h3 HS
      go_wp2
      go_ret
      exact ⟨by rw [HE.out]; rfl, hB⟩
end Go.Proofs.Ytodpajnpnobfmaa
