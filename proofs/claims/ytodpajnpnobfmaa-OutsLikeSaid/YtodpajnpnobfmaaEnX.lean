/-
  THE DOCUMENT's Same of layer 10, of any two states: whether they are alike.
-/
import Derived.Test.YtodpajnpnobfmaaScP
import Derived.Deep.RegionHeld3
namespace Go.Proofs.Ytodpajnpnobfmaa
open Go.RowKit
set_option linter.unusedVariables false
set_option linter.unusedSimpArgs false
open BfM (Wr plc)

/-- What tells whether two are alike. -/
def AlRet {α : Type} (x y : α) (w : World) (e : Ending) (w' : World) : Prop := ∃ b, e = .returned (.bool b) ∧ (b = true ↔ x = y) ∧ Below w.heap.size w w'
set_option maxHeartbeats 4000000 in
set_option maxRecDepth 100000 in
theorem nsame_dec {B : Nat} {v u : Value} {ns ms : List Int} (w : World) (hv : IntR B w v ns) (hu : IntR B w u ms) (hBB : B ≤ w.heap.size) :
    Calls Try.prog 26 #[v, u] w (AlRet ns ms w) := by
  obtain ⟨A1, c1, rfl, ha1, ha2, -, ha3⟩ := hv
  obtain ⟨A2, c2, rfl, hb1, hb2, -, hb3⟩ := hu
  unfold maxLen at ha2 hb2
  have ha3 := nu_at (c := c1) ha3
  have hb3 := nu_at (c := c2) hb3
  by_cases hl : ns.length = ms.length
  · have HL := Lib.hid hl
    have q1 : ((ns.length : Int) != (ms.length : Int)) = false := by rw [hl]; simp
    have q2 : (ns.length : Int) = (ms.length : Int) := by rw [hl]
    obtain ⟨n, hn⟩ : ∃ n, n = ms.length := ⟨_, rfl⟩
    have HN := Lib.hid hn
    have HNN := Lib.hid (show ns.length = n from by rw [hn]; exact hl)
    rw [hl] at ha1 ⊢
    rw [← hn] at ha1 hb1 ⊢
    clear hl q1 q2 hn
    go_enter Try.func26, Try.ntmps26
    go_wp2
    go_loopw [5] (fun i wr => ∃ k : Nat, k ≤ n ∧ i = .int .i64 k ∧ ns.take k = ms.take k ∧ Below w.heap.size w wr) (fun i _ => n - (intOf i).toNat)
    case atStart => exact ⟨0, Nat.zero_le _, rfl, by simp, Below.refl _ _⟩
    case round =>
      obtain ⟨k, hk, rfl, he, hB⟩ := hrel
      by_cases hlt : k < n
      · have hn1 : k < ns.length := by have := HNN.out; omega
        have hn2 : k < ms.length := by have := HN.out; omega
        obtain ⟨b1, f1, rfl, hl1, hc1⟩ := ha3 (by omega)
        obtain ⟨b2, f2, rfl, hl2, hc2⟩ := hb3 (by omega)
        have d1 := ((hB.mono hBB).cell (p := ⟨b1, f1 + k, none⟩) hl1).trans (hc1 k hn1)
        have d2 := ((hB.mono hBB).cell (p := ⟨b2, f2 + k, none⟩) hl2).trans (hc2 k hn2)
        have HT := Lib.hid (fun (h : ns[k] = ms[k]) => show ns.take (k + 1) = ms.take (k + 1) from by rw [List.take_succ_eq_append_getElem hn1, List.take_succ_eq_append_getElem hn2, he, h])
        have HF := Lib.hid (fun (h : ¬ ns[k] = ms[k]) => show ¬ ns = ms from fun e => h (by subst e; rfl))
        obtain ⟨x, hx⟩ : ∃ x, x = ns[k] := ⟨_, rfl⟩
        obtain ⟨y, hy⟩ : ∃ x, x = ms[k] := ⟨_, rfl⟩
        rw [← hx] at d1 HT HF
        rw [← hy] at d2 HT HF
        clear hx hy hc1 hc2 ha3 hb3 he hn1 hn2
        by_cases hxy : x = y
        · have HE := Lib.hid (HT.out hxy)
          subst hxy
          clear HT HF
          go_wp2
          go_quiet (fail)
          go_wp2
          go_roundw
          case rel => exact ⟨k + 1, by omega, by go_num, HE.out, below_drewN hB _⟩
          case measure => simp [intOf]; omega
        · have HE := Lib.hid (HF.out hxy)
          have q1 : (x != y) = true := by simp [bne, hxy]
          have q2 : (x == y) = false := beq_eq_false_iff_ne.2 hxy
          clear HT HF
          go_wp2
          go_quiet (fail)
          go_wp2
          go_ret
          exact ⟨false, rfl, ⟨fun h => (by cases h), fun h => absurd h HE.out⟩, below_drewN hB _⟩
      · obtain rfl : n = k := by omega
        have HE := Lib.hid (show ns = ms from by
          have h1 := List.take_length (l := ns)
          have h2 := List.take_length (l := ms)
          rw [HNN.out] at h1
          rw [← HN.out] at h2
          rw [← h1, ← h2]; exact he)
        clear ha3 hb3 he
        go_wp2
        go_ret
        exact ⟨true, rfl, ⟨fun _ => HE.out, fun _ => rfl⟩, hB⟩
  · have HE := Lib.hid (show ¬ ns = ms from fun e => hl (by rw [e]))
    have q1 : ((ns.length : Int) != (ms.length : Int)) = true := by
      rw [bne, beq_eq_false_iff_ne.2 (by omega)]; rfl
    clear ha3 hb3
    go_enter Try.func26, Try.ntmps26
    go_wp2
    go_ret
    exact ⟨false, rfl, ⟨fun h => (by cases h), fun h => absurd h HE.out⟩, Below.refl _ _⟩
end Go.Proofs.Ytodpajnpnobfmaa
