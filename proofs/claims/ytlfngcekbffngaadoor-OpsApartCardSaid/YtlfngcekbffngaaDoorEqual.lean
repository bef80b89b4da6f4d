/-
  THE LIBRARY's slices.Equal AT ROWS OF TEXTS, over any world.
-/
import Derived.Test.YtlfngcekbffngaaDoorSame
namespace Go.Proofs.YtlfngcekbffngaaDoor
open Go.RowKit
set_option linter.unusedVariables false
open WordM (L)

def EqRel (a b : List L) (w : World) (i : Value) (wr : World) : Prop :=
  ∃ k n : Nat, k ≤ a.length ∧ i = .int .i64 k ∧ wr = w.drewN n ∧ ∀ j (_ : j < k) (ha : j < a.length) (hb : j < b.length), a[j] = b[j]
set_option maxHeartbeats 1000000 in
set_option maxRecDepth 100000 in
theorem equal_any (B : Nat) (va vb : Value) (a b : List L) (w : World) (ha : Strs B w va a) (hb : Strs B w vb b) :
    Calls Tryd.prog 27 #[va, vb] w fun e w' => e = .returned (.bool (sameB a b)) ∧ ∃ n, w' = w.drewN n := by
  obtain ⟨A1, c1, rfl, ha1, ha2, ha3⟩ := ha
  obtain ⟨A2, c2, rfl, hb1, hb2, hb3⟩ := hb
  unfold maxLen at ha2 hb2
  by_cases hl : a.length = b.length
  · have hl1 : (((a.length : Nat) : Int) != (b.length : Nat)) = false := by rw [hl]; simp
    have HL := Lib.hid hl
    have hl2 : a.length ≤ b.length := by omega
    clear hl
    go_enter Tryd.func27, Tryd.ntmps27
    go_wp2
    go_loopw [13] (fun i wr => EqRel a b w i wr) (fun i _ => a.length - (intOf i).toNat)
    case atStart => exact ⟨0, 0, Nat.zero_le _, rfl, rfl, fun j h => absurd h (by omega)⟩
    case round =>
      obtain ⟨k, n, hk, rfl, rfl, hall⟩ := hrel
      by_cases hlt : k < a.length
      · obtain ⟨b1, f1, rfl, hb11, hc1⟩ := ha3 (by omega)
        obtain ⟨b2, f2, rfl, hb21, hc2⟩ := hb3 (by omega)
        have h2 : k < b.length := by omega
        obtain ⟨x, hx⟩ : ∃ x : ByteArray, x = ⟨(a[k]).toArray⟩ := ⟨_, rfl⟩
        obtain ⟨y, hy⟩ : ∃ y : ByteArray, y = ⟨(b[k]).toArray⟩ := ⟨_, rfl⟩
        have hxl : x.toList = a[k] := by rw [hx, Lib.toList_data]
        have hyl : y.toList = b[k] := by rw [hy, Lib.toList_data]
        have d1 : w.cell? ⟨b1, f1 + k, none⟩ = some (.string x) := by rw [hx]; exact hc1 k hlt
        have d2 : w.cell? ⟨b2, f2 + k, none⟩ = some (.string y) := by rw [hy]; exact hc2 k h2
        clear hc1 hc2 ha3 hb3 hx hy
        by_cases he : a[k] = b[k]
        · have q1 : (x.toList == y.toList) = true := by rw [hxl, hyl, he]; simp
          have HE := Lib.hid he
          clear hxl hyl he
          have HA := Lib.hid hall
          clear hall
          go_wp2
          go_quiet (fail)
          go_wp2
          go_roundw
          case rel =>
            refine ⟨k + 1, _, by omega, by go_num, rfl, fun j h1 ha hb => ?_⟩
            by_cases hj : j = k
            · subst hj; exact HE.out
            · exact HA.out j (by omega) ha hb
          case measure => simp [intOf]; omega
        · have q1 : (x.toList == y.toList) = false := by rw [hxl, hyl]; simpa using he
          have HE := Lib.hid (sameB_at k hlt h2 he)
          clear hxl hyl he hall
          go_wp2
          go_quiet (fail)
          go_wp2
          go_ret
          exact ⟨by rw [HE.out]; rfl, n + _, by rw [World.drewN_drewN]⟩
      · obtain rfl : a.length = k := by omega
        have HE := Lib.hid (sameB_all HL.out (fun k ha hb => hall k ha ha hb))
        clear hall ha3 hb3
        go_wp2
        go_ret
        exact ⟨by rw [HE.out]; rfl, _, rfl⟩
  · have hl1 : (((a.length : Nat) : Int) != (b.length : Nat)) = true := by simp; omega
    have HE := Lib.hid (sameB_len hl)
    clear hl ha3 hb3
    go_enter Tryd.func27, Tryd.ntmps27
    go_wp2
    go_ret
    exact ⟨by rw [HE.out]; rfl, 0, rfl⟩
end Go.Proofs.YtlfngcekbffngaaDoor
