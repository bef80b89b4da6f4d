/-
  whether two rows of texts are alike (the document's Same).
-/
import Derived.Test.YtkkjodjachbifaaGreatDoorStrs
namespace Go.Proofs.YtkkjodjachbifaaGreatDoor
open Go.RowKit
open WordM (L)
set_option linter.unusedVariables false
/-- Whether two rows of texts are alike. -/
def sameB (a b : List L) : Bool := decide (a = b)
theorem sv_inj {a b : L} (h : sv a = sv b) : a = b := by
  unfold sv at h
  injection h with h
  have := congrArg (fun x : ByteArray => x.data.toList) h
  simpa using this
theorem sameB_len {a b : List L} (h : a.length ≠ b.length) : sameB a b = false := decide_eq_false (fun e => h (by rw [e]))
theorem sameB_at {a b : List L} (k : Nat) (ha : k < a.length) (hb : k < b.length) (h : a[k] ≠ b[k]) : sameB a b = false := decide_eq_false (fun e => by subst e; exact h rfl)
theorem sameB_all {a b : List L} (hl : a.length = b.length) (h : ∀ k (ha : k < a.length) (hb : k < b.length), a[k] = b[k]) : sameB a b = true :=
  decide_eq_true (List.ext_getElem hl h)
def SameRel (a b : List L) (w : World) (i : Value) (wr : World) : Prop :=
  ∃ k n : Nat, k ≤ a.length ∧ i = .int .i64 k ∧ wr = w.drewN n ∧ ∀ j (_ : j < k) (ha : j < a.length) (hb : j < b.length), a[j] = b[j]
set_option maxHeartbeats 1000000 in
set_option maxRecDepth 100000 in
theorem same_any (B : Nat) (va vb : Value) (a b : List L) (w : World) (ha : Strs B w va a) (hb : Strs B w vb b) :
    Calls Tryz.prog 21 #[va, vb] w fun e w' => e = .returned (.bool (sameB a b)) ∧ ∃ n, w' = w.drewN n := by
  obtain ⟨A1, c1, rfl, ha1, ha2, ha3⟩ := ha
  obtain ⟨A2, c2, rfl, hb1, hb2, hb3⟩ := hb
  unfold maxLen at ha2 hb2
  by_cases hl : a.length = b.length
  · have hl1 : (((a.length : Nat) : Int) != (b.length : Nat)) = false := by rw [hl]; simp
    have HL := Lib.hid hl
    have hl2 : a.length ≤ b.length := by omega
    clear hl
    go_enter Tryz.func21, Tryz.ntmps21
    go_wp2
    go_loopw [5] (fun i wr => SameRel a b w i wr) (fun i _ => a.length - (intOf i).toNat)
    case atStart => exact ⟨0, 0, Nat.zero_le _, rfl, rfl, fun j h => absurd h (by omega)⟩
    case round =>
      obtain ⟨k, n, hk, rfl, rfl, hall⟩ := hrel
      by_cases hlt : k < a.length
      · obtain ⟨b1, f1, rfl, hb11, hc1⟩ := ha3 (by omega)
        obtain ⟨b2, f2, rfl, hb21, hc2⟩ := hb3 (by omega)
        have h2 : k < b.length := by omega
        obtain ⟨x, hx⟩ : ∃ x : ByteArray, x = ⟨(a[k]).toArray⟩ := ⟨_, rfl⟩
        obtain ⟨y, hy⟩ : ∃ y : ByteArray, y = ⟨(b[k]).toArray⟩ := ⟨_, rfl⟩
        have hxl : x.toList = a[k] := by rw [hx, Lib.toList_data]
        have hyl : y.toList = b[k] := by rw [hy, Lib.toList_data]
        have d1 : w.cell? ⟨b1, f1 + k, none⟩ = some (.string x) := by rw [hx]; exact hc1 k hlt
        have d2 : w.cell? ⟨b2, f2 + k, none⟩ = some (.string y) := by rw [hy]; exact hc2 k h2
        clear hc1 hc2 ha3 hb3 hx hy
        by_cases he : a[k] = b[k]
        · have q1 : (x.toList == y.toList) = true := by rw [hxl, hyl, he]; simp
          have HE := Lib.hid he
          clear hxl hyl he
          have HA := Lib.hid hall
          clear hall
          go_wp2
          go_quiet (fail)
          go_wp2
          go_roundw
          case rel =>
            refine ⟨k + 1, _, by omega, by go_num, rfl, fun j h1 ha hb => ?_⟩
            by_cases hj : j = k
            · subst hj; exact HE.out
            · exact HA.out j (by omega) ha hb
          case measure => simp [intOf]; omega
        · have q1 : (x.toList == y.toList) = false := by rw [hxl, hyl]; simpa using he
          have HE := Lib.hid (sameB_at k hlt h2 he)
          clear hxl hyl he hall
          go_wp2
          go_quiet (fail)
          go_wp2
          go_ret
          exact ⟨by rw [HE.out]; rfl, n + _, by rw [World.drewN_drewN]⟩
      · obtain rfl : a.length = k := by omega
        have HE := Lib.hid (sameB_all HL.out (fun k ha hb => hall k ha ha hb))
        clear hall ha3 hb3
        go_wp2
        go_ret
        exact ⟨by rw [HE.out]; rfl, _, rfl⟩
  · have hl1 : (((a.length : Nat) : Int) != (b.length : Nat)) = true := by simp; omega
    have HE := Lib.hid (sameB_len hl)
    clear hl ha3 hb3
    go_enter Tryz.func21, Tryz.ntmps21
    go_wp2
    go_ret
    exact ⟨by rw [HE.out]; rfl, 0, rfl⟩
theorem strs_lit (w : World) (ls : List L) (T : TypeId) (h : ls.length ≤ maxLen) : Strs (w.heap.size + 1) (w.alloc (.cells (svs ls).toArray T)) (.slice (some ⟨w.heap.size, 0, none⟩) ls.length ls.length) ls := by
  refine ⟨_, _, rfl, Nat.le_refl _, h, fun _ => ⟨w.heap.size, 0, rfl, by omega, fun j hj => ?_⟩⟩
  rw [Nat.zero_add]
  rw [World.cell?_alloc_at _ _ _ _ rfl]
  show ((svs ls).toArray)[j]? = _
  simp [svs, hj]
theorem same_yes (B : Nat) (va vb : Value) (a : List L) (w : World) (ha : Strs B w va a) (hb : Strs B w vb a) :
    Calls Tryz.prog 21 #[va, vb] w fun e w' => e = .returned (.bool true) ∧ ∃ n, w' = w.drewN n := by
  have := same_any B va vb a a w ha hb
  rw [show sameB a a = true from decide_eq_true rfl] at this
  exact this
/-- Alike, the second one being written out. -/
theorem same_lit {W0 w : World} {v : Value} {ls : List L} {T : TypeId} (ho : w.ownsRow W0.heap.size 9 1 v ls.length (svs ls)) (h : ls.length ≤ maxLen := by decide) :
    Calls Tryz.prog 21 #[v, .slice (some ⟨w.heap.size, 0, none⟩) ls.length ls.length] (w.alloc (.cells (svs ls).toArray T)) fun e w' => e = .returned (.bool true) ∧ Below w.heap.size w w' :=
  (same_yes (w.heap.size + 1) _ _ ls _ (strs_more (strs_below (strs_own ho) ((Below.refl _ _).alloc (Nat.le_refl _) _)) (by omega)) (strs_lit w ls T h)).mono fun _ _ ⟨h1, n, h2⟩ => ⟨h1, by rw [h2]; exact below_drewN ((Below.refl _ _).alloc (Nat.le_refl _) _) n⟩
end Go.Proofs.YtkkjodjachbifaaGreatDoor
