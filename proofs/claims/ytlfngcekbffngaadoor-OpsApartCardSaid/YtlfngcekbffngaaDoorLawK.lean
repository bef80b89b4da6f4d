/-
  BOXES OF LINES AND ATOMS, kept behind calls; what the laws of layer 3 ask first.
-/
import Derived.Test.YtlfngcekbffngaaDoorSame
import Derived.Test.YtlfngcekbffngaaDoorOpsI
import Derived.Test.YtlfngcekbffngaaDoorAtomW
namespace Go.Proofs.YtlfngcekbffngaaDoor
open Go.RowKit
set_option linter.unusedVariables false
open WordM (L)

theorem kc {W w' : World} {g i : Nat} {v : Value} (hB : Below W.heap.size W w') (h : W.cell? ⟨g, i, none⟩ = some v) : w'.cell? ⟨g, i, none⟩ = some v := (hB.cell (p := ⟨g, i, none⟩) (lt_of_cell h)).trans h
def LnBox (w : World) (g : Nat) (op : Int) (r o b : ByteArray) (n : Int) : Prop :=
  w.cell? ⟨g, 0, none⟩ = some (.int .i64 op) ∧ w.cell? ⟨g, 1, none⟩ = some (.string r) ∧ w.cell? ⟨g, 2, none⟩ = some (.string o) ∧ w.cell? ⟨g, 3, none⟩ = some (.string b) ∧ w.cell? ⟨g, 4, none⟩ = some (.int .i64 n)
def AtBox (w : World) (g : Nat) (t : Int) (nm : ByteArray) (n : Int) : Prop :=
  w.cell? ⟨g, 0, none⟩ = some (.int .i64 t) ∧ w.cell? ⟨g, 1, none⟩ = some (.string nm) ∧ w.cell? ⟨g, 2, none⟩ = some (.int .i64 n)
theorem LnBox.below {w w' : World} {g : Nat} {op n : Int} {r o b : ByteArray} (h : LnBox w g op r o b n) (hB : Below w.heap.size w w') : LnBox w' g op r o b n := by
  obtain ⟨h0, h1, h2, h3, h4⟩ := h
  exact ⟨kc hB h0, kc hB h1, kc hB h2, kc hB h3, kc hB h4⟩
theorem AtBox.below {w w' : World} {g : Nat} {t n : Int} {nm : ByteArray} (h : AtBox w g t nm n) (hB : Below w.heap.size w w') : AtBox w' g t nm n := by
  obtain ⟨h0, h1, h2⟩ := h
  exact ⟨kc hB h0, kc hB h1, kc hB h2⟩
theorem LnBox.alloc {w : World} {g : Nat} {op n : Int} {r o b : ByteArray} (h : LnBox w g op r o b n) (x : Obj) : LnBox (w.alloc x) g op r o b n := h.below ((Below.refl _ _).alloc (Nat.le_refl _) _)
theorem AtBox.alloc {w : World} {g : Nat} {t n : Int} {nm : ByteArray} (h : AtBox w g t nm n) (x : Obj) : AtBox (w.alloc x) g t nm n := h.below ((Below.refl _ _).alloc (Nat.le_refl _) _)
theorem LnBox.new (w : World) (op n : Int) (r o b : ByteArray) (T : TypeId) : LnBox (w.alloc (.cells #[.int .i64 op, .string r, .string o, .string b, .int .i64 n] T)) w.heap.size op r o b n := by
  refine ⟨?_, ?_, ?_, ?_, ?_⟩ <;> (rw [World.cell?_alloc_at _ _ _ _ rfl]; rfl)
theorem AtBox.new (w : World) (t n : Int) (nm : ByteArray) (T : TypeId) : AtBox (w.alloc (.cells #[.int .i64 t, .string nm, .int .i64 n] T)) w.heap.size t nm n := by
  refine ⟨?_, ?_, ?_⟩ <;> (rw [World.cell?_alloc_at _ _ _ _ rfl]; rfl)

set_option maxHeartbeats 1000000 in
set_option maxRecDepth 100000 in
theorem greatline_any (op n : Int) (r o b : ByteArray) (w : World) :
    Calls Tryd.prog 10 #[lnv op r o b n] w fun e w' => e = .returned (.bool (decide (1000 < r.size) || (decide (1000 < o.size) || decide (1000 < b.size)))) ∧ Below w.heap.size w w' := by
  unfold lnv
  by_cases h1 : 1000 < r.size
  · have q1 : decide ((1000 : Int) < (r.size : Int)) = true := decide_eq_true (by omega)
    have E := Lib.hid (show (decide (1000 < r.size) || (decide (1000 < o.size) || decide (1000 < b.size))) = true by rw [decide_eq_true h1]; rfl)
    clear h1
    go_enter Tryd.func10, Tryd.ntmps10
    go_wp2
    go_ret
    exact ⟨ret_bool (by rw [E.out]), (Below.refl _ _).alloc (Nat.le_refl _) _⟩
  · have q1 : decide ((1000 : Int) < (r.size : Int)) = false := decide_eq_false (by omega)
    by_cases h2 : 1000 < o.size
    · have q2 : decide ((1000 : Int) < (o.size : Int)) = true := decide_eq_true (by omega)
      have E := Lib.hid (show (decide (1000 < r.size) || (decide (1000 < o.size) || decide (1000 < b.size))) = true by rw [decide_eq_true h2]; simp)
      clear h1 h2
      go_enter Tryd.func10, Tryd.ntmps10
      go_wp2
      go_ret
      exact ⟨ret_bool (by rw [E.out]), (Below.refl _ _).alloc (Nat.le_refl _) _⟩
    · have q2 : decide ((1000 : Int) < (o.size : Int)) = false := decide_eq_false (by omega)
      have E := Lib.hid (show (decide (1000 < r.size) || (decide (1000 < o.size) || decide (1000 < b.size))) = decide (1000 < b.size) by rw [decide_eq_false h1, decide_eq_false h2]; rfl)
      have E2 := Lib.hid (show decide ((1000 : Int) < (b.size : Int)) = decide (1000 < b.size) by congr 1; exact propext (by omega))
      clear h1 h2
      go_enter Tryd.func10, Tryd.ntmps10
      go_wp2
      go_ret
      exact ⟨ret_bool (by rw [E.out, ← E2.out]), (Below.refl _ _).alloc (Nat.le_refl _) _⟩

/-- Whether words are too much. -/
def greatB (ls : List L) : Bool := (ls.take 9).any (fun l => decide (1000 < l.length)) || decide (9 < ls.length)
theorem greatB_no {ls : List L} (h : greatB ls = false) : ls.length ≤ 9 ∧ ∀ l ∈ ls, l.length ≤ 1000 := by
  unfold greatB at h
  simp only [Bool.or_eq_false_iff, decide_eq_false_iff_not, List.any_eq_false, decide_eq_true_eq] at h
  have h9 : ls.length ≤ 9 := by omega
  refine ⟨h9, fun l hl => ?_⟩
  have := h.1 l (by rw [List.take_of_length_le h9]; exact hl)
  omega
theorem greatB_hit {ls : List L} {k : Nat} (hk : k < ls.length) (h9 : k < 9) (h : 1000 < (ls[k]).length) : greatB ls = true := by
  unfold greatB
  rw [Bool.or_eq_true]
  left
  rw [List.any_eq_true]
  refine ⟨ls[k], ?_, decide_eq_true h⟩
  rw [List.mem_iff_getElem]
  exact ⟨k, by simp; omega, by simp⟩
theorem greatB_end {ls : List L} {k : Nat} (hk : k ≤ ls.length) (h : ¬ (k < ls.length ∧ k < 9)) (hall : ∀ j (h : j < ls.length), j < k → (ls[j]).length ≤ 1000) (hk9 : k ≤ 9) : greatB ls = decide (9 < ls.length) := by
  unfold greatB
  have : (ls.take 9).any (fun l => decide (1000 < l.length)) = false := by
    rw [List.any_eq_false]
    intro x hx
    obtain ⟨j, hj, rfl⟩ := List.mem_iff_getElem.1 hx
    simp only [List.length_take] at hj
    have := hall j (by omega) (by omega)
    rw [List.getElem_take]
    simp; omega
  rw [this]; rfl
def GtRel (ls : List L) (i : Value) : Prop := ∃ k : Nat, k ≤ ls.length ∧ k ≤ 9 ∧ i = .int .i64 k ∧ ∀ j (h : j < ls.length), j < k → (ls[j]).length ≤ 1000
set_option maxHeartbeats 1000000 in
set_option maxRecDepth 100000 in
theorem great_any {B : Nat} {v : Value} {ls : List L} (w : World) (h : Strs B w v ls) :
    Calls Tryd.prog 11 #[v] w fun e w' => e = .returned (.bool (greatB ls)) ∧ w = w' := by
  obtain ⟨A1, c1, rfl, ha1, ha2, ha3⟩ := h
  unfold maxLen at ha2
  go_enter Tryd.func11, Tryd.ntmps11
  go_wp2
  go_loop [3] (fun i => GtRel ls i) (fun i => ls.length - (intOf i).toNat)
  case atStart => exact ⟨0, Nat.zero_le _, by omega, rfl, fun j _ h => absurd h (Nat.not_lt_zero j)⟩
  case round =>
    obtain ⟨k, hk, hk9, rfl, hall⟩ := hrel
    have HA := Lib.hid hall
    clear hall
    by_cases hlt : k < ls.length
    · by_cases h9 : k < 9
      · obtain ⟨b1, f1, rfl, hb11, hc1⟩ := ha3 (by omega)
        obtain ⟨x, hx⟩ : ∃ x : ByteArray, x = ⟨(ls[k]).toArray⟩ := ⟨_, rfl⟩
        have hxl : x.size = (ls[k]).length := by rw [hx, Lib.size_eq]
        have d1 : w.cell? ⟨b1, f1 + k, none⟩ = some (.string x) := by rw [hx]; exact hc1 k hlt
        clear hc1 ha3 hx
        by_cases hq : 1000 < (ls[k]).length
        · have q : decide ((1000 : Int) < (x.size : Int)) = true := decide_eq_true (by omega)
          have HE := Lib.hid (greatB_hit hlt h9 hq)
          clear hxl hq
          go_wp2
          go_ret
          exact ⟨ret_bool (by rw [HE.out]), rfl⟩
        · have q : decide ((1000 : Int) < (x.size : Int)) = false := decide_eq_false (by omega)
          have HE : Hid ((ls[k]).length ≤ 1000) := Lib.hid (by omega)
          clear hxl hq
          go_wp2
          go_round
          case rel =>
            refine ⟨k + 1, by omega, by omega, by go_num, fun j hj h1 => ?_⟩
            by_cases e : j = k
            · subst e; exact HE.out
            · exact HA.out j hj (by omega)
          case measure => simp [intOf]; omega
      · have HE := Lib.hid (greatB_end hk (fun h => h9 h.2) HA.out hk9)
        have E2 := Lib.hid (show decide ((9 : Int) < (ls.length : Int)) = decide (9 < ls.length) by congr 1; exact propext (by omega))
        clear ha3
        go_wp2
        go_ret
        exact ⟨ret_bool (by rw [HE.out, ← E2.out]), rfl⟩
    · have HE := Lib.hid (greatB_end hk (fun h => hlt h.1) HA.out hk9)
      have E2 := Lib.hid (show decide ((9 : Int) < (ls.length : Int)) = decide (9 < ls.length) by congr 1; exact propext (by omega))
      clear ha3
      go_wp2
      go_ret
      exact ⟨ret_bool (by rw [HE.out, ← E2.out]), rfl⟩
end Go.Proofs.YtlfngcekbffngaaDoor
