/-
  LAYER 9's parts: isPlace, arrive, slices.Clone over numbers and writes, Push.
-/
import Derived.Test.YtnfdaajbfheocaaBfL
namespace Go.Proofs.Ytnfdaajbfheocaa
open Go.RowKit
set_option linter.unusedVariables false
set_option linter.unusedSimpArgs false
open BfM

set_option maxHeartbeats 1000000 in
set_option maxRecDepth 100000 in
theorem place_any (A : Option Addr) (m c : Nat) (l : Int) (w : World) (hm : m ≤ 9223372036854775807) :
    Calls Try.prog 24 #[.slice A m c, .int .i64 l] w fun e w' => e = .returned (.bool (plc m l)) ∧ Below w.heap.size w w' := by
  by_cases h1 : 0 ≤ l
  · by_cases h2 : l < m
    · have hp : plc m l = true := decide_eq_true ⟨h1, h2⟩
      rw [hp]; clear hp
      go_enter Try.func24, Try.ntmps24
      go_wp2
      go_ret
      exact ⟨rfl, Below.refl _ _⟩
    · have hp : plc m l = false := decide_eq_false (fun h => h2 h.2)
      rw [hp]; clear hp
      go_enter Try.func24, Try.ntmps24
      go_wp2
      go_ret
      exact ⟨rfl, Below.refl _ _⟩
  · have hp : plc m l = false := decide_eq_false (fun h => h1 h.1)
    rw [hp]; clear hp
    go_enter Try.func24, Try.ntmps24
    go_wp2
    go_ret
    exact ⟨rfl, Below.refl _ _⟩
theorem inC_set : ∀ (m : List Int) (k : Nat) (x : Int), (m.flatMap inC).set k (.int .i64 x) = (m.set k x).flatMap inC
  | [], k, x => rfl
  | a :: r, 0, x => rfl
  | a :: r, k + 1, x => by
    rw [List.set_cons_succ, List.flatMap_cons, List.flatMap_cons]
    show (Value.int .i64 a :: r.flatMap inC).set (k + 1) _ = Value.int .i64 a :: (r.set k x).flatMap inC
    rw [List.set_cons_succ, inC_set r k x]
/-- A store into a row of numbers of the call's own. -/
theorem ownI_set {base g c : Nat} {w : World} {m : List Int} (h : OwnI base w (.slice (some ⟨g, 0, none⟩) m.length c) m) (k : Nat) (x : Int) : OwnI base (w.setCell ⟨g, k, none⟩ (.int .i64 x)) (.slice (some ⟨g, 0, none⟩) m.length c) (m.set k x) := by
  have := (h.stored k (.int .i64 x)).1
  rw [inC_set] at this
  unfold OwnI; rw [List.length_set]; exact this
theorem ownI_cell {base g c : Nat} {w : World} {m : List Int} (h : OwnI base w (.slice (some ⟨g, 0, none⟩) m.length c) m) {k : Nat} (hk : k < m.length) : w.cell? ⟨g, k, none⟩ = some (.int .i64 m[k]) := by
  rw [h.cellAt k (by omega)]
  have := flat_at inC_len m k 0 hk (by omega)
  rw [Nat.mul_one] at this; exact this
theorem own_form {base T s n : Nat} {w : World} {v : Value} {xs : List Value} (h : w.ownsRow base T s v n xs) (hn : 0 < n) : ∃ g c, v = .slice (some ⟨g, 0, none⟩) n c ∧ base ≤ g ∧ g < w.heap.size ∧ n ≤ c ∧ c ≤ maxLen := by
  rcases h.2 with ⟨rfl, h0⟩ | ⟨g, cap, cur, rfl, h2, h3, h4, h5, _⟩
  · omega
  · exact ⟨g, cap, rfl, h2, (Array.getElem?_eq_some_iff.1 h3).1, h4, h5⟩
set_option maxHeartbeats 4000000 in
set_option maxRecDepth 100000 in
theorem arrive_any {base : Nat} {v : Value} {m : List Int} (x : Wr) (w : World) (ho : OwnI base w v m) (hb : base ≤ w.heap.size) (hm : m.length ≤ 1000000) :
    Calls Try.prog 26 #[v, .agg #[.int .i64 x.loc, .int .i64 x.n]] w fun e w' => e = .returned (.bool (plc m.length x.loc)) ∧ OwnI base w' v (if plc m.length x.loc then arr m x else m) ∧ Below base w w' := by
  have HA := Lib.hid (below_al (Below.refl w.heap.size w) (.cells #[.int .i64 x.loc, .int .i64 x.n] 24))
  have HO := Lib.hid ho
  have hx0 : (w.alloc (.cells #[.int .i64 x.loc, .int .i64 x.n] 24)).cell? ⟨w.heap.size, 0, none⟩ = some (.int .i64 x.loc) := by rw [World.cell?_alloc_at _ _ _ _ rfl]; rfl
  have hx1 : (w.alloc (.cells #[.int .i64 x.loc, .int .i64 x.n] 24)).cell? ⟨w.heap.size, 1, none⟩ = some (.int .i64 x.n) := by rw [World.cell?_alloc_at _ _ _ _ rfl]; rfl
  obtain ⟨l, n⟩ := x
  have HPL := Lib.hid (fun A c (W : World) => place_any A m.length c l W (by omega))
  by_cases hp : plc m.length l = true
  · rw [if_pos hp]
    rw [hp]
    rw [hp] at HPL
    have hl := hp
    unfold plc at hl
    rw [decide_eq_true_eq] at hl
    obtain ⟨k, rfl⟩ : ∃ k : Nat, l = k := ⟨l.toNat, by omega⟩
    have hk : k < m.length := by omega
    obtain ⟨g, c, rfl, hg1, hg2, hc1, hc2⟩ := own_form ho (by omega)
    clear ho hp hl
    
    go_enter Try.func26, Try.ntmps26
    go_wp2_with fail
    refine (HPL.out _ _ _).mono ?_
    rintro e w1 ⟨rfl, hb1⟩
    have hB := chain HA.out hb1
    replace hx0 := kc hb1 hx0
    replace hx1 := kc hb1 hx1
    have HO1 := Lib.hid (own_below HO.out hB)
    have hcl := ownI_cell HO1.out hk
    have hfr := HO1.out.frozenAt k
    have HS := Lib.hid (ownI_set HO1.out k n)
    have HBS := Lib.hid ((hB.mono hb).setCell (p := ⟨g, k, none⟩) hg1 (.int .i64 n))
    clear hB hb1 HPL HA
    generalize m[k] = old at *
    go_wp2
    go_ret
    refine ⟨rfl, ?_, ?_⟩
    · simpa [arr] using HS.out
    · exact HBS.out
  · rw [if_neg hp]
    rw [Bool.not_eq_true] at hp
    rw [hp]
    rw [hp] at HPL
    obtain ⟨A, c, rfl⟩ := own_slice ho
    clear ho hp
    go_enter Try.func26, Try.ntmps26
    go_wp2_with fail
    refine (HPL.out _ _ _).mono ?_
    rintro e w1 ⟨rfl, hb1⟩
    have hB := chain HA.out hb1
    have HO1 := Lib.hid (own_below HO.out hB)
    clear HPL HA
    go_wp2
    go_ret
    exact ⟨rfl, HO1.out, hB.mono hb⟩
end Go.Proofs.Ytnfdaajbfheocaa
