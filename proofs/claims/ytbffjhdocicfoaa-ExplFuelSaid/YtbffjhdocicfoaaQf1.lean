/-
  DECLARATIONS that a claim wants besides.
-/
import Derived.Test.YtbffjhdocicfoaaQf0
import Derived.Test.YtbffjhdocicfoaaK00
import Derived.Test.YtbffjhdocicfoaaK01
import Derived.Test.YtbffjhdocicfoaaK02
import Derived.Test.YtbffjhdocicfoaaK03
import Derived.Test.YtbffjhdocicfoaaK04
import Derived.Test.YtbffjhdocicfoaaCdC
import Derived.Test.YtbffjhdocicfoaaScP
import Derived.Test.YtbffjhdocicfoaaK15
import Derived.Test.YtbffjhdocicfoaaK16
import Derived.Test.YtbffjhdocicfoaaRCdB
import Derived.Test.YtbffjhdocicfoaaRCdC
import Derived.Test.YtbffjhdocicfoaaScW
import Derived.Test.YtbffjhdocicfoaaK19
import Derived.Test.YtbffjhdocicfoaaScX
import Derived.Test.YtbffjhdocicfoaaScAt
import Derived.Test.YtbffjhdocicfoaaK21
import Derived.Test.YtbffjhdocicfoaaScPo
import Derived.Test.YtbffjhdocicfoaaScDo
import Derived.Test.YtbffjhdocicfoaaScPs
import Derived.Test.YtbffjhdocicfoaaScPb
import Derived.Test.YtbffjhdocicfoaaScY
import Derived.Test.YtbffjhdocicfoaaK27
import Derived.Test.YtbffjhdocicfoaaK10
import Derived.Test.YtbffjhdocicfoaaEnW
import Derived.Test.YtbffjhdocicfoaaTsO
import Derived.Test.YtbffjhdocicfoaaSuU
import Derived.Test.YtbffjhdocicfoaaTsR
import Derived.Test.YtbffjhdocicfoaaTsS
import Derived.Test.YtbffjhdocicfoaaEyR
import Derived.Test.YtbffjhdocicfoaaK33
import Derived.Test.YtbffjhdocicfoaaEyT
import Derived.Test.YtbffjhdocicfoaaEyU
import Derived.Test.YtbffjhdocicfoaaK36
import Derived.Test.YtbffjhdocicfoaaEyC
import Derived.Test.YtbffjhdocicfoaaEyD
import Derived.Test.YtbffjhdocicfoaaEyE
import Derived.Test.YtbffjhdocicfoaaEyF
import Derived.Test.YtbffjhdocicfoaaEyG
import Derived.Test.YtbffjhdocicfoaaEyH
import Derived.Test.YtbffjhdocicfoaaEyI
import Derived.Test.YtbffjhdocicfoaaEyX
import Derived.Test.YtbffjhdocicfoaaEyW
import Derived.Test.YtbffjhdocicfoaaK46
import Derived.Test.YtbffjhdocicfoaaRowP
import Derived.Test.YtbffjhdocicfoaaEh0
import Derived.Test.YtbffjhdocicfoaaRuU
import Derived.Deep.RegionHeld3
import Derived.Deep.DeepCutAuto
import Derived.Test.YtbffjhdocicfoaaEv1
/-
  EXPLORE'S ANSWER, as mathematics: with whatever fuel; what the laws ask of it. Of no program.
-/
namespace Go.Proofs.Ytbffjhdocicfoaa
set_option linter.unusedVariables false
set_option linter.unusedSimpArgs false
open CodM (St Pg rightP hReg hLoc)
open ScM
namespace ExR
open ExM ExN ExP
theorem exp_true {P : Pg} {wk : Bool} {fuel : Int} {a : List FdE} {n : Nat} (e : expS P wk fuel = (a, n, true)) : ∃ l, Full (nx P wk) (beg P) l ∧ (l.length : Int) ≤ min fuel 20000 ∧ a = fnd (ExO.endsOf (overB P) enS l) ∧ n = l.length := by
  rcases exp_cases P wk fuel with ⟨l, h1, h2, h3⟩ | ⟨h, -⟩
  · rw [e] at h3
    injection h3 with h3 h4; injection h4 with h4 h5
    exact ⟨l, h1, h2, h3, h4⟩
  · rw [e] at h; injection h with _ h; injection h with _ h; cases h
theorem exp_false {P : Pg} {wk : Bool} {fuel : Int} {a : List FdE} {n : Nat} (e : expS P wk fuel = (a, n, false)) : a = [] ∧ n = 0 ∧ ∀ l, Full (nx P wk) (beg P) l → min fuel 20000 < (l.length : Int) := by
  rcases exp_cases P wk fuel with ⟨l, h1, h2, h3⟩ | ⟨h, g⟩
  · rw [e] at h3; injection h3 with _ h3; injection h3 with _ h3; cases h3
  · rw [e] at h; injection h with h1 h; injection h with h2 h
    exact ⟨h1, h2, g⟩
/-! What the laws ask. -/
theorem law_runs {P : Pg} (hr : rightP P = true) {wk : Bool} {fuel : Int} {a : List FdE} {n : Nat} (e : expS P wk fuel = (a, n, true)) : a ≠ [] ∧ 0 < n ∧ (n : Int) ≤ fuel ∧ a.Pairwise (fun x y => OtM.Lt x.1 y.1) ∧ ∀ f ∈ a, ∃ s, runS P wk (beg P) (f.2.map toI) = (s, f.2.length, true) ∧ overB P s = true ∧ enS s = f.1 := by
  obtain ⟨l, h1, h2, rfl, rfl⟩ := exp_true e
  refine ⟨some_end hr wk h1 enS, full_pos _ _ h1, by omega, (ExO.fnd_ok _).srt, fun f hf => ?_⟩
  obtain ⟨s, a1, a2, a3⟩ := ExO.found_is (overB P) enS h1 hf
  exact ⟨s, (leads_run hr a1).1, a2, a3⟩
theorem law_fuel {P : Pg} {wk : Bool} {a : List FdE} {n : Nat} (e : expS P wk 300 = (a, n, true)) : expS P wk n = (a, n, true) ∧ expS P wk ((n : Int) - 1) = ([], 0, false) ∧ ∀ fuel : Int, expS P wk fuel = if (n : Int) ≤ fuel then (a, n, true) else ([], 0, false) := by
  obtain ⟨l, h1, h2, rfl, rfl⟩ := exp_true e
  refine ⟨?_, ?_, fun fuel => ?_⟩
  · rw [exp_full h1, if_pos (by omega)]
  · rw [exp_full h1, if_neg (by omega)]
  · rw [exp_full h1]
    by_cases c : (l.length : Int) ≤ fuel
    · rw [if_pos c, if_pos (by omega)]
    · rw [if_neg c, if_neg (by omega)]
theorem law_less {P : Pg} {wk : Bool} {a : List FdE} {n : Nat} (e : expS P wk 300 = (a, n, false)) {fuel : Int} (hf : fuel ≤ 300) : expS P wk fuel = ([], 0, false) := by
  obtain ⟨-, -, h⟩ := exp_false e
  rcases exp_cases P wk fuel with ⟨l, h1, h2, -⟩ | ⟨h1, -⟩
  · have := h l h1; omega
  · exact h1
end ExR
end Go.Proofs.Ytbffjhdocicfoaa

/-
  LAYER 13: rows of picks, a step's answer, and what stays behind a call that changes one box.
-/
namespace Go.Proofs.Ytbffjhdocicfoaa
open Go Go.ChangeShapes Go.WideShapes Go.RowKit Go.Deep
set_option linter.unusedVariables false
set_option linter.unusedSimpArgs false
set_option maxRecDepth 100000
open CodM (St Pg rightP)
open BfM (Wr plc)
open ScM

def kiC (p : Int × Bool) : List Value := [.int .i64 p.1, .bool p.2]
theorem kiC_len (p : Int × Bool) : (kiC p).length = 2 := rfl
/-- A row of picks. -/
abbrev KiR (B : Nat) (w : World) (v : Value) (b : List (Int × Bool)) : Prop := Rw kiC 2 B w v b
theorem ki_at {B : Nat} {w : World} {A : Option Addr} {c : Nat} {b : List (Int × Bool)} (h : 0 < b.length → ∃ g f, A = some ⟨g, f, none⟩ ∧ g < B ∧ ∀ j u, (b.flatMap kiC)[j]? = some u → w.cell? ⟨g, f + j, none⟩ = some u) :
    0 < b.length → ∃ g f, A = some ⟨g, f, none⟩ ∧ g < B ∧ ∀ j (hj : j < b.length), w.cell? ⟨g, f + j * 2, none⟩ = some (.int .i64 b[j].1) ∧ w.cell? ⟨g, f + j * 2 + 1, none⟩ = some (.bool b[j].2) := by
  intro h0
  obtain ⟨g, f, e, hg, hc⟩ := h h0
  refine ⟨g, f, e, hg, fun j hj => ⟨?_, ?_⟩⟩
  · exact hc (j * 2) _ ((fl_at kiC_len b j 0 hj (by omega)).trans rfl)
  · exact hc (j * 2 + 1) _ ((fl_at kiC_len b j 1 hj (by omega)).trans rfl)
section
variable {H : Type} {enc : TypeId × Value → H} {w : World} {base : Nat} {spare : Nat → Bool} {held : Bool}
end
/-! All blocks below n but g stay, and but those of picks from B on. -/
/-! A step of a run. -/
end Go.Proofs.Ytbffjhdocicfoaa

/-
  LAYER 16: what the laws' head says: true.
-/
namespace Go.Proofs.Ytbffjhdocicfoaa
open Go.RowKit Go.WideMaps
set_option linter.unusedVariables false
set_option linter.unusedSimpArgs false
open CodM (St Pg rightP hReg hLoc)
open BfM (Wr plc)
open ScM EnM ExM ExN ExP EyP EyM ExR

theorem inP_of {P : Pg} (h : PgIn P) : InP P := ⟨h.init, fun ss hs x hx => (h.ths ss hs x hx).2.2.2.1⟩
end Go.Proofs.Ytbffjhdocicfoaa

/-
  LAYER 13: ends and picks, alike.
-/
namespace Go.Proofs.Ytbffjhdocicfoaa
open Go.RowKit
set_option linter.unusedVariables false
set_option linter.unusedSimpArgs false
open CodM (St Pg rightP)
open BfM (Wr plc)
open ScM

set_option maxHeartbeats 4000000 in
set_option maxRecDepth 100000 in
theorem kisame_any {B : Nat} {v u : Value} {ns : List (Int × Bool)} (w : World) (hv : KiR B w v ns) (hu : KiR B w u ns) (hBB : B ≤ w.heap.size) :
    Calls Try.prog 32 #[v, u] w fun e w' => e = .returned (.bool true) ∧ Below w.heap.size w w' := by
  obtain ⟨A1, c1, rfl, ha1, ha2, -, ha3⟩ := hv
  obtain ⟨A2, c2, rfl, hb1, hb2, -, hb3⟩ := hu
  unfold maxLen at ha2 hb2
  have ha3 := ki_at (c := c1) ha3
  have hb3 := ki_at (c := c2) hb3
  go_enter Try.func32, Try.ntmps32
  go_wp2
  go_loopw [5] (fun i wr => ∃ k : Nat, k ≤ ns.length ∧ i = .int .i64 k ∧ Below w.heap.size w wr) (fun i _ => ns.length - (intOf i).toNat)
  case atStart => exact ⟨0, Nat.zero_le _, rfl, Below.refl _ _⟩
  case round =>
    obtain ⟨k, hk, rfl, hB⟩ := hrel
    by_cases hlt : k < ns.length
    · obtain ⟨b1, f1, rfl, hl1, hc1⟩ := ha3 (by omega)
      obtain ⟨b2, f2, rfl, hl2, hc2⟩ := hb3 (by omega)
      obtain ⟨p0, p1⟩ := hc1 k hlt
      obtain ⟨q0, q1⟩ := hc2 k hlt
      have d1 := ((hB.mono hBB).cell (p := ⟨b1, f1 + k * 2, none⟩) hl1).trans p0
      have d2 := ((hB.mono hBB).cell (p := ⟨b1, f1 + k * 2 + 1, none⟩) hl1).trans p1
      have d3 := ((hB.mono hBB).cell (p := ⟨b2, f2 + k * 2, none⟩) hl2).trans q0
      have d4 := ((hB.mono hBB).cell (p := ⟨b2, f2 + k * 2 + 1, none⟩) hl2).trans q1
      obtain ⟨x, hx⟩ : ∃ x, x = ns[k] := ⟨_, rfl⟩
      rw [← hx] at d1 d2 d3 d4
      clear hx hc1 hc2 ha3 hb3 p0 p1 q0 q1
      go_wp2
      go_quiet (fail)
      go_wp2
      go_roundw
      case rel => exact ⟨k + 1, by omega, by go_num, below_drewN hB _⟩
      case measure => simp [intOf]; omega
    · obtain rfl : ns.length = k := by omega
      clear ha3 hb3
      go_wp2
      go_ret
      exact ⟨rfl, hB⟩
end Go.Proofs.Ytbffjhdocicfoaa

/-
  THE DOCUMENT'S ends: SameOut, Ahead, Less, Set, Has, Same.
-/
namespace Go.Proofs.Ytbffjhdocicfoaa
open Go.RowKit
set_option linter.unusedVariables false
set_option linter.unusedSimpArgs false
open OtM

set_option maxHeartbeats 4000000 in
set_option maxRecDepth 100000 in
theorem rsout_any {B : Nat} {v u : Value} {a b : Ot} (w : World) (hv : OutR B w v a) (hu : OutR B w u b) (hBB : B ≤ w.heap.size) :
    Calls Try.prog 12 #[v, u] w fun e w' => e = .returned (.bool (decide (a = b))) ∧ Below w.heap.size w w' := by
  obtain ⟨vm, vr, rfl, h1, h2⟩ := hv
  obtain ⟨um, ur, rfl, g1, g2⟩ := hu
  have HC1 := Lib.hid (fun W (hW : Below w.heap.size w W) => nsame_dec W (h1.below (hW.mono hBB)) (g1.below (hW.mono hBB)) (Nat.le_trans hBB hW.size))
  have HC2 := Lib.hid (fun W (hW : Below w.heap.size w W) => nsame_dec W (h2.below (hW.mono hBB)) (g2.below (hW.mono hBB)) (Nat.le_trans hBB hW.size))
  obtain ⟨A1, n1, c1, rfl⟩ := h1.sl
  obtain ⟨A2, n2, c2, rfl⟩ := h2.sl
  obtain ⟨D1, n3, e1, rfl⟩ := g1.sl
  obtain ⟨D2, n4, e2, rfl⟩ := g2.sl
  clear h1 h2 g1 g2
  have HAB := Lib.hid (show decide (a = b) = (decide (a.1 = b.1) && decide (a.2 = b.2)) from by
    obtain ⟨a1, a2⟩ := a
    obtain ⟨b1, b2⟩ := b
    simp)
  obtain ⟨W2, hW2⟩ : ∃ W, W = (w.alloc (.cells #[.slice A1 n1 c1, .slice A2 n2 c2] 33)).alloc (.cells #[.slice D1 n3 e1, .slice D2 n4 e2] 33) := ⟨_, rfl⟩
  obtain ⟨ga, hga⟩ : ∃ g, g = w.heap.size := ⟨_, rfl⟩
  obtain ⟨gb, hgb⟩ : ∃ g, g = w.heap.size + 1 := ⟨_, rfl⟩
  have HX := Lib.hid (show BoxC W2 ga 33 #[.slice A1 n1 c1, .slice A2 n2 c2] from by rw [hW2, hga]; exact (BoxC.new w _ _).alloc _)
  have HY := Lib.hid (show BoxC W2 gb 33 #[.slice D1 n3 e1, .slice D2 n4 e2] from by rw [hW2, hgb]; have := BoxC.new (w.alloc (.cells #[.slice A1 n1 c1, .slice A2 n2 c2] 33)) 33 #[.slice D1 n3 e1, .slice D2 n4 e2]; rw [World.size_alloc] at this; exact this)
  have HB2 := Lib.hid (show Below w.heap.size w W2 from by rw [hW2]; exact below_al (below_al (Below.refl _ _) _) _)
  go_enter Try.func12, Try.ntmps12
  go_upto_region 1 with fail
  rw [← hW2]
  (try rw [← hgb])
  (try rw [← hga])
  clear hW2 hga hgb
  have x0 := HX.out.cell 0 (.slice A1 n1 c1) rfl
  have x1 := HX.out.cell 1 (.slice A2 n2 c2) rfl
  have y0 := HY.out.cell 0 (.slice D1 n3 e1) rfl
  have y1 := HY.out.cell 1 (.slice D2 n4 e2) rfl
  go_wp2_with fail
  refine (HC1.out _ HB2.out).mono ?_
  rintro e V1 ⟨r1, rfl, hr1, hb⟩
  have HB3 := Lib.hid (chain HB2.out hb)
  replace x0 := kc hb x0
  replace x1 := kc hb x1
  replace y0 := kc hb y0
  replace y1 := kc hb y1
  clear hb
  cases r1
  · have HE := Lib.hid (show decide (a = b) = false from by rw [HAB.out, show decide (a.1 = b.1) = false from decide_eq_false (fun h => by simp at hr1; exact hr1 h)]; rfl)
    clear hr1
    go_wp2
    go_ret
    exact ⟨by rw [HE.out]; rfl, HB3.out⟩
  · have HE := Lib.hid (show decide (a = b) = decide (a.2 = b.2) from by rw [HAB.out, show decide (a.1 = b.1) = true from decide_eq_true (hr1.1 rfl)]; rfl)
    clear hr1
    go_wp2_with fail
    refine (HC2.out _ HB3.out).mono ?_
    rintro e V2 ⟨r2, rfl, hr2, hb⟩
    have HB4 := Lib.hid (chain HB3.out hb)
    have HF := Lib.hid (show decide (a.2 = b.2) = r2 from by
      cases r2
      · exact decide_eq_false (fun h => by simp at hr2; exact hr2 h)
      · exact decide_eq_true (hr2.1 rfl))
    clear hb hr2
    go_wp2
    go_ret
    exact ⟨by rw [HE.out, HF.out]; rfl, HB4.out⟩
end Go.Proofs.Ytbffjhdocicfoaa

/-
  LAYER 16: the walk of ExplAll.
-/
namespace Go.Proofs.Ytbffjhdocicfoaa
open Go.RowKit Go.WideMaps
set_option linter.unusedVariables false
set_option linter.unusedSimpArgs false
open CodM (St Pg rightP hReg hLoc)
open BfM (Wr plc)
open ScM EnM ExM ExN ExP EyP EyM ExR

theorem own_max {base T s n : Nat} {W : World} {v : Value} {xs : List Value} (h : W.ownsRow base T s v n xs) : n ≤ 9223372036854775807 := by
  rcases h.2 with ⟨_, h0⟩ | ⟨g, c, cur, _, _, _, h1, h2, _⟩
  · omega
  · unfold maxLen at h2; omega
end Go.Proofs.Ytbffjhdocicfoaa

/-
  LAYER 16: the walk of ExplRuns.
-/
namespace Go.Proofs.Ytbffjhdocicfoaa
open Go.RowKit Go.WideMaps
set_option linter.unusedVariables false
set_option linter.unusedSimpArgs false
open CodM (St Pg rightP hReg hLoc)
open BfM (Wr plc)
open ScM EnM ExM ExN ExP EyP EyM ExR

theorem kic_pkc (k : List (Nat × Bool)) : (k.map toI).flatMap kiC = k.flatMap pkC := by
  induction k with
  | nil => rfl
  | cons a k ih => rw [List.map_cons, List.flatMap_cons, List.flatMap_cons, ih]; rfl
theorem own_kir {b : Nat} {W : World} {v : Value} {k : List (Nat × Bool)} (h : OwnK b W v k) : KiR W.heap.size W v (k.map toI) := by
  refine Rw.own (base := b) (T := 76) ?_ (Nat.le_refl _)
  rw [kic_pkc, List.length_map]; exact h
end Go.Proofs.Ytbffjhdocicfoaa

