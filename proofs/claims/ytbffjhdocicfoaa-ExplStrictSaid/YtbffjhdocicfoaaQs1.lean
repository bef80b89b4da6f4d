/-
  DECLARATIONS that a claim wants besides.
-/
import Derived.Test.YtbffjhdocicfoaaQs0
import Derived.Test.YtbffjhdocicfoaaK00
import Derived.Test.YtbffjhdocicfoaaK01
import Derived.Test.YtbffjhdocicfoaaK02
import Derived.Test.YtbffjhdocicfoaaK03
import Derived.Test.YtbffjhdocicfoaaK04
import Derived.Test.YtbffjhdocicfoaaCdC
import Derived.Test.YtbffjhdocicfoaaScP
import Derived.Test.YtbffjhdocicfoaaK15
import Derived.Test.YtbffjhdocicfoaaK16
import Derived.Test.YtbffjhdocicfoaaScX
import Derived.Test.YtbffjhdocicfoaaK36
import Derived.Deep.RegionHeld3
import Derived.Deep.DeepCutAuto
import Derived.Sort.Grow
import Derived.Test.YtbffjhdocicfoaaRCdB
import Derived.Test.YtbffjhdocicfoaaRCdC
import Derived.Test.YtbffjhdocicfoaaScW
import Derived.Test.YtbffjhdocicfoaaK10
import Derived.Test.YtbffjhdocicfoaaEnW
import Derived.Test.YtbffjhdocicfoaaK19
import Derived.Test.YtbffjhdocicfoaaScAt
import Derived.Test.YtbffjhdocicfoaaK21
import Derived.Test.YtbffjhdocicfoaaScPo
import Derived.Test.YtbffjhdocicfoaaScDo
import Derived.Test.YtbffjhdocicfoaaScPs
import Derived.Test.YtbffjhdocicfoaaScPb
import Derived.Test.YtbffjhdocicfoaaScY
import Derived.Test.YtbffjhdocicfoaaK27
import Derived.Test.YtbffjhdocicfoaaTsO
import Derived.Test.YtbffjhdocicfoaaSuU
import Derived.Test.YtbffjhdocicfoaaTsR
import Derived.Test.YtbffjhdocicfoaaTsS
import Derived.Test.YtbffjhdocicfoaaEyR
import Derived.Test.YtbffjhdocicfoaaK33
import Derived.Test.YtbffjhdocicfoaaEyT
import Derived.Test.YtbffjhdocicfoaaEyU
import Derived.Test.YtbffjhdocicfoaaEyC
import Derived.Test.YtbffjhdocicfoaaEyD
import Derived.Test.YtbffjhdocicfoaaEyE
import Derived.Test.YtbffjhdocicfoaaEyF
import Derived.Test.YtbffjhdocicfoaaEyG
import Derived.Test.YtbffjhdocicfoaaEyH
import Derived.Test.YtbffjhdocicfoaaEyI
import Derived.Test.YtbffjhdocicfoaaEyX
import Derived.Test.YtbffjhdocicfoaaEyW
import Derived.Test.YtbffjhdocicfoaaK46
import Derived.Test.YtbffjhdocicfoaaRowP
import Derived.Test.YtbffjhdocicfoaaEh0
/-
  LAYER 13, as mathematics: picks, one behind the other.
-/
namespace Go.Proofs.Ytbffjhdocicfoaa
set_option linter.unusedVariables false
set_option linter.unusedSimpArgs false
open CodM (St Pg rightP hReg hLoc)
open BfM (Wr plc)
open ScM

/-! Strict is weak. -/
/-- Is it a write that comes later? -/
def late (x : St) : Bool := decide (x.op = 3) || decide (x.op = 4)
/-- The weak picks of a strict one. -/
def wkOf (x : St) (k : Int × Bool) : List (Int × Bool) := if late x then [k, (k.1, true)] else [k]
theorem tsT_buf (x : St) (s : Sta) (h : Th) : (tsT x s h).buf = if x.op = 3 then h.buf ++ [⟨x.loc, nth h.regs x.reg⟩] else if x.op = 4 then h.buf ++ [⟨x.loc, x.n⟩] else h.buf := by
  unfold tsT
  by_cases e2 : x.op = 2
  · simp [e2]
  by_cases e3 : x.op = 3
  · simp [e3]
  by_cases e4 : x.op = 4
  · simp [e4]
  · simp [e2, e3, e4, stT]
theorem strict_one {P : Pg} (hr : rightP P = true) {s : Sta} (ho : OkSt P s) (hn : nbuf s) {k : Nat} (h1 : k < s.ths.length) (h2 : k < P.ths.length) (h3 : s.ths[k].at'.toNat < P.ths[k].length) :
    runS P true s (wkOf P.ths[k][s.ths[k].at'.toNat] ((k : Int), false)) = (stp P s k, (wkOf P.ths[k][s.ths[k].at'.toNat] ((k : Int), false)).length, true) := by
  have hb := hn _ (List.getElem_mem h1)
  have hst : stuck P.ths[k][s.ths[k].at'.toNat] s.ths[k] = false := by unfold stuck; rw [hb]; rfl
  have hts : rst P s (k : Int) false true = some (tsS P.ths[k][s.ths[k].at'.toNat] s k s.ths[k]) := by
    unfold rst; rw [if_pos rfl, tst_step h1 h2 h3, hst]; rfl
  have hf := flu_tsS hr ho h1 h2 h3 hst
  rw [flu_nbuf h1 hb] at hf
  have hl : k < (tsS P.ths[k][s.ths[k].at'.toNat] s k s.ths[k]).ths.length := by rw [(tsS_len _ _ _ _).2]; exact h1
  have hk : (tsS P.ths[k][s.ths[k].at'.toNat] s k s.ths[k]).ths[k] = tsT P.ths[k][s.ths[k].at'.toNat] s s.ths[k] := by simp only [tsS_eq, List.getElem_set_self]
  have hko : OkSt P (tsS P.ths[k][s.ths[k].at'.toNat] s k s.ths[k]) := rst_ok hr ho hts
  have hbf := tsT_buf P.ths[k][s.ths[k].at'.toNat] s s.ths[k]
  rw [hb] at hbf
  generalize P.ths[k][s.ths[k].at'.toNat] = x at *
  generalize tsS x s k s.ths[k] = s1 at *
  unfold wkOf
  by_cases hlate : late x = true
  · rw [if_pos hlate]
    obtain ⟨w, hw⟩ : ∃ w, s1.ths[k].buf = [w] := by
      rw [hk, hbf]
      unfold late at hlate
      simp only [Bool.or_eq_true, decide_eq_true_eq] at hlate
      by_cases e3 : x.op = 3
      · rw [if_pos e3]; exact ⟨_, rfl⟩
      · rw [if_neg e3, if_pos (by rcases hlate with h | h; exact absurd h e3; exact h)]; exact ⟨_, rfl⟩
    have hd : rst P s1 (k : Int) true true = some (stp P s k) := by
      unfold rst
      rw [if_pos rfl, tst_drain hko hl, hw, ← hf, flu_at hl, hw, drn_eq hw (buf_ok hko hl)]
      have hp : plc s1.mem.length w.loc = true := buf_ok hko hl w (by rw [hw]; exact List.mem_cons_self)
      simp [BfM.all, hp]
    rw [runS_some (k := ((k : Int), false)) hts, runS_some (k := ((k : Int), true)) hd]
    rfl
  · rw [if_neg hlate]
    have hw : s1.ths[k].buf = [] := by
      rw [hk, hbf]
      unfold late at hlate
      simp only [Bool.or_eq_true, decide_eq_true_eq, not_or] at hlate
      rw [if_neg hlate.1, if_neg hlate.2]
    rw [flu_nbuf hl hw] at hf
    rw [runS_some (k := ((k : Int), false)) hts, hf]
    rfl
/-- The weak run that does as much. -/
def strS (P : Pg) : Sta → List (Int × Bool) → Option (List (Int × Bool))
  | s, [] => some []
  | s, k :: l => match rst P s k.1 k.2 false, atS P s k.1 with
    | some s', some x => (strS P s' l).map fun r => wkOf x k ++ r
    | _, _ => none
theorem strict_run {P : Pg} (hr : rightP P = true) : ∀ (l : List (Int × Bool)) {s : Sta}, OkSt P s → nbuf s →
    ((runS P false s l).2.2 = false ∧ strS P s l = none) ∨ ((runS P false s l).2.2 = true ∧ ∃ w, strS P s l = some w ∧ runS P true s w = ((runS P false s l).1, w.length, true) ∧ l.length ≤ w.length ∧ w.length ≤ 2 * l.length)
  | [], s, ho, hn => .inr ⟨rfl, [], rfl, rfl, Nat.le_refl _, Nat.le_refl _⟩
  | k :: l, s, ho, hn => by
    cases e : rst P s k.1 k.2 false with
    | none => rw [runS_none e, strS, e]; exact .inl ⟨rfl, rfl⟩
    | some s' =>
      obtain ⟨hd, j, hj, h1, h2, h3, ha, rfl⟩ := rst_strict e
      rw [runS_some e, strS, e, ha]
      obtain ⟨t, d⟩ := k
      dsimp only at hd hj ⊢
      subst hd hj
      have h5 := strict_one hr ho hn h1 h2 h3
      rcases strict_run hr l (rst_ok hr ho e) (nbuf_stp hn _) with ⟨g1, g2⟩ | ⟨g1, w, g2, g3, g4, g5⟩
      · left; rw [g2]; exact ⟨g1, rfl⟩
      · right
        rw [g2]
        refine ⟨g1, _, rfl, ?_, ?_, ?_⟩
        · rw [runS_app, h5]
          dsimp only
          rw [if_pos rfl, g3]
          simp
        · rw [List.length_append]
          unfold wkOf
          split <;> simp <;> omega
        · rw [List.length_append]
          unfold wkOf
          split <;> simp <;> omega
/-! How many. -/
/-! The end. -/
/-! Prefixes (loops). -/
end Go.Proofs.Ytbffjhdocicfoaa

/-
  ALL STATES OF A CODE, as mathematics: what follows a state; what leads to one, as runs; strict in weak; there is an end. Of no program.
-/
namespace Go.Proofs.Ytbffjhdocicfoaa
set_option linter.unusedVariables false
set_option linter.unusedSimpArgs false
open CodM (St Pg rightP hReg hLoc)
open BfM (Wr plc)
open ScM
namespace ExP
open ExM ExN
theorem run_leads {P : Pg} (hr : rightP P = true) {wk : Bool} : ∀ (l : List (Int × Bool)) {s s' : Sta} {w : List (Nat × Bool)}, Leads (nx P wk) (beg P) w s → Rc P wk s → (runS P wk s l).2.2 = true → (runS P wk s l).1 = s' → ∃ w', l = List.map toI w' ∧ Leads (nx P wk) (beg P) (w ++ w') s'
  | [], s, s', w, h, hc, _, e => ⟨[], rfl, by rw [List.append_nil, ← e]; exact h⟩
  | k :: l, s, s', w, h, hc, e1, e2 => by
    cases e : rst P s k.1 k.2 wk with
    | none => rw [runS_none e] at e1; cases e1
    | some u =>
      rw [runS_some e] at e1 e2
      obtain ⟨n, hn, hp⟩ := rst_pks hc e
      have hl : Leads (nx P wk) (beg P) (w ++ [(n, k.2)]) u := .snoc h (nx_mem.2 ⟨hp, by rw [← hn]; exact e⟩)
      obtain ⟨w', h1, h2⟩ := run_leads hr l hl (rc_rst hr hc e) e1 e2
      refine ⟨(n, k.2) :: w', ?_, ?_⟩
      · rw [List.map_cons, ← h1]
        show k :: l = ((n : Int), k.2) :: l
        rw [← hn]
      · rw [List.append_assoc] at h2; exact h2
/-- What leads to a state are the runs that can be done. -/
theorem leads_iff {P : Pg} (hr : rightP P = true) {wk : Bool} {l : List (Int × Bool)} {s : Sta} : (runS P wk (beg P) l).2.2 = true ∧ (runS P wk (beg P) l).1 = s ↔ ∃ w, l = List.map toI w ∧ Leads (nx P wk) (beg P) w s := by
  constructor
  · rintro ⟨h1, h2⟩
    obtain ⟨w, h3, h4⟩ := run_leads hr l .nil (rc_beg P wk) h1 h2
    exact ⟨w, h3, h4⟩
  · rintro ⟨w, rfl, h⟩
    rw [(leads_run hr h).1]; exact ⟨rfl, rfl⟩
/-- Strict is weak. -/
theorem strict_weak {P : Pg} (hr : rightP P = true) {w : List (Nat × Bool)} {s : Sta} (h : Leads (nx P false) (beg P) w s) : ∃ w', Leads (nx P true) (beg P) w' s := by
  obtain ⟨h1, h2⟩ := leads_run hr h
  rcases strict_run hr (w.map toI) (beg_ok P) (nbuf_beg P) with ⟨h3, -⟩ | ⟨-, v, -, h4, -⟩
  · rw [h1] at h3; cases h3
  · rw [h1] at h4
    obtain ⟨w', -, h5⟩ := (leads_iff hr (wk := true) (l := v) (s := s)).1 ⟨by rw [h4], by rw [h4]⟩
    exact ⟨w', h5⟩
end ExP
end Go.Proofs.Ytbffjhdocicfoaa

/-
  EXPLORE'S ANSWER, as mathematics: with whatever fuel; what the laws ask of it. Of no program.
-/
namespace Go.Proofs.Ytbffjhdocicfoaa
set_option linter.unusedVariables false
set_option linter.unusedSimpArgs false
open CodM (St Pg rightP hReg hLoc)
open ScM
namespace ExR
open ExM ExN ExP
theorem exp_true {P : Pg} {wk : Bool} {fuel : Int} {a : List FdE} {n : Nat} (e : expS P wk fuel = (a, n, true)) : ∃ l, Full (nx P wk) (beg P) l ∧ (l.length : Int) ≤ min fuel 20000 ∧ a = fnd (ExO.endsOf (overB P) enS l) ∧ n = l.length := by
  rcases exp_cases P wk fuel with ⟨l, h1, h2, h3⟩ | ⟨h, -⟩
  · rw [e] at h3
    injection h3 with h3 h4; injection h4 with h4 h5
    exact ⟨l, h1, h2, h3, h4⟩
  · rw [e] at h; injection h with _ h; injection h with _ h; cases h
/-! What the laws ask. -/
theorem law_strict {P : Pg} (hr : rightP P = true) {fuel : Int} {b : List FdE} {n : Nat} (e : expS P true fuel = (b, n, true)) : ∃ a m, expS P false fuel = (a, m, true) ∧ m ≤ n ∧ ∀ f ∈ a, ∃ g ∈ b, g.1 = f.1 := by
  obtain ⟨l', h1, h2, rfl, rfl⟩ := exp_true e
  obtain ⟨l, h, -⟩ := full_ex (nx P false) (beg P) (W := sts l') fun w s hw => by
    obtain ⟨w', hw'⟩ := strict_weak hr hw
    exact (full_mem (nx P true) (beg P) h1 s).2 ⟨w', hw'⟩
  obtain ⟨h3, h4⟩ := ExO.sub_ends (overB P) enS h h1 fun w s hw => strict_weak hr hw
  exact ⟨_, _, by rw [exp_full h, if_pos (by omega)], h3, h4⟩
end ExR
end Go.Proofs.Ytbffjhdocicfoaa

/-
  ENDS in memory; how the program holds two of them against one another.
-/
namespace Go.Proofs.Ytbffjhdocicfoaa
open Go.RowKit
set_option linter.unusedVariables false
set_option linter.unusedSimpArgs false
open OtM

theorem ovC_len (x : OV) : (ovC x).length = 2 := rfl
def OvOk (B : Nat) (w : World) (x : OV) : Prop := IntR B w x.m x.o.1 ∧ IntR B w x.r x.o.2
theorem OvOk.below {B : Nat} {w w' : World} {x : OV} (h : OvOk B w x) (hb : Below B w w') : OvOk B w' x := ⟨h.1.below hb, h.2.below hb⟩
theorem OvOk.more {B B' : Nat} {w : World} {x : OV} (h : OvOk B w x) (hb : B ≤ B') : OvOk B' w x := ⟨h.1.more hb, h.2.more hb⟩
theorem OvOk.out {B : Nat} {w : World} {x : OV} (h : OvOk B w x) : OutR B w (.agg #[x.m, x.r]) x.o := ⟨_, _, rfl, h.1, h.2⟩
/-- A row of ends in memory. -/
def OutsX (B : Nat) (w : World) (v : Value) (xs : List OV) : Prop := Rw ovC 2 B w v xs ∧ ∀ x ∈ xs, OvOk B w x
theorem OutsX.below {B : Nat} {w w' : World} {v : Value} {xs : List OV} (h : OutsX B w v xs) (hb : Below B w w') : OutsX B w' v xs := ⟨h.1.below hb, fun x hx => (h.2 x hx).below hb⟩
theorem OutsX.more {B B' : Nat} {w : World} {v : Value} {xs : List OV} (h : OutsX B w v xs) (hb : B ≤ B') : OutsX B' w v xs := ⟨h.1.more hb, fun x hx => (h.2 x hx).more hb⟩
theorem ov_at {B : Nat} {w : World} {A : Option Addr} {xs : List OV} (h : 0 < xs.length → ∃ g f, A = some ⟨g, f, none⟩ ∧ g < B ∧ ∀ j u, (xs.flatMap ovC)[j]? = some u → w.cell? ⟨g, f + j, none⟩ = some u) :
    0 < xs.length → ∃ g f, A = some ⟨g, f, none⟩ ∧ g < B ∧ ∀ j (hj : j < xs.length), w.cell? ⟨g, f + j * 2, none⟩ = some xs[j].m ∧ w.cell? ⟨g, f + j * 2 + 1, none⟩ = some xs[j].r := by
  intro k
  obtain ⟨g, f, e, hg, hc⟩ := h k
  refine ⟨g, f, e, hg, fun j hj => ⟨?_, ?_⟩⟩
  · exact hc (j * 2) _ ((fl_at ovC_len xs j 0 hj (by omega)).trans rfl)
  · exact hc (j * 2 + 1) _ ((fl_at ovC_len xs j 1 hj (by omega)).trans rfl)
end Go.Proofs.Ytbffjhdocicfoaa

/-
  LAYER 16: what the laws' head says: true.
-/
namespace Go.Proofs.Ytbffjhdocicfoaa
open Go.RowKit Go.WideMaps
set_option linter.unusedVariables false
set_option linter.unusedSimpArgs false
open CodM (St Pg rightP hReg hLoc)
open BfM (Wr plc)
open ScM EnM ExM ExN ExP EyP EyM ExR

theorem inP_of {P : Pg} (h : PgIn P) : InP P := ⟨h.init, fun ss hs x hx => (h.ths ss hs x hx).2.2.2.1⟩
end Go.Proofs.Ytbffjhdocicfoaa

/-
  THE DOCUMENT'S ends: SameOut, Ahead, Less, Set, Has, Same.
-/
namespace Go.Proofs.Ytbffjhdocicfoaa
open Go.RowKit
set_option linter.unusedVariables false
set_option linter.unusedSimpArgs false
open OtM

set_option maxHeartbeats 4000000 in
set_option maxRecDepth 100000 in
theorem rsout_any {B : Nat} {v u : Value} {a b : Ot} (w : World) (hv : OutR B w v a) (hu : OutR B w u b) (hBB : B ≤ w.heap.size) :
    Calls Try.prog 12 #[v, u] w fun e w' => e = .returned (.bool (decide (a = b))) ∧ Below w.heap.size w w' := by
  obtain ⟨vm, vr, rfl, h1, h2⟩ := hv
  obtain ⟨um, ur, rfl, g1, g2⟩ := hu
  have HC1 := Lib.hid (fun W (hW : Below w.heap.size w W) => nsame_dec W (h1.below (hW.mono hBB)) (g1.below (hW.mono hBB)) (Nat.le_trans hBB hW.size))
  have HC2 := Lib.hid (fun W (hW : Below w.heap.size w W) => nsame_dec W (h2.below (hW.mono hBB)) (g2.below (hW.mono hBB)) (Nat.le_trans hBB hW.size))
  obtain ⟨A1, n1, c1, rfl⟩ := h1.sl
  obtain ⟨A2, n2, c2, rfl⟩ := h2.sl
  obtain ⟨D1, n3, e1, rfl⟩ := g1.sl
  obtain ⟨D2, n4, e2, rfl⟩ := g2.sl
  clear h1 h2 g1 g2
  have HAB := Lib.hid (show decide (a = b) = (decide (a.1 = b.1) && decide (a.2 = b.2)) from by
    obtain ⟨a1, a2⟩ := a
    obtain ⟨b1, b2⟩ := b
    simp)
  obtain ⟨W2, hW2⟩ : ∃ W, W = (w.alloc (.cells #[.slice A1 n1 c1, .slice A2 n2 c2] 33)).alloc (.cells #[.slice D1 n3 e1, .slice D2 n4 e2] 33) := ⟨_, rfl⟩
  obtain ⟨ga, hga⟩ : ∃ g, g = w.heap.size := ⟨_, rfl⟩
  obtain ⟨gb, hgb⟩ : ∃ g, g = w.heap.size + 1 := ⟨_, rfl⟩
  have HX := Lib.hid (show BoxC W2 ga 33 #[.slice A1 n1 c1, .slice A2 n2 c2] from by rw [hW2, hga]; exact (BoxC.new w _ _).alloc _)
  have HY := Lib.hid (show BoxC W2 gb 33 #[.slice D1 n3 e1, .slice D2 n4 e2] from by rw [hW2, hgb]; have := BoxC.new (w.alloc (.cells #[.slice A1 n1 c1, .slice A2 n2 c2] 33)) 33 #[.slice D1 n3 e1, .slice D2 n4 e2]; rw [World.size_alloc] at this; exact this)
  have HB2 := Lib.hid (show Below w.heap.size w W2 from by rw [hW2]; exact below_al (below_al (Below.refl _ _) _) _)
  go_enter Try.func12, Try.ntmps12
  go_upto_region 1 with fail
  rw [← hW2]
  (try rw [← hgb])
  (try rw [← hga])
  clear hW2 hga hgb
  have x0 := HX.out.cell 0 (.slice A1 n1 c1) rfl
  have x1 := HX.out.cell 1 (.slice A2 n2 c2) rfl
  have y0 := HY.out.cell 0 (.slice D1 n3 e1) rfl
  have y1 := HY.out.cell 1 (.slice D2 n4 e2) rfl
  go_wp2_with fail
  refine (HC1.out _ HB2.out).mono ?_
  rintro e V1 ⟨r1, rfl, hr1, hb⟩
  have HB3 := Lib.hid (chain HB2.out hb)
  replace x0 := kc hb x0
  replace x1 := kc hb x1
  replace y0 := kc hb y0
  replace y1 := kc hb y1
  clear hb
  cases r1
  · have HE := Lib.hid (show decide (a = b) = false from by rw [HAB.out, show decide (a.1 = b.1) = false from decide_eq_false (fun h => by simp at hr1; exact hr1 h)]; rfl)
    clear hr1
    go_wp2
    go_ret
    exact ⟨by rw [HE.out]; rfl, HB3.out⟩
  · have HE := Lib.hid (show decide (a = b) = decide (a.2 = b.2) from by rw [HAB.out, show decide (a.1 = b.1) = true from decide_eq_true (hr1.1 rfl)]; rfl)
    clear hr1
    go_wp2_with fail
    refine (HC2.out _ HB3.out).mono ?_
    rintro e V2 ⟨r2, rfl, hr2, hb⟩
    have HB4 := Lib.hid (chain HB3.out hb)
    have HF := Lib.hid (show decide (a.2 = b.2) = r2 from by
      cases r2
      · exact decide_eq_false (fun h => by simp at hr2; exact hr2 h)
      · exact decide_eq_true (hr2.1 rfl))
    clear hb hr2
    go_wp2
    go_ret
    exact ⟨by rw [HE.out, HF.out]; rfl, HB4.out⟩
end Go.Proofs.Ytbffjhdocicfoaa

/-
  ENDS, small lemmas.
-/
namespace Go.Proofs.Ytbffjhdocicfoaa
open Go.RowKit
set_option linter.unusedVariables false
set_option linter.unusedSimpArgs false
open OtM

theorem keepF {w W W' : World} {p q r s : Addr} {x y z u : Value} (h : W.cell? p = some x ∧ W.cell? q = some y ∧ W.cell? r = some z ∧ W.cell? s = some u ∧ Below w.heap.size w W) (hb : Below W.heap.size W W') (hp : p.spot = none ∧ q.spot = none ∧ r.spot = none ∧ s.spot = none := by exact ⟨rfl, rfl, rfl, rfl⟩) :
    W'.cell? p = some x ∧ W'.cell? q = some y ∧ W'.cell? r = some z ∧ W'.cell? s = some u ∧ Below w.heap.size w W' := by
  obtain ⟨p1, p2, p3⟩ := p; obtain ⟨q1, q2, q3⟩ := q; obtain ⟨r1, r2, r3⟩ := r; obtain ⟨s1, s2, s3⟩ := s
  obtain ⟨e1, e2, e3, e4⟩ := hp
  dsimp only at e1 e2 e3 e4
  subst e1 e2 e3 e4
  exact ⟨kc hb h.1, kc hb h.2.1, kc hb h.2.2.1, kc hb h.2.2.2.1, chain h.2.2.2.2 hb⟩
theorem os_take {xs : List OV} {k : Nat} (h : k < xs.length) : os (xs.take (k + 1)) = os (xs.take k) ++ [xs[k].o] := by
  rw [List.take_succ_eq_append_getElem h]; show List.map _ _ = _; rw [List.map_append]; rfl
theorem os_mem_take {zs : List OV} {m : Nat} (h : m < zs.length) (x : Ot) : x ∈ os (zs.take (m + 1)) ↔ x ∈ os (zs.take m) ∨ x = zs[m].o := by
  rw [os_take h, List.mem_append, List.mem_singleton]
end Go.Proofs.Ytbffjhdocicfoaa

/-
  THE DOCUMENT'S ends: Less, Set, Has, Same.
-/
namespace Go.Proofs.Ytbffjhdocicfoaa
open Go.RowKit
set_option linter.unusedVariables false
set_option linter.unusedSimpArgs false
open OtM

theorem blE {w W : World} {p q r s : Addr} {x y z u : Value} (h : W.cell? p = some x ∧ W.cell? q = some y ∧ W.cell? r = some z ∧ W.cell? s = some u ∧ Below w.heap.size w W) : Below w.heap.size w W := h.2.2.2.2
set_option maxHeartbeats 4000000 in
set_option maxRecDepth 100000 in
theorem rhas_any {B : Nat} {v u : Value} {xs : List OV} {o : Ot} (w : World) (hv : OutsX B w v xs) (hu : OutR B w u o) (hBB : B ≤ w.heap.size) (hl : xs.length ≤ 1000000) :
    Calls Try.prog 31 #[v, u] w fun e w' => e = .returned (.bool (decide (o ∈ os xs))) ∧ Below w.heap.size w w' := by
  obtain ⟨⟨A, c, rfl, h1, h2, h0, h3⟩, hov⟩ := hv
  unfold maxLen at h2
  have h3 := ov_at h3
  obtain ⟨n, hn⟩ : ∃ n, n = xs.length := ⟨_, rfl⟩
  have HN := Lib.hid hn
  rw [← hn] at h1 hl ⊢
  clear hn
  have HC := Lib.hid (fun (i : Nat) (hi : i < xs.length) (W : World) (hW : Below w.heap.size w W) => rsout_any W (((hov xs[i] (List.getElem_mem hi)).below (hW.mono hBB)).out) (hu.below (hW.mono hBB)) (Nat.le_trans hBB hW.size))
  have HSL := Lib.hid (fun (k : Nat) (hk : k < xs.length) => And.intro (hov xs[k] (List.getElem_mem hk)).1.sl (hov xs[k] (List.getElem_mem hk)).2.sl)
  obtain ⟨um, ur, rfl, g1, g2⟩ := hu
  obtain ⟨E1, l1, k1, rfl⟩ := g1.sl
  obtain ⟨E2, l2, k2, rfl⟩ := g2.sl
  clear hov h0 g1 g2
  obtain ⟨W1, hW1⟩ : ∃ W, W = w.alloc (.cells #[.slice E1 l1 k1, .slice E2 l2 k2] 33) := ⟨_, rfl⟩
  obtain ⟨gb, hgb⟩ : ∃ x, x = w.heap.size := ⟨_, rfl⟩
  have hx := box2 (w := w) (.slice E1 l1 k1) (.slice E2 l2 k2) 33
  have HB1 := Lib.hid (show Below w.heap.size w W1 from by rw [hW1]; exact below_al (Below.refl _ _) _)
  rw [← hW1, ← hgb] at hx
  have HX := Lib.hid hx
  clear hx
  go_enter Try.func31, Try.ntmps31
  go_upto_region 1 with fail
  rw [← hW1]
  (try rw [← hgb])
  clear hW1 hgb
  go_wp2
  go_loopw [5] (fun i wr => ∃ k : Nat, k ≤ n ∧ i = .int .i64 k ∧ Hid (o ∉ os (xs.take k)) ∧ Below W1.heap.size W1 wr) (fun i _ => n - (intOf i).toNat)
  case atStart => exact ⟨0, Nat.zero_le _, rfl, Lib.hid (by simp), Below.refl _ _⟩
  case round =>
    obtain ⟨k, hk, rfl, HF, hB⟩ := hrel
    by_cases hlt : k < n
    · have hkx : k < xs.length := by have := HN.out; omega
      obtain ⟨b1, f1, rfl, hl1, hc1⟩ := h3 (by omega)
      have HBw := chain HB1.out hB
      obtain ⟨p0, p1⟩ := hc1 k hkx
      have d1 := ((HBw.mono hBB).cell (p := ⟨b1, f1 + k * 2, none⟩) hl1).trans p0
      have d2 := ((HBw.mono hBB).cell (p := ⟨b1, f1 + k * 2 + 1, none⟩) hl1).trans p1
      have HC1 := HC.out k hkx
      have HSL1 := HSL.out k hkx
      have HT := Lib.hid (show o ∈ os (xs.take (k + 1)) ↔ o ∈ os (xs.take k) ∨ o = xs[k].o from os_mem_take hkx o)
      have HM := Lib.hid (fun (h : xs[k].o = o) => show o ∈ os xs from List.mem_map.2 ⟨xs[k], List.getElem_mem hkx, h⟩)
      obtain ⟨x, hx⟩ : ∃ x, x = xs[k] := ⟨_, rfl⟩
      rw [← hx] at d1 d2 HC1 HSL1 HT HM
      clear hx hc1 h3 p0 p1 hkx
      obtain ⟨xm, xr, xo⟩ := x
      dsimp only at d1 d2 HC1 HSL1 HT HM
      obtain ⟨⟨A1, n1, c1, rfl⟩, A2, n2, c2, rfl⟩ := HSL1
      obtain ⟨bb, hbb⟩ : ∃ b, b = decide (xo = o) := ⟨_, rfl⟩
      rw [← hbb] at HC1
      have HBD := Lib.hid hbb
      have HC2 := Lib.hid HC1
      have hS : wr.cell? ⟨b1, f1 + k * 2, none⟩ = some (.slice A1 n1 c1) ∧ wr.cell? ⟨b1, f1 + k * 2 + 1, none⟩ = some (.slice A2 n2 c2) ∧ wr.cell? ⟨gb, 0, none⟩ = some (.slice E1 l1 k1) ∧ wr.cell? ⟨gb, 1, none⟩ = some (.slice E2 l2 k2) ∧ Below w.heap.size w wr := ⟨d1, d2, kc hB HX.out.1, kc hB HX.out.2, HBw⟩
      clear HC1 hbb d1 d2
      go_upto_region 4 with fail
      go_region_held3 (fun w' => w'.cell? ⟨b1, f1 + k * 2, none⟩ = some (.slice A1 n1 c1) ∧ w'.cell? ⟨b1, f1 + k * 2 + 1, none⟩ = some (.slice A2 n2 c2) ∧ w'.cell? ⟨gb, 0, none⟩ = some (.slice E1 l1 k1) ∧ w'.cell? ⟨gb, 1, none⟩ = some (.slice E2 l2 k2) ∧ Below w.heap.size w w') (first | (exact keepF (by assumption) (by assumption)) | (exact keepF (by assumption) (below_drewN (Below.refl _ _) 1)))
        (first | (go_at_call 12; refine (HC2.out _ (blE (by assumption))).mono ?_; rintro e w' ⟨rfl, hb2⟩))
      all_goals
        rename_i hHeld
        have HBF := Lib.hid (blE hHeld)
        have HBG := Lib.hid (chain hB (chain (below_drewN (Below.refl _ wr) 1) hb2))
        clear hHeld hS hb2
        cases bb
        · have HE := Lib.hid (show o ∉ os (xs.take (k + 1)) from fun h => by
            rcases HT.out.1 h with q | q
            · exact HF.out q
            · exact (of_decide_eq_false HBD.out.symm) q.symm)
          go_wp2
          go_roundw
          case rel => exact ⟨k + 1, by omega, by go_num, HE, HBG.out⟩
          case measure => simp [intOf]; omega
        · have HE := Lib.hid (show decide (o ∈ os xs) = true from decide_eq_true (HM.out (of_decide_eq_true HBD.out.symm)))
          go_wp2
          go_ret
          exact ⟨by rw [HE.out]; rfl, HBF.out⟩
    · obtain rfl : n = k := by omega
      have HE := Lib.hid (show decide (o ∈ os xs) = false from decide_eq_false (by have := HF.out; rwa [List.take_of_length_le (by have := HN.out; omega)] at this))
      have HBF := Lib.hid (chain HB1.out hB)
      clear h3 HF
      go_wp2
      go_ret
      exact ⟨by rw [HE.out]; rfl, HBF.out⟩
end Go.Proofs.Ytbffjhdocicfoaa

/-
  THE DOCUMENT'S ends: Minus, Put, Of.
-/
namespace Go.Proofs.Ytbffjhdocicfoaa
open Go.RowKit
set_option linter.unusedVariables false
set_option linter.unusedSimpArgs false
open OtM

def kp (bs : List OV) (y : OV) : Bool := decide (y.o ∉ os bs)
theorem filt_snoc {bs ys : List OV} {k : Nat} (h : k < ys.length) : (ys.take (k + 1)).filter (kp bs) = (ys.take k).filter (kp bs) ++ if kp bs ys[k] = true then [ys[k]] else [] := by
  rw [List.take_succ_eq_append_getElem h, List.filter_append]
  by_cases e : kp bs ys[k] = true <;> simp [e]
/-- A row of the call's own, of ends that are others'. -/
structure AcK (B base : Nat) (acc : List OV) (na : Nat) (v : Value) (w W : World) : Prop where
  len : acc.length = na
  own : W.ownsRow base 33 2 v na (acc.flatMap ovC)
  ok : ∀ z ∈ acc, OvOk B w z
  below : Below base w W
theorem AcK.grown {B base na : Nat} {acc : List OV} {v : Value} {w W W' : World} (h : AcK B base acc na v w W) (hb : Below W.heap.size W W') (hw : base ≤ W.heap.size) : AcK B base acc na v w W' :=
  { h with own := own_below h.own hb, below := h.below.trans (hb.mono hw) }
theorem AcK.put {B base na : Nat} {acc : List OV} {v v' : Value} {w W W' : World} {x : OV} (h : AcK B base acc na v w W) (hx : OvOk B w x) (ho : W'.ownsRow base 33 2 v' (na + 1) (acc.flatMap ovC ++ [x.m, x.r])) (hg : W.grownBy W' v.ownBlock) (hw : base ≤ W.heap.size) : AcK B base (acc ++ [x]) (na + 1) v' w W' where
  len := by rw [List.length_append, h.len]; rfl
  own := by rw [List.flatMap_append]; exact ho
  ok := fun z hz => by
    rcases List.mem_append.1 hz with hz | hz
    · exact h.ok z hz
    · rw [List.mem_singleton.1 hz]; exact hx
  below := below_append h.below h.own (Nat.le_refl _) hw hg
theorem AcK.nil (B : Nat) (w : World) : AcK B w.heap.size [] 0 (.slice none 0 0) w w := ⟨rfl, World.ownsRow_nil _ _ _ _, fun z hz => (by cases hz), Below.refl _ _⟩
theorem AcK.outs {B base na : Nat} {acc : List OV} {v : Value} {w W : World} (h : AcK B base acc na v w W) (hB : B ≤ base) (hw : B ≤ W.heap.size) : OutsX W.heap.size W v acc :=
  ⟨by have := h.own; rw [← h.len] at this; exact Rw.own this (Nat.le_refl _), fun z hz => ((h.ok z hz).below (h.below.mono hB)).more hw⟩
set_option maxHeartbeats 4000000 in
set_option maxRecDepth 100000 in
theorem rminus_any {B : Nat} {v u : Value} {xs bs : List OV} (w : World) (hv : OutsX B w v xs) (hu : OutsX B w u bs) (hBB : B ≤ w.heap.size) (hl : xs.length ≤ 1000000) (hlb : bs.length ≤ 1000000) :
    Calls Try.prog 15 #[v, u] w fun e w' => ∃ r na, e = .returned r ∧ AcK B w.heap.size (xs.filter (kp bs)) na r w w' := by
  have HC := Lib.hid (fun (W : World) (hW : Below w.heap.size w W) (a : Value) (o : Ot) (ha : OutR B W a o) => rhas_any W (hu.below (hW.mono hBB)) ha (Nat.le_trans hBB hW.size) hlb)
  obtain ⟨⟨A, c, rfl, h1, h2, h0, h3⟩, hov⟩ := hv
  obtain ⟨⟨D, d, rfl, -⟩, -⟩ := hu
  unfold maxLen at h2
  have h3 := ov_at h3
  obtain ⟨i0, hi0, hz0, hz1, hz2⟩ := info_parts info_out
  obtain ⟨n, hn⟩ : ∃ n, n = xs.length := ⟨_, rfl⟩
  have HN := Lib.hid hn
  rw [← hn] at h1 hl ⊢
  clear hn h0 hlb
  have HOV := Lib.hid hov
  clear hov
  go_enter Try.func15, Try.ntmps15
  go_wp2
  go_loopw [5, 6] (fun s i wr => ∃ (k na ca : Nat) (AA : Option Addr), k ≤ n ∧ na ≤ k ∧ i = .int .i64 k ∧ s = .slice AA na ca ∧ Hid (AcK B w.heap.size ((xs.take k).filter (kp bs)) na (.slice AA na ca) w wr)) (fun _ i _ => n - (intOf i).toNat)
  case atStart => exact ⟨0, 0, 0, none, Nat.zero_le _, Nat.le_refl _, rfl, rfl, Lib.hid (AcK.nil B w)⟩
  case round =>
    obtain ⟨k, na, ca, AA, hk, hna, rfl, rfl, HK⟩ := hrel
    by_cases hlt : k < n
    · have hkx : k < xs.length := by have := HN.out; omega
      obtain ⟨b1, f1, rfl, hl1, hc1⟩ := h3 (by omega)
      obtain ⟨p0, p1⟩ := hc1 k hkx
      have HD1 := Lib.hid (fun (W : World) (hW : Below w.heap.size w W) => ((hW.mono hBB).cell (p := ⟨b1, f1 + k * 2, none⟩) hl1).trans p0)
      have HD2 := Lib.hid (fun (W : World) (hW : Below w.heap.size w W) => ((hW.mono hBB).cell (p := ⟨b1, f1 + k * 2 + 1, none⟩) hl1).trans p1)
      have HOK := HOV.out xs[k] (List.getElem_mem hkx)
      have HFS := filt_snoc (bs := bs) hkx
      have hkp : kp bs xs[k] = !decide (xs[k].o ∈ os bs) := by unfold kp; exact decide_not
      obtain ⟨x, hx⟩ : ∃ x, x = xs[k] := ⟨_, rfl⟩
      rw [← hx] at HD1 HD2 HOK HFS hkp
      clear hx hc1 h3 p0 p1 hkx
      obtain ⟨xm, xr, xo⟩ := x
      dsimp only at HD1 HD2 hkp
      obtain ⟨A1, n1, c1, rfl⟩ := HOK.1.sl
      obtain ⟨A2, n2, c2, rfl⟩ := HOK.2.sl
      have HOK1 := Lib.hid HOK
      have HC1 := Lib.hid (HC.out _ HK.out.below _ _ (HOK.below (HK.out.below.mono hBB)).out)
      dsimp only at HC1
      obtain ⟨bb, hbb⟩ : ∃ b, b = decide (xo ∈ os bs) := ⟨_, rfl⟩
      rw [← hbb] at HC1 hkp
      rw [hkp] at HFS
      have HFS2 := Lib.hid HFS
      have d1 := HD1.out _ HK.out.below
      have d2 := HD2.out _ HK.out.below
      clear HOK HFS hbb hkp
      go_wp2_with fail
      refine HC1.out.mono ?_
      rintro e W6 ⟨rfl, hb6⟩
      have HK6 := Lib.hid (HK.out.grown hb6 HK.out.below.size)
      clear hb6 d1 d2
      have d1 := HD1.out _ HK6.out.below
      have d2 := HD2.out _ HK6.out.below
      cases bb
      · obtain ⟨acc, hacc⟩ : ∃ a, a = (xs.take k).filter (kp bs) := ⟨_, rfl⟩
        rw [← hacc] at HK6
        have HAC := Lib.hid (show (xs.take (k + 1)).filter (kp bs) = acc ++ [⟨.slice A1 n1 c1, .slice A2 n2 c2, xo⟩] from by rw [hacc]; simpa using HFS2.out)
        clear hacc HFS2 HK
        obtain ⟨W7, hW7⟩ : ∃ W, W = W6.alloc (.cells #[.slice A1 n1 c1, .slice A2 n2 c2] 33) := ⟨_, rfl⟩
        obtain ⟨gc, hgc⟩ : ∃ x, x = W6.heap.size := ⟨_, rfl⟩
        have HL7 := Lib.hid (show Below W6.heap.size W6 W7 from by rw [hW7]; exact below_al (Below.refl _ _) _)
        have hx7 := box2 (w := W6) (.slice A1 n1 c1) (.slice A2 n2 c2) 33
        rw [← hW7, ← hgc] at hx7
        have HAD := Lib.hid (show ∀ j u, [(.slice A1 n1 c1 : Value), .slice A2 n2 c2][j]? = some u → W7.cell? ((⟨gc, 0, none⟩ : Addr).add j) = some u from fun j u hu => by
          match j, hu with
          | 0, hu => injection hu with hu; rw [← hu]; exact hx7.1
          | 1, hu => injection hu with hu; rw [← hu]; exact hx7.2)
        have HK7 := Lib.hid (HK6.out.grown HL7.out HK6.out.below.size)
        clear hx7
        go_upto_region 4 with (first | (at_builtin; (try rw [← hW7]); (try rw [← hgc]); refine wpList_append_own _ rfl _ _ 43 rfl w.heap.size 33 i0 (.agg #[.slice none 0 0, .slice none 0 0]) 2 48 Try.underlying43 hi0 hz0 hz1 hz2 rfl (by decide) _ na (acc.flatMap ovC) rfl HK7.out.own ⟨gc, 0, none⟩ 1 1 [.slice A1 n1 c1, .slice A2 n2 c2] rfl rfl HAD.out (by intro u hu; simp at hu; rcases hu with rfl | rfl <;> rfl) (by unfold maxLen; omega) (by omega) HK7.out.below.size ?_; intro v8 w8 hown8 hg8 _; obtain ⟨A8, c8, rfl⟩ := own_slice hown8))
        have HK8 := Lib.hid (HK7.out.put (x := ⟨.slice A1 n1 c1, .slice A2 n2 c2, xo⟩) HOK1.out hown8 hg8 HK7.out.below.size)
        clear hown8 hg8 HAD hW7 hgc
        rw [← HAC.out] at HK8
        clear d1 d2
        go_wp2
        go_roundw
        case rel => exact ⟨k + 1, na + 1, c8, A8, by omega, by omega, by go_num, rfl, HK8⟩
        case measure => simp [intOf]; omega
      · have HAC := Lib.hid (show (xs.take (k + 1)).filter (kp bs) = (xs.take k).filter (kp bs) from by simpa using HFS2.out)
        rw [← HAC.out] at HK6
        clear d1 d2 HFS2 HAC
        go_wp2
        go_roundw
        case rel => exact ⟨k + 1, na, ca, AA, by omega, by omega, by go_num, rfl, HK6⟩
        case measure => simp [intOf]; omega
    · obtain rfl : n = k := by omega
      have HE := Lib.hid (show xs.take n = xs from List.take_of_length_le (by have := HN.out; omega))
      rw [HE.out] at HK
      clear h3 HE
      go_wp2
      go_ret
      exact ⟨_, na, rfl, HK.out⟩
end Go.Proofs.Ytbffjhdocicfoaa

