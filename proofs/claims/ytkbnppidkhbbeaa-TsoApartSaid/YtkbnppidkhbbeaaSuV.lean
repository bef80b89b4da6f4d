/-
  buf.View, buf.Drain, buf.All.
-/
import Derived.Test.YtkbnppidkhbbeaaK04
namespace Go.Proofs.Ytkbnppidkhbbeaa
open Go.RowKit
set_option linter.unusedVariables false
set_option linter.unusedSimpArgs false
open BfM

/-- What View hands back. -/
def viewV (b : List Wr) (m : List Int) (l : Int) : Value := match view b m l with
  | some n => .tuple #[.int .i64 n, .bool true]
  | none => .tuple #[.int .i64 0, .bool false]
set_option maxHeartbeats 4000000 in
set_option maxRecDepth 100000 in
theorem bview_any {B : Nat} {v u : Value} {b : List Wr} {m : List Int} (l : Int) (w : World) (hv : WrR B w v b) (hu : IntR B w u m) (hBB : B ≤ w.heap.size) (hl : b.length ≤ 1000000) (hm : m.length ≤ 1000000) :
    Calls Try.prog 47 #[v, u, .int .i64 l] w fun e w' => e = .returned (viewV b m l) ∧ Below w.heap.size w w' := by
  have HLA := Lib.hid (blast_any l w hv hBB hl)
  have HPL := Lib.hid (fun A c (W : World) => plcb_any A m.length c l W (by omega))
  obtain ⟨A1, c1, rfl, -⟩ := hv
  obtain ⟨A2, c2, rfl, g1, g2, -, g3⟩ := hu
  unfold maxLen at g2
  have g3 := nu_at (c := c2) g3
  cases hla : last b l with
  | some n =>
    have hV : viewV b m l = .tuple #[.int .i64 n, .bool true] := by unfold viewV view; rw [hla]
    have hL : lastV b l = .tuple #[.int .i64 n, .bool true] := by unfold lastV; rw [hla]
    rw [hL] at HLA
    rw [hV]
    clear hla hV hL g3
    go_enter Try.func47, Try.ntmps47
    go_wp2_with fail
    refine HLA.out.mono ?_
    rintro e w1 ⟨rfl, hb1⟩
    go_wp2
    go_ret2
    exact ⟨rfl, hb1⟩
  | none =>
    have hL : lastV b l = .tuple #[.int .i64 0, .bool false] := by unfold lastV; rw [hla]
    rw [hL] at HLA
    by_cases hp : plc m.length l = true
    · have hl' := hp
      unfold plc at hl'
      rw [decide_eq_true_eq] at hl'
      obtain ⟨k, rfl⟩ : ∃ k : Nat, l = k := ⟨l.toNat, by omega⟩
      have hk : k < m.length := by omega
      have hV : viewV b m k = .tuple #[.int .i64 m[k], .bool true] := by unfold viewV view; rw [hla]; simp [hp, hk]
      rw [hV]
      rw [hp] at HPL
      obtain ⟨b2, f2, rfl, hb2, hc2⟩ := g3 (by omega)
      have hc := Lib.hid (hc2 k hk)
      generalize m[k] = x at *
      clear hla hV hL g3 hp hl' hc2
      go_enter Try.func47, Try.ntmps47
      go_wp2_with fail
      refine HLA.out.mono ?_
      rintro e w1 ⟨rfl, hb1⟩
      go_wp2_with fail
      refine (HPL.out _ _ _).mono ?_
      rintro e w3 ⟨rfl, hb3⟩
      have hB := chain hb1 hb3
      have hcc := ((hB.mono hBB).cell (p := ⟨b2, f2 + k, none⟩) hb2).trans hc.out
      clear HLA HPL hb1 hb3
      go_wp2
      go_ret2
      exact ⟨rfl, hB⟩
    · have hV : viewV b m l = .tuple #[.int .i64 0, .bool false] := by unfold viewV view; rw [hla]; simp [hp]
      rw [hV]
      rw [Bool.not_eq_true] at hp
      rw [hp] at HPL
      clear hla hV hL g3 hp
      go_enter Try.func47, Try.ntmps47
      go_wp2_with fail
      refine HLA.out.mono ?_
      rintro e w1 ⟨rfl, hb1⟩
      go_wp2_with fail
      refine (HPL.out _ _ _).mono ?_
      rintro e w3 ⟨rfl, hb3⟩
      have hB := chain hb1 hb3
      clear HLA HPL hb1 hb3
      go_wp2
      go_ret2
      exact ⟨rfl, hB⟩
/-- Can the oldest write come there? -/
def can (b : List Wr) (m : Nat) : Bool := match b with
  | [] => false
  | w :: _ => plc m w.loc
/-- What is on its way behind a drain, and what there is then. -/
def drB (b : List Wr) (m : List Int) : List Wr := if can b m.length then b.tail else b
def drM (b : List Wr) (m : List Int) : List Int := match b with
  | [] => m
  | w :: _ => if plc m.length w.loc then arr m w else m
theorem rw_tail {B : Nat} {w : World} {A : Option Addr} {c : Nat} {x : Wr} {r : List Wr} {g f : Nat} (h : WrR B w (.slice (some ⟨g, f, none⟩) (x :: r).length c) (x :: r)) : WrR B w (.slice (some ⟨g, f + 2, none⟩) r.length (c - 1)) r := by
  obtain ⟨A', c', e, h1, h2, h0, h3⟩ := h
  injection e with e1 _ e3
  subst e1; subst e3
  obtain ⟨b', f', e, hb, hc⟩ := h3 (by simp)
  injection e with e; injection e with e1 e2; subst e1; subst e2
  rw [List.length_cons] at h1
  refine ⟨_, _, rfl, by omega, by omega, fun e => (by cases e), fun _ => ⟨g, f + 2, rfl, hb, fun j u hu => ?_⟩⟩
  have := hc (j + 2) u (by rw [List.flatMap_cons, List.getElem?_append_right (by rw [wrC_len]; omega), wrC_len, Nat.add_sub_cancel]; exact hu)
  rw [show f + 2 + j = f + (j + 2) by omega]; exact this
/-- What Drain hands back: rows of its own, that of the writes above that of the locations. -/
def DrRet (b : List Wr) (m : List Int) (w : World) (e : Ending) (w' : World) : Prop :=
  ∃ x y n1, e = .returned (.tuple #[x, y, .bool (can b m.length)]) ∧ w.heap.size ≤ n1 ∧ OwnW n1 w' x (drB b m) ∧ OwnI w.heap.size w' y (drM b m) ∧ (∀ g, y.ownBlock = some g → g < n1) ∧ Below w.heap.size w w'
set_option maxHeartbeats 4000000 in
set_option maxRecDepth 100000 in
theorem bdrain_any {B : Nat} {v u : Value} {b : List Wr} {m : List Int} (w : World) (hv : WrR B w v b) (hu : IntR B w u m) (hBB : B ≤ w.heap.size) (hl : b.length ≤ 1000000) (hm : m.length ≤ 1000000) :
    Calls Try.prog 46 #[v, u] w (DrRet b m w) := by
  have HCI := Lib.hid (clonei_any w hu hBB hm)
  obtain ⟨A2, c2, rfl, -⟩ := hu
  have HV := Lib.hid (fun W (hW : Below w.heap.size w W) => (hv.below (hW.mono hBB)).more (Nat.le_trans hBB hW.size))
  obtain ⟨A1, c1, rfl, g1, g2, g0, g3⟩ := hv
  unfold maxLen at g2
  cases b with
  | nil =>
    clear g3 g0 g1
    have HCW := Lib.hid (fun W (hW : Below w.heap.size w W) => clonew_any W (HV.out W hW) (Nat.le_refl _) hl)
    go_enter Try.func46, Try.ntmps46
    go_wp2_with fail
    refine HCI.out.mono ?_
    rintro e w1 ⟨y, rfl, ho1, hb1⟩
    obtain ⟨Ay, cy, rfl⟩ := own_slice ho1
    have HO1 := Lib.hid ho1
    clear ho1
    go_wp2_with fail
    refine (HCW.out _ hb1).mono ?_
    rintro e w3 ⟨x, rfl, ho3, hb3⟩
    have hB := chain hb1 hb3
    have HO3 := Lib.hid ho3
    clear ho3
    go_wp2
    go_ret3
    exact ⟨_, _, w1.heap.size, rfl, hb1.size, HO3.out, own_below HO1.out hb3, fun g hg => (HO1.out.lt g hg).2, hB⟩
  | cons x r =>
    obtain ⟨b2, f2, rfl, hb2, hc2⟩ := wr_at (c := c1) g3 (by simp)
    obtain ⟨q0, q1⟩ := hc2 0 (by simp)
    simp only [Nat.zero_mul, Nat.add_zero, List.getElem_cons_zero] at q0 q1
    have HQ := Lib.hid (show _ ∧ _ from ⟨q0, q1⟩)
    rw [List.length_cons] at g1 hl
    have HAR := Lib.hid (fun (y : Value) W (h : OwnI w.heap.size W y m) (hb : w.heap.size ≤ W.heap.size) => barrive_any x W h hb hm)
    clear g3 g0 hc2 q0 q1
    rw [List.length_cons]
    by_cases hp : plc m.length x.loc = true
    · have hcan : can (x :: r) m.length = true := hp
      have hdm : drM (x :: r) m = arr m x := if_pos hp
      have hdb : drB (x :: r) m = r := if_pos hcan
      unfold DrRet
      rw [hcan, hdm, hdb]
      simp only [hp, if_true] at HAR
      clear hcan hdm hdb hp
      have HCW : Hid (∀ W, Below w.heap.size w W → (c1 = 1 → Calls Try.prog 56 #[.slice (some ⟨b2, f2, none⟩) r.length 0] W fun e w' => ∃ u, e = .returned u ∧ OwnW W.heap.size w' u r ∧ Below W.heap.size W w') ∧
          Calls Try.prog 56 #[.slice (some ⟨b2, f2 + 2, none⟩) r.length (c1 - 1)] W fun e w' => ∃ u, e = .returned u ∧ OwnW W.heap.size w' u r ∧ Below W.heap.size W w') := Lib.hid (fun W hW => ⟨fun hc => by
            have h0 : r = [] := List.eq_nil_of_length_eq_zero (by omega)
            subst h0
            exact clonew_any (B := 0) W ⟨_, 0, rfl, Nat.le_refl _, by decide, fun e => (by cases e), fun k => absurd k (by simp)⟩ (Nat.zero_le _) (by simp), clonew_any W (rw_tail (A := none) (HV.out W hW)) (Nat.le_refl _) (by omega)⟩)
      go_enter Try.func46, Try.ntmps46
      go_wp2_with fail
      refine HCI.out.mono ?_
      rintro e w1 ⟨y, rfl, ho1, hb1⟩
      have HAR1 := Lib.hid (HAR.out y w1 ho1 hb1.size)
      have hyw := (own_slice ho1)
      obtain ⟨Ay, cy, rfl⟩ := hyw
      have q0 := ((hb1.mono hBB).cell (p := ⟨b2, f2, none⟩) hb2).trans HQ.out.1
      have q1 := ((hb1.mono hBB).cell (p := ⟨b2, f2 + 1, none⟩) hb2).trans HQ.out.2
      have HN1 := Lib.hid (fun g hg => (ho1.lt g hg).2)
      clear ho1 HAR HCI
      go_wp2_with fail
      refine HAR1.out.mono ?_
      rintro e w3 ⟨rfl, ho3, hb3⟩
      have hB3 := hb1.trans hb3
      have HO3 := Lib.hid ho3
      have HL3 := Lib.hid (arr_len m x)
      clear HAR1 hb3 ho3 q0 q1
      go_wp2_with fail
      · refine ((HCW.out _ hB3).1 (by omega)).mono ?_
        rintro e w4 ⟨z, rfl, ho4, hb4⟩
        have HO4 := Lib.hid ho4
        have hB4 := chain hB3 hb4
        have HK := Lib.hid (own_below HO3.out hb4)
        have hsz := HN1.out
        have hle := Nat.le_trans hB3.size hb4.size
        clear HCW hb4 ho4 
        obtain ⟨Az, cz, rfl⟩ := own_slice HO4.out
        go_wp2
        go_ret3
        refine ⟨_, _, w3.heap.size, rfl, hB3.size, HO4.out, HK.out, fun g hg => (HO3.out.lt g hg).2, hB4⟩
      · refine (HCW.out _ hB3).2.mono ?_
        rintro e w4 ⟨z, rfl, ho4, hb4⟩
        have HO4 := Lib.hid ho4
        have hB4 := chain hB3 hb4
        have HK := Lib.hid (own_below HO3.out hb4)
        have hsz := HN1.out
        have hle := Nat.le_trans hB3.size hb4.size
        clear HCW hb4 ho4 
        obtain ⟨Az, cz, rfl⟩ := own_slice HO4.out
        go_wp2
        go_ret3
        refine ⟨_, _, w3.heap.size, rfl, hB3.size, HO4.out, HK.out, fun g hg => (HO3.out.lt g hg).2, hB4⟩
    · rw [Bool.not_eq_true] at hp
      have HCW := Lib.hid (fun W (hW : Below w.heap.size w W) => clonew_any W (HV.out W hW) (Nat.le_refl _) hl)
      have hcan : can (x :: r) m.length = false := hp
      have hdm : drM (x :: r) m = m := if_neg (by rw [hp]; exact Bool.false_ne_true)
      have hdb : drB (x :: r) m = x :: r := if_neg (by rw [hcan]; exact Bool.false_ne_true)
      unfold DrRet
      rw [hcan, hdm, hdb]
      simp only [hp, Bool.false_eq_true, if_false] at HAR
      clear hcan hdm hdb hp
      go_enter Try.func46, Try.ntmps46
      go_wp2_with fail
      refine HCI.out.mono ?_
      rintro e w1 ⟨y, rfl, ho1, hb1⟩
      have HAR1 := Lib.hid (HAR.out y w1 ho1 hb1.size)
      have hyw := (own_slice ho1)
      obtain ⟨Ay, cy, rfl⟩ := hyw
      have q0 := ((hb1.mono hBB).cell (p := ⟨b2, f2, none⟩) hb2).trans HQ.out.1
      have q1 := ((hb1.mono hBB).cell (p := ⟨b2, f2 + 1, none⟩) hb2).trans HQ.out.2
      clear ho1 HAR HCI
      go_wp2_with fail
      refine HAR1.out.mono ?_
      rintro e w3 ⟨rfl, ho3, hb3⟩
      have hB3 := hb1.trans hb3
      have HO3 := Lib.hid ho3
      clear HAR1 hb3 ho3 q0 q1
      go_wp2_with fail
      refine (HCW.out _ hB3).mono ?_
      rintro e w4 ⟨z, rfl, ho4, hb4⟩
      have HO4 := Lib.hid ho4
      have hB4 := chain hB3 hb4
      have HK := Lib.hid (own_below HO3.out hb4)
      clear HCW hb4 ho4 
      obtain ⟨Az, cz, rfl⟩ := own_slice HO4.out
      go_wp2
      go_ret3
      refine ⟨_, _, w3.heap.size, rfl, hB3.size, HO4.out, HK.out, fun g hg => (HO3.out.lt g hg).2, hB4⟩
/-- The rounds of All: what comes there in the end is what comes there from here on. -/
def AlRel (b : List Wr) (m : List Int) (n₀ : Nat) (w : World) (v : Value) (i : Value) (wr : World) : Prop :=
  ∃ (k : Nat) (m' : List Int), k ≤ b.length ∧ i = .int .i64 k ∧ m'.length = m.length ∧ all (b.drop k) m' = all b m ∧ OwnI n₀ wr v m' ∧ Below n₀ w wr
set_option maxHeartbeats 4000000 in
set_option maxRecDepth 100000 in
theorem ball_any {B : Nat} {v u : Value} {b : List Wr} {m : List Int} (w : World) (hv : WrR B w v b) (hu : IntR B w u m) (hBB : B ≤ w.heap.size) (hl : b.length ≤ 1000000) (hm : m.length ≤ 1000000) :
    Calls Try.prog 38 #[v, u] w fun e w' => ∃ y, e = .returned y ∧ OwnI w.heap.size w' y (all b m) ∧ Below w.heap.size w w' := by
  have HCI := Lib.hid (clonei_any w hu hBB hm)
  obtain ⟨A2, c2, rfl, -⟩ := hu
  obtain ⟨A1, c1, rfl, g1, g2, -, g3⟩ := hv
  unfold maxLen at g2
  have g3 := wr_at (c := c1) g3
  go_enter Try.func38, Try.ntmps38
  go_wp2_with fail
  refine HCI.out.mono ?_
  rintro e w1 ⟨y, rfl, ho1, hb1⟩
  obtain ⟨Ay, cy, rfl⟩ := own_slice ho1
  have HO1 := Lib.hid ho1
  clear HCI ho1
  go_wp2
  go_loopw [12] (fun i wr => AlRel b m w.heap.size w (.slice Ay m.length cy) i wr) (fun i _ => b.length - (intOf i).toNat)
  case atStart => exact ⟨0, m, Nat.zero_le _, rfl, rfl, rfl, HO1.out, hb1⟩
  case round =>
    obtain ⟨k, m', hk, rfl, hml, hal, ho, hB⟩ := hrel
    have HAL := Lib.hid hal
    have HML := Lib.hid hml
    clear hal
    by_cases hlt : k < b.length
    · obtain ⟨b2, f2, rfl, hb2, hc2⟩ := g3 (by omega)
      obtain ⟨y0, y1⟩ := hc2 k hlt
      have z0 := ((hB.mono hBB).cell (p := ⟨b2, f2 + k * 2, none⟩) hb2).trans y0
      have z1 := ((hB.mono hBB).cell (p := ⟨b2, f2 + k * 2 + 1, none⟩) hb2).trans y1
      have HGO := Lib.hid (fun h => all_go (m := m') hlt h)
      have HST := Lib.hid (fun h => all_stop (m := m') hlt h)
      clear y0 y1 hc2 g3
      generalize b[k] = x at *
      have hbx := Lib.hid (below_al (Below.refl wr.heap.size wr) (.cells #[.int .i64 x.loc, .int .i64 x.n] 54))
      rw [← hml] at ho
      have HAR := Lib.hid (fun W (hW : Below wr.heap.size wr W) => barrive_any x W (own_below ho hW) (Nat.le_trans hB.size hW.size) (by omega))
      have hBW := Lib.hid hB
      clear ho
      rw [hml] at HAR
      by_cases hp : plc m.length x.loc = true
      · simp only [hp, if_true] at HAR
        have hgo := HGO.out (by rw [hml]; exact hp)
        clear hp hml
        go_wp2_with fail
        refine (HAR.out _ hbx.out).mono ?_
        rintro e w3 ⟨rfl, ho3, hb3⟩
        have hB3 := (hBW.out.trans (hbx.out.mono hBW.out.size)).trans hb3
        have HO3 := Lib.hid ho3
        have HGA := Lib.hid hgo
        clear HAR hbx hb3 ho3 hgo z0 z1
        go_wp2_with fail
        go_roundw
        case rel => exact ⟨k + 1, arr m' x, by omega, by go_num, by rw [arr_len, HML.out], by rw [← HGA.out, HAL.out], HO3.out, hB3⟩
        case measure => simp [intOf]; omega
      · rw [Bool.not_eq_true] at hp
        simp only [hp, Bool.false_eq_true, if_false] at HAR
        have hst := HST.out (by rw [hml]; exact hp)
        clear hp hml
        go_wp2_with fail
        refine (HAR.out _ hbx.out).mono ?_
        rintro e w3 ⟨rfl, ho3, hb3⟩
        have hB3 := (hBW.out.trans (hbx.out.mono hBW.out.size)).trans hb3
        have HO3 := Lib.hid ho3
        have HSA := Lib.hid hst
        clear HAR hbx hb3 ho3 hst z0 z1
        go_wp2_with fail
        go_ret
        have ho' : OwnI w.heap.size w3 (.slice Ay m.length cy) (all b m) := by rw [← HAL.out, HSA.out]; exact HO3.out
        exact ⟨_, rfl, ho', hB3⟩
    · obtain rfl : b.length = k := by omega
      have HE := Lib.hid (all_end (m := m') (Nat.le_refl b.length))
      clear g3
      go_wp2
      go_ret
      have ho' : OwnI w.heap.size wr (.slice Ay m.length cy) (all b m) := by rw [← HAL.out, HE.out]; exact ho
      exact ⟨_, rfl, ho', hB⟩
end Go.Proofs.Ytkbnppidkhbbeaa
