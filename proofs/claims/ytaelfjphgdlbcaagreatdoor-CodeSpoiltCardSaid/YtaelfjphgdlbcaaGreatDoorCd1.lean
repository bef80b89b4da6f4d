/-
  CODES in memory: what it says that a value is a code, with its rows of numbers and of steps; the table of what kinds of steps have.
  package code, its small functions: hasStep, count, among, zeroOr, rightStep.
  code.At, Line: how many steps stand ahead of a line; the line of a step.
  code.rightStep, rightThread, Right: may a code be so?
  code.Right: by slices.ContainsFunc, over a closure.
-/
import Derived.Test.YtaelfjphgdlbcaaGreatDoorBxF
import Derived.Test.YtaelfjphgdlbcaaGreatDoorCodM
import Derived.Test.YtaelfjphgdlbcaaGreatDoorRdr
import Derived.Test.YtaelfjphgdlbcaaGreatDoorChk
namespace Go.Proofs.YtaelfjphgdlbcaaGreatDoor
open Go.RowKit
set_option linter.unusedVariables false
set_option linter.unusedSimpArgs false
open WordM (L)
open CodM (St Pg)

/-- Five cells from f on of block b hold the step s. -/
def StAt (w : World) (b f : Nat) (s : St) : Prop :=
  w.cell? ⟨b, f, none⟩ = some (.int .i64 s.op) ∧ w.cell? ⟨b, f + 1, none⟩ = some (.int .i64 s.reg) ∧ w.cell? ⟨b, f + 2, none⟩ = some (.int .i64 s.loc) ∧
    w.cell? ⟨b, f + 3, none⟩ = some (.int .i64 s.n) ∧ w.cell? ⟨b, f + 4, none⟩ = some (.int .i64 s.to)
theorem StAt.below {w w' : World} {B b f : Nat} {s : St} (h : StAt w b f s) (hb : Below B w w') (hlt : b < B) : StAt w' b f s :=
  ⟨(hb.cell (p := ⟨b, f, none⟩) hlt).trans h.1, (hb.cell (p := ⟨b, f + 1, none⟩) hlt).trans h.2.1, (hb.cell (p := ⟨b, f + 2, none⟩) hlt).trans h.2.2.1, (hb.cell (p := ⟨b, f + 3, none⟩) hlt).trans h.2.2.2.1, (hb.cell (p := ⟨b, f + 4, none⟩) hlt).trans h.2.2.2.2⟩
/-- One cell holds a number. -/
def IntAt (w : World) (b f : Nat) (n : Int) : Prop := w.cell? ⟨b, f, none⟩ = some (.int .i64 n)
theorem IntAt.below {w w' : World} {B b f : Nat} {n : Int} (h : IntAt w b f n) (hb : Below B w w') (hlt : b < B) : IntAt w' b f n := (hb.cell (p := ⟨b, f, none⟩) hlt).trans h
def Sts (B : Nat) (w : World) (v : Value) (xs : List St) : Prop :=
  ∃ A c, v = .slice A xs.length c ∧ xs.length ≤ c ∧ c ≤ maxLen ∧
    (0 < xs.length → ∃ b f, A = some ⟨b, f, none⟩ ∧ b < B ∧ ∀ j (h : j < xs.length), StAt w b (f + j * 5) xs[j])
theorem Sts.below {B : Nat} {w w' : World} {v : Value} {xs : List St} (h : Sts B w v xs) (hb : Below B w w') : Sts B w' v xs := by
  obtain ⟨A, c, e, h1, h2, h3⟩ := h
  refine ⟨A, c, e, h1, h2, fun k => ?_⟩
  obtain ⟨b, f, e2, h4, h5⟩ := h3 k
  exact ⟨b, f, e2, h4, fun j hj => (h5 j hj).below hb h4⟩
theorem Sts.more {B B' : Nat} {w : World} {v : Value} {xs : List St} (h : Sts B w v xs) (hb : B ≤ B') : Sts B' w v xs := by
  obtain ⟨A, c, e, h1, h2, h3⟩ := h
  refine ⟨A, c, e, h1, h2, fun k => ?_⟩
  obtain ⟨b, f, e2, h4, h5⟩ := h3 k
  exact ⟨b, f, e2, by omega, h5⟩
/-- One cell holds a row of steps. -/
def SsAt (B : Nat) (w : World) (b f : Nat) (ss : List St) : Prop := ∃ v, w.cell? ⟨b, f, none⟩ = some v ∧ Sts B w v ss
theorem SsAt.below {w w' : World} {B b f : Nat} {ss : List St} (h : SsAt B w b f ss) (hb : Below B w w') (hlt : b < B) : SsAt B w' b f ss := by
  obtain ⟨v, h1, h2⟩ := h
  exact ⟨v, (hb.cell (p := ⟨b, f, none⟩) hlt).trans h1, h2.below hb⟩
theorem SsAt.more {w : World} {B B' b f : Nat} {ss : List St} (h : SsAt B w b f ss) (hb : B ≤ B') : SsAt B' w b f ss := by
  obtain ⟨v, h1, h2⟩ := h
  exact ⟨v, h1, h2.more hb⟩
def Sss (B : Nat) (w : World) (v : Value) (xs : List (List St)) : Prop :=
  ∃ A c, v = .slice A xs.length c ∧ xs.length ≤ c ∧ c ≤ maxLen ∧
    (0 < xs.length → ∃ b f, A = some ⟨b, f, none⟩ ∧ b < B ∧ ∀ j (h : j < xs.length), SsAt B w b (f + j) xs[j])
theorem Sss.below {B : Nat} {w w' : World} {v : Value} {xs : List (List St)} (h : Sss B w v xs) (hb : Below B w w') : Sss B w' v xs := by
  obtain ⟨A, c, e, h1, h2, h3⟩ := h
  refine ⟨A, c, e, h1, h2, fun k => ?_⟩
  obtain ⟨b, f, e2, h4, h5⟩ := h3 k
  exact ⟨b, f, e2, h4, fun j hj => (h5 j hj).below hb h4⟩
theorem Sss.more {B B' : Nat} {w : World} {v : Value} {xs : List (List St)} (h : Sss B w v xs) (hb : B ≤ B') : Sss B' w v xs := by
  obtain ⟨A, c, e, h1, h2, h3⟩ := h
  refine ⟨A, c, e, h1, h2, fun k => ?_⟩
  obtain ⟨b, f, e2, h4, h5⟩ := h3 k
  exact ⟨b, f, e2, by omega, fun j hj => (h5 j hj).more hb⟩
def Ints (B : Nat) (w : World) (v : Value) (xs : List Int) : Prop :=
  ∃ A c, v = .slice A xs.length c ∧ xs.length ≤ c ∧ c ≤ maxLen ∧
    (0 < xs.length → ∃ b f, A = some ⟨b, f, none⟩ ∧ b < B ∧ ∀ j (h : j < xs.length), IntAt w b (f + j) xs[j])
theorem Ints.below {B : Nat} {w w' : World} {v : Value} {xs : List Int} (h : Ints B w v xs) (hb : Below B w w') : Ints B w' v xs := by
  obtain ⟨A, c, e, h1, h2, h3⟩ := h
  refine ⟨A, c, e, h1, h2, fun k => ?_⟩
  obtain ⟨b, f, e2, h4, h5⟩ := h3 k
  exact ⟨b, f, e2, h4, fun j hj => (h5 j hj).below hb h4⟩
theorem Ints.more {B B' : Nat} {w : World} {v : Value} {xs : List Int} (h : Ints B w v xs) (hb : B ≤ B') : Ints B' w v xs := by
  obtain ⟨A, c, e, h1, h2, h3⟩ := h
  refine ⟨A, c, e, h1, h2, fun k => ?_⟩
  obtain ⟨b, f, e2, h4, h5⟩ := h3 k
  exact ⟨b, f, e2, by omega, h5⟩
/-- What the two slices of a code hold. -/
def PgM (B : Nat) (w : World) (vi vt : Value) (P : Pg) : Prop := Ints B w vi P.init ∧ Sss B w vt P.ths
theorem PgM.below {B : Nat} {w w' : World} {vi vt : Value} {P : Pg} (h : PgM B w vi vt P) (hb : Below B w w') : PgM B w' vi vt P := ⟨h.1.below hb, h.2.below hb⟩
theorem PgM.more {B B' : Nat} {w : World} {vi vt : Value} {P : Pg} (h : PgM B w vi vt P) (hb : B ≤ B') : PgM B' w vi vt P := ⟨h.1.more hb, h.2.more hb⟩
/-- The value v is the code P, its slices in blocks below B. -/
def PgV (B : Nat) (w : World) (v : Value) (P : Pg) : Prop := ∃ vi vt, v = .agg #[vi, vt] ∧ PgM B w vi vt P
theorem PgV.below {B : Nat} {w w' : World} {v : Value} {P : Pg} (h : PgV B w v P) (hb : Below B w w') : PgV B w' v P := by
  obtain ⟨a, b, e, h⟩ := h; exact ⟨a, b, e, h.below hb⟩
theorem PgV.more {B B' : Nat} {w : World} {v : Value} {P : Pg} (h : PgV B w v P) (hb : B ≤ B') : PgV B' w v P := by
  obtain ⟨a, b, e, h⟩ := h; exact ⟨a, b, e, h.more hb⟩
/-! The cells of rows, as values. -/
def stCs (s : St) : List Value := [.int .i64 s.op, .int .i64 s.reg, .int .i64 s.loc, .int .i64 s.n, .int .i64 s.to]
def stsCs : List St → List Value
  | [] => []
  | s :: r => stCs s ++ stsCs r
theorem stsCs_len : ∀ ss : List St, (stsCs ss).length = ss.length * 5
  | [] => rfl
  | s :: r => by
    rw [stsCs, List.length_append, stsCs_len r, List.length_cons, Nat.succ_mul, Nat.add_comm]; rfl
theorem stsCs_app : ∀ a b : List St, stsCs (a ++ b) = stsCs a ++ stsCs b
  | [], b => rfl
  | s :: r, b => by rw [List.cons_append, stsCs, stsCs, stsCs_app r b, List.append_assoc]
theorem stsCs_one : ∀ (ss : List St), ∀ u ∈ stsCs ss, u.oneCell' = true
  | [], u, h => by cases h
  | s :: r, u, h => by
    rcases List.mem_append.1 h with h | h
    · simp only [stCs, List.mem_cons, List.not_mem_nil, or_false] at h
      rcases h with rfl | rfl | rfl | rfl | rfl <;> rfl
    · exact stsCs_one r u h
theorem stsCs_at : ∀ (ss : List St) (j i : Nat) (hj : j < ss.length), i < 5 → (stsCs ss)[j * 5 + i]? = (stCs ss[j])[i]?
  | [], j, i, hj, _ => absurd hj (Nat.not_lt_zero j)
  | s :: r, 0, i, hj, hi => by
    rw [stsCs, Nat.zero_mul, Nat.zero_add, List.getElem?_append_left (by simpa [stCs] using hi)]; rfl
  | s :: r, j + 1, i, hj, hi => by
    have hl : (stCs s).length = 5 := rfl
    rw [stsCs, List.getElem?_append_right (by rw [hl]; omega), hl, show (j + 1) * 5 + i - 5 = j * 5 + i by omega, stsCs_at r j i (by simpa using hj) hi]; rfl
/-- The cells of steps in memory are the steps' cells. -/
theorem cells_of_sts {w : World} {b f : Nat} {ss : List St} (h : ∀ j (hj : j < ss.length), StAt w b (f + j * 5) ss[j]) : ∀ (j : Nat) (u : Value), (stsCs ss)[j]? = some u → w.cell? ⟨b, f + j, none⟩ = some u := by
  intro j u hu
  have hj : j < ss.length * 5 := by
    rw [← stsCs_len]
    exact (List.getElem?_eq_some_iff.1 hu).1
  have e : j = j / 5 * 5 + j % 5 := by omega
  have h1 : j / 5 < ss.length := by omega
  have h2 : j % 5 < 5 := by omega
  rw [e, stsCs_at ss (j / 5) (j % 5) h1 h2] at hu
  obtain ⟨c0, c1, c2, c3, c4⟩ := h (j / 5) h1
  rw [e]
  generalize j % 5 = i at *
  generalize j / 5 = q at *
  have e0 : f + (q * 5 + i) = f + q * 5 + i := by omega
  rw [e0]
  rcases (show i = 0 ∨ i = 1 ∨ i = 2 ∨ i = 3 ∨ i = 4 by omega) with rfl | rfl | rfl | rfl | rfl
  · injection hu with hu; subst hu; exact c0
  · injection hu with hu; subst hu; exact c1
  · injection hu with hu; subst hu; exact c2
  · injection hu with hu; subst hu; exact c3
  · injection hu with hu; subst hu; exact c4
/-- A row of the call's own that holds steps' cells reads as the steps. -/
theorem sts_of_own {w : World} {base B : Nat} {T : TypeId} {v : Value} {ss : List St} (h : w.ownsRow base T 5 v ss.length (stsCs ss)) (hB : w.heap.size ≤ B) : Sts B w v ss := by
  rcases id h.2 with ⟨rfl, h0⟩ | ⟨g, cap, cur, rfl, hbg, hg, hnc, hcm, hcs, htake⟩
  · exact ⟨none, 0, by rw [h0], by omega, by decide, fun k => absurd k (by omega)⟩
  · refine ⟨_, cap, rfl, hnc, hcm, fun _ => ⟨g, 0, rfl, ?_, fun j hj => ?_⟩⟩
    · have := (Array.getElem?_eq_some_iff.1 hg).1; omega
    · have hc : ∀ i, i < 5 → w.cell? ⟨g, 0 + j * 5 + i, none⟩ = (stCs ss[j])[i]? := fun i hi => by
        rw [Nat.zero_add, h.cellAt (j * 5 + i) (by omega), stsCs_at ss j i hj hi]
      exact ⟨hc 0 (by omega), hc 1 (by omega), hc 2 (by omega), hc 3 (by omega), hc 4 (by omega)⟩
/-- A row of the call's own whose cells are rows of steps reads as these. -/
theorem sss_of_own {w : World} {base B : Nat} {T : TypeId} {v : Value} {vs : List Value} {ts : List (List St)} (h : w.ownsRow base T 1 v ts.length vs) (hB : w.heap.size ≤ B)
    (hl : ∀ j (hj : j < ts.length), ∃ u, vs[j]? = some u ∧ Sts B w u ts[j]) : Sss B w v ts := by
  rcases id h.2 with ⟨rfl, h0⟩ | ⟨g, cap, cur, rfl, hbg, hg, hnc, hcm, hcs, htake⟩
  · exact ⟨none, 0, by rw [h0], by omega, by decide, fun k => absurd k (by omega)⟩
  · refine ⟨_, cap, rfl, hnc, hcm, fun _ => ⟨g, 0, rfl, ?_, fun j hj => ?_⟩⟩
    · have := (Array.getElem?_eq_some_iff.1 hg).1; omega
    · obtain ⟨u, h1, h2⟩ := hl j hj
      exact ⟨u, by rw [Nat.zero_add, h.cellAt j (by omega)]; exact h1, h2⟩
def intCs (ns : List Int) : List Value := ns.map (.int .i64)
theorem intCs_len (ns : List Int) : (intCs ns).length = ns.length := by simp [intCs]
theorem intCs_app (a b : List Int) : intCs (a ++ b) = intCs a ++ intCs b := by simp [intCs]
theorem ints_of_own {w : World} {base B : Nat} {T : TypeId} {v : Value} {ns : List Int} (h : w.ownsRow base T 1 v ns.length (intCs ns)) (hB : w.heap.size ≤ B) : Ints B w v ns := by
  rcases id h.2 with ⟨rfl, h0⟩ | ⟨g, cap, cur, rfl, hbg, hg, hnc, hcm, hcs, htake⟩
  · exact ⟨none, 0, by rw [h0], by omega, by decide, fun k => absurd k (by omega)⟩
  · refine ⟨_, cap, rfl, hnc, hcm, fun _ => ⟨g, 0, rfl, ?_, fun j hj => ?_⟩⟩
    · have := (Array.getElem?_eq_some_iff.1 hg).1; omega
    · show w.cell? ⟨g, 0 + j, none⟩ = _
      rw [Nat.zero_add, h.cellAt j (by omega)]
      simp [intCs, hj]
/-! The table of what kinds of steps have. -/
def PartsG (w : World) : Prop := ∀ o : Nat, o < 11 → w.cell? ⟨0, o * 4, none⟩ = some (.bool (CodM.hReg o)) ∧ w.cell? ⟨0, o * 4 + 1, none⟩ = some (.bool (CodM.hLoc o)) ∧
  w.cell? ⟨0, o * 4 + 2, none⟩ = some (.bool (CodM.hNum o)) ∧ w.cell? ⟨0, o * 4 + 3, none⟩ = some (.bool (CodM.hTo o))
theorem PartsG.below {w w' : World} (h : PartsG w) (hb : Below w.heap.size w w') : PartsG w' := fun o ho => by
  obtain ⟨h0, h1, h2, h3⟩ := h o ho
  exact ⟨kc hb h0, kc hb h1, kc hb h2, kc hb h3⟩
end Go.Proofs.YtaelfjphgdlbcaaGreatDoor
namespace Go.Proofs.YtaelfjphgdlbcaaGreatDoor
open Go.RowKit
set_option linter.unusedVariables false
set_option linter.unusedSimpArgs false
open WordM (L)
open CodM (St Pg hasS cnt zOr hReg hLoc hNum hTo)

theorem ret_boolc {a b : Bool} (h : a = b) : Ending.returned (.bool a) = .returned (.bool b) := by rw [h]
set_option maxHeartbeats 1000000 in
theorem has_any (x : OpsM.Ln) (w : World) :
    Calls Tryz.prog 29 #[lnW x] w fun e w' => e = .returned (.bool (hasS x)) ∧ Below w.heap.size w w' := by
  unfold lnW lnv
  go_enter Tryz.func29, Tryz.ntmps29
  go_wp2
  go_ret
  exact ⟨rfl, (Below.refl _ _).alloc (Nat.le_refl _) _⟩
set_option maxHeartbeats 1000000 in
theorem among_any (n l m : Int) (w : World) :
    Calls Tryz.prog 13 #[.int .i64 n, .int .i64 l, .int .i64 m] w fun e w' => e = .returned (.bool (decide (l ≤ n) && decide (n ≤ m))) ∧ w = w' := by
  by_cases h : l ≤ n
  · have hd : decide (l ≤ n) = true := decide_eq_true h
    go_enter Tryz.func13, Tryz.ntmps13
    go_wp2
    go_ret
    exact ⟨by simp [h], rfl⟩
  · have hd : decide (l ≤ n) = false := decide_eq_false h
    go_enter Tryz.func13, Tryz.ntmps13
    go_wp2
    go_ret
    exact ⟨by simp [h], rfl⟩
set_option maxHeartbeats 1000000 in
theorem zeror_any (b : Bool) (n l m : Int) (w : World) :
    Calls Tryz.prog 42 #[.bool b, .int .i64 n, .int .i64 l, .int .i64 m] w fun e w' => e = .returned (.bool (zOr b n l m)) ∧ w = w' := by
  cases b
  · go_enter Tryz.func42, Tryz.ntmps42
    go_wp2
    go_ret
    exact ⟨rfl, rfl⟩
  · have H := Lib.hid (fun W => among_any n l m W)
    unfold zOr
    simp only [if_true]
    generalize (decide (l ≤ n) && decide (n ≤ m)) = r at *
    go_enter Tryz.func42, Tryz.ntmps42
    go_wp2_with fail
    refine (H.out _).mono ?_
    rintro e w' ⟨rfl, rfl⟩
    go_wp2
    go_ret
    exact ⟨rfl, rfl⟩
/-- How many steps the lines have. -/
def CtRel (ls : List OpsM.Ln) (w : World) (n i : Value) (wr : World) : Prop :=
  ∃ k m : Nat, k ≤ ls.length ∧ i = .int .i64 k ∧ m = cnt (ls.take k) ∧ m ≤ k ∧ n = .int .i64 m ∧ Below w.heap.size w wr
set_option maxHeartbeats 4000000 in
theorem count_any {B : Nat} {v : Value} {ls : List OpsM.Ln} (w : World) (h : Lns B w v ls) (hBB : B ≤ w.heap.size) :
    Calls Tryz.prog 28 #[v] w fun e w' => e = .returned (.int .i64 (cnt ls : Nat)) ∧ Below w.heap.size w w' := by
  obtain ⟨A1, c1, rfl, h1, h2, h3⟩ := h
  unfold maxLen at h2
  go_enter Tryz.func28, Tryz.ntmps28
  go_wp2
  go_loopw [3, 8] (fun n i wr => CtRel ls w n i wr) (fun _ i _ => ls.length - (intOf i).toNat)
  case atStart => exact ⟨0, 0, Nat.zero_le _, rfl, rfl, Nat.le_refl _, rfl, Below.refl _ _⟩
  case round =>
    obtain ⟨k, m, hk, rfl, hm, hmk, rfl, hB⟩ := hrel
    have HM := Lib.hid hm
    clear hm
    by_cases hlt : k < ls.length
    · obtain ⟨b1, f1, rfl, hb1, hcl⟩ := h3 (by omega)
      obtain ⟨z0, z1, z2, z3, z4⟩ := (hcl k hlt).below (hB.mono hBB) hb1
      have hts := CodM.cnt_take ls k hlt
      obtain ⟨x, hx⟩ : ∃ x, x = ls[k] := ⟨_, rfl⟩
      rw [← hx] at z0 z1 z2 z3 z4 hts
      have HTS := Lib.hid hts
      clear hx hcl h3 hts
      have HH := Lib.hid (fun W => has_any x W)
      unfold lnW lnv at HH
      have hBA := below_al hB (.cells #[.int .i64 x.op, .string ⟨x.reg.toArray⟩, .string ⟨x.loc.toArray⟩, .string ⟨x.label.toArray⟩, .int .i64 x.n] 42)
      generalize hasS x = q at *
      go_wp2_with fail
      refine (HH.out _).mono ?_
      rintro e w1 ⟨rfl, hb⟩
      have hB1 := chain hBA hb
      clear hBA hb z0 z1 z2 z3 z4 HH
      cases q
      · go_wp2
        go_roundw
        case rel => exact ⟨k + 1, m, by omega, by go_num, by rw [HTS.out, HM.out]; rfl, by omega, rfl, hB1⟩
        case measure => simp [intOf]; omega
      · go_wp2
        go_roundw
        case rel => exact ⟨k + 1, m + 1, by omega, by go_num, by rw [HTS.out, HM.out]; rfl, by omega, by go_num, hB1⟩
        case measure => simp [intOf]; omega
    · obtain rfl : ls.length = k := by omega
      rw [List.take_length] at HM
      clear h3
      go_wp2
      go_ret
      exact ⟨ret_int (by rw [HM.out]), hB⟩
end Go.Proofs.YtaelfjphgdlbcaaGreatDoor
namespace Go.Proofs.YtaelfjphgdlbcaaGreatDoor
open Go.RowKit
set_option linter.unusedVariables false
set_option linter.unusedSimpArgs false
open WordM (L)
open VM
open CodM (St Pg hasS cnt atI lineI lnP)

theorem Lns.take {B : Nat} {w : World} {A : Option Addr} {n c : Nat} {ls : List OpsM.Ln} (h : Lns B w (.slice A n c) ls) (k : Nat) (hk : k ≤ n) : Lns B w (.slice A k c) (ls.take k) := by
  obtain ⟨A', c', e, h1, h2, h3⟩ := h
  injection e with e1 e2 e3
  subst e1; subst e2; subst e3
  have hl : (ls.take k).length = k := by rw [List.length_take]; omega
  refine ⟨A, c, by rw [hl], by omega, h2, fun hp => ?_⟩
  obtain ⟨b, f, e, h4, h5⟩ := h3 (by omega)
  refine ⟨b, f, e, h4, fun j hj => ?_⟩
  rw [List.getElem_take]
  exact h5 j (by omega)
theorem atI_out {F : Fl} {t k : Int} (h : ¬ (0 ≤ t ∧ t < F.ths.length)) : atI F t k = -1 := by
  unfold atI; rw [if_neg (fun c => h ⟨c.1, c.2.1⟩)]
theorem atI_off {F : Fl} {t : Nat} {k : Int} (ht : t < F.ths.length) (h : ¬ (0 ≤ k ∧ k ≤ F.ths[t].length)) : atI F t k = -1 := by
  unfold atI; rw [if_neg]
  rintro ⟨_, _, c⟩
  rw [Int.toNat_natCast, getD_at _ _ _ ht] at c
  exact h c
theorem atI_in {F : Fl} {t k : Nat} (ht : t < F.ths.length) (h : k ≤ F.ths[t].length) : atI F t k = (cnt (F.ths[t].take k) : Nat) := by
  unfold atI
  rw [Int.toNat_natCast, getD_at _ _ _ ht, Int.toNat_natCast, if_pos ⟨by omega, by omega, by omega, by omega⟩]
set_option maxHeartbeats 4000000 in
set_option maxRecDepth 100000 in
theorem cat_any {B : Nat} {v : Value} {F : Fl} (t k : Int) (w : World) (hv : FlV B w v F) (hBB : B ≤ w.heap.size) (hl : F.ths.length ≤ 1000000) (hm : ∀ ls ∈ F.ths, ls.length ≤ 1000000) :
    Calls Tryz.prog 11 #[v, .int .i64 t, .int .i64 k] w fun e w' => e = .returned (.int .i64 (atI F t k)) ∧ Below w.heap.size w w' := by
  obtain ⟨vi, vt, vc, rfl, hmi, hmt, hmc⟩ := hv
  unfold flv
  obtain ⟨A2, c2, rfl, h1, h2, h3⟩ := hmt
  unfold maxLen at h2
  have hB := below_al (Below.refl w.heap.size w) (.cells #[.string ⟨F.name.toArray⟩, vi, .slice A2 F.ths.length c2, .bool F.all, vc] 39)
  clear hmi hmc
  have HA := fun W => among_any t 0 ((F.ths.length : Int) - 1) W
  by_cases hin : 0 ≤ t ∧ t < F.ths.length
  · obtain ⟨i, rfl⟩ := Int.eq_ofNat_of_zero_le hin.1
    have hi : i < F.ths.length := by omega
    rw [show (decide ((0 : Int) ≤ (i : Int)) && decide ((i : Int) ≤ (F.ths.length : Int) - 1)) = true by simp; omega] at HA
    obtain ⟨b1, f1, rfl, hb1, hcl⟩ := h3 (by omega)
    obtain ⟨u, z0, hL⟩ := (hcl i hi).below (hB.mono hBB) hb1
    have hml := hm _ (List.getElem_mem hi)
    have HO := Lib.hid (@atI_off F i k hi)
    have HI := Lib.hid (fun (q : Nat) (h : q ≤ F.ths[i].length) => atI_in hi h)
    obtain ⟨ls, hx⟩ : ∃ x, x = F.ths[i] := ⟨_, rfl⟩
    rw [← hx] at hL hml HO HI
    have HK := fun W => among_any k 0 ls.length W
    obtain ⟨A3, c3, rfl, e1, e2, e3⟩ := id hL
    unfold maxLen at e2
    replace HA := Lib.hid HA
    have HL := Lib.hid hL
    clear hx hcl h3 hm hin hL e3
    by_cases hk : 0 ≤ k ∧ k ≤ ls.length
    · obtain ⟨q, rfl⟩ := Int.eq_ofNat_of_zero_le hk.1
      have hq : q ≤ ls.length := by omega
      rw [show (decide ((0 : Int) ≤ (q : Int)) && decide ((q : Int) ≤ (ls.length : Int))) = true by simp; omega] at HK
      have HC := Lib.hid (count_any _ (HL.out.take q hq) (Nat.le_trans hBB hB.size))
      have HE := Lib.hid (HI.out q hq)
      replace HK := Lib.hid HK
      clear hk HI HO HL
      go_enter Tryz.func11, Tryz.ntmps11
      go_wp2_with fail
      refine (HA.out _).mono ?_
      rintro e w1 ⟨rfl, rfl⟩
      go_wp2_with fail
      refine (HK.out _).mono ?_
      rintro e w1 ⟨rfl, rfl⟩
      go_wp2_with fail
      refine HC.out.mono ?_
      rintro e w1 ⟨rfl, hb⟩
      have hB1 := chain hB hb
      clear HC hb z0
      go_wp2
      go_ret
      exact ⟨ret_int HE.out.symm, hB1⟩
    · rw [show (decide ((0 : Int) ≤ k) && decide (k ≤ (ls.length : Int))) = false by
        by_cases h : 0 ≤ k
        · simp [h]; omega
        · simp [h]] at HK
      have HE := Lib.hid (HO.out hk)
      replace HK := Lib.hid HK
      clear hk HI HO HL
      go_enter Tryz.func11, Tryz.ntmps11
      go_wp2_with fail
      refine (HA.out _).mono ?_
      rintro e w1 ⟨rfl, rfl⟩
      go_wp2_with fail
      refine (HK.out _).mono ?_
      rintro e w1 ⟨rfl, rfl⟩
      go_wp2
      go_ret
      exact ⟨ret_int HE.out.symm, hB⟩
  · rw [show (decide ((0 : Int) ≤ t) && decide (t ≤ (F.ths.length : Int) - 1)) = false by
      by_cases h : 0 ≤ t
      · simp [h]; omega
      · simp [h]] at HA
    have HE := Lib.hid (atI_out (k := k) hin)
    replace HA := Lib.hid HA
    clear hin h3 hm
    go_enter Tryz.func11, Tryz.ntmps11
    go_wp2_with fail
    refine (HA.out _).mono ?_
    rintro e w1 ⟨rfl, rfl⟩
    go_wp2
    go_ret
    exact ⟨ret_int HE.out.symm, hB⟩
theorem w64_step (x : Int) : wrap64 (wrap64 x - 1) = wrap64 (x - 1) := by unfold wrap64; omega
theorem w64_zero {a : Int} {m : Nat} (ha : NumM.inR a) (hm : m ≤ 1000000) : wrap64 (a - m) = 0 ↔ (m : Int) = a := by
  unfold NumM.inR at ha; unfold wrap64; omega
/-- The lines ahead of the k-th have m steps; none of these is step a. -/
def LnRel (ls : List OpsM.Ln) (a : Int) (w : World) (x i : Value) (wr : World) : Prop :=
  ∃ (k m : Nat) (d : Int), k ≤ ls.length ∧ i = .int .i64 k ∧ m = cnt (ls.take k) ∧ x = .int .i64 d ∧ d = wrap64 (a - m) ∧ (∀ j (hj : j < ls.length), j < k → hasS ls[j] = true → ¬ (cnt (ls.take j) : Int) = a) ∧ Below w.heap.size w wr
theorem lineI_out {F : Fl} {t a : Int} (h : ¬ (0 ≤ t ∧ t < F.ths.length)) : lineI F t a = -1 := by
  unfold lineI; rw [if_neg h]
theorem lineI_in {F : Fl} {t : Nat} {a : Int} (ht : t < F.ths.length) : lineI F t a = lnP F.ths[t] a := by
  unfold lineI
  rw [Int.toNat_natCast, getD_at _ _ _ ht, if_pos ⟨by omega, by omega⟩]
set_option maxHeartbeats 4000000 in
set_option maxRecDepth 100000 in
theorem cline_any {B : Nat} {v : Value} {F : Fl} (t a : Int) (w : World) (hv : FlV B w v F) (hBB : B ≤ w.heap.size) (hl : F.ths.length ≤ 1000000) (hm : ∀ ls ∈ F.ths, ls.length ≤ 1000000) (ha : NumM.inR a) :
    Calls Tryz.prog 12 #[v, .int .i64 t, .int .i64 a] w fun e w' => e = .returned (.int .i64 (lineI F t a)) ∧ Below w.heap.size w w' := by
  obtain ⟨vi, vt, vc, rfl, hmi, hmt, hmc⟩ := hv
  unfold flv
  obtain ⟨A2, c2, rfl, h1, h2, h3⟩ := hmt
  unfold maxLen at h2
  have hB := below_al (Below.refl w.heap.size w) (.cells #[.string ⟨F.name.toArray⟩, vi, .slice A2 F.ths.length c2, .bool F.all, vc] 39)
  clear hmi hmc
  have HA := fun W => among_any t 0 ((F.ths.length : Int) - 1) W
  by_cases hin : 0 ≤ t ∧ t < F.ths.length
  · obtain ⟨i, rfl⟩ := Int.eq_ofNat_of_zero_le hin.1
    have hi : i < F.ths.length := by omega
    rw [show (decide ((0 : Int) ≤ (i : Int)) && decide ((i : Int) ≤ (F.ths.length : Int) - 1)) = true by simp; omega] at HA
    obtain ⟨b1, f1, rfl, hb1, hcl⟩ := h3 (by omega)
    obtain ⟨u, z00, hL⟩ := hcl i hi
    have z0 := (hB.cell (p := ⟨b1, f1 + i, none⟩) (by show b1 < w.heap.size; omega)).trans z00
    have hml := hm _ (List.getElem_mem hi)
    have HI := Lib.hid (@lineI_in F i a hi)
    obtain ⟨ls, hx⟩ : ∃ x, x = F.ths[i] := ⟨_, rfl⟩
    rw [← hx] at hL hml HI
    obtain ⟨A3, c3, rfl, e1, e2, e3⟩ := hL
    unfold maxLen at e2
    replace HA := Lib.hid HA
    have HAR := Lib.hid ha
    clear hx hcl h3 hm hin ha
    have hd0 := Lib.hid (show wrap64 (a - (0 : Nat)) = a by rw [show a - ((0 : Nat) : Int) = a by omega]; exact NumM.wrap64_inR _ HAR.out)
    go_enter Tryz.func12, Tryz.ntmps12
    go_wp2_with fail
    refine (HA.out _).mono ?_
    rintro e w1 ⟨rfl, rfl⟩
    go_wp2
    go_loopw [2, 23] (fun x i wr => LnRel ls a w x i wr) (fun _ i _ => ls.length - (intOf i).toNat)
    case atStart => exact ⟨0, 0, a, Nat.zero_le _, rfl, rfl, rfl, hd0.out.symm, fun j _ h => absurd h (Nat.not_lt_zero j), hB⟩
    case round =>
      obtain ⟨k, m, d, hk, rfl, hcm, rfl, hd, hall, hB1⟩ := hrel
      have HCM := Lib.hid hcm
      have HD := Lib.hid hd
      have HAL := Lib.hid hall
      have hmk : m ≤ 1000000 := by have := CodM.cnt_le ls k; omega
      clear hcm hd hall z0 hd0 hB
      by_cases hlt : k < ls.length
      · obtain ⟨b3, f3, rfl, hb3, hcl⟩ := e3 (by omega)
        obtain ⟨z0, z1, z2, z3, z4⟩ := (hcl k hlt).below (hB1.mono hBB) hb3
        have hts := CodM.cnt_take ls k hlt
        have HH := Lib.hid (fun (h1 : hasS ls[k] = true) (h2 : (m : Int) = a) => show lineI F i a = k by rw [HI.out]; exact CodM.lnP_hit hlt h1 (by rw [← HCM.out]; exact h2))
        have HY := Lib.hid (fun (h : ¬ (hasS ls[k] = true ∧ (m : Int) = a)) (j : Nat) (hj : j < ls.length) (hjk : j < k + 1) => show hasS ls[j] = true → ¬ (cnt (ls.take j) : Int) = a by
          by_cases e : j = k
          · subst e; rw [← HCM.out]; exact fun h1 h2 => h ⟨h1, h2⟩
          · exact HAL.out j hj (by omega))
        obtain ⟨x, hx⟩ : ∃ x, x = ls[k] := ⟨_, rfl⟩
        rw [← hx] at z0 z1 z2 z3 z4 hts HH HY
        have HTS := Lib.hid hts
        clear hx hcl e3 hts HAL
        have HC := Lib.hid (fun W => has_any x W)
        unfold lnW lnv at HC
        have hBA := below_al hB1 (.cells #[.int .i64 x.op, .string ⟨x.reg.toArray⟩, .string ⟨x.loc.toArray⟩, .string ⟨x.label.toArray⟩, .int .i64 x.n] 42)
        generalize hasS x = q at *
        go_wp2_with fail
        refine (HC.out _).mono ?_
        rintro e w1 ⟨rfl, hb⟩
        have hB2 := chain hBA hb
        clear hBA hb z0 z1 z2 z3 z4 HC
        cases q
        · go_wp2
          refine ⟨⟨k + 1, m, d, by omega, by go_num, by rw [HTS.out, ← HCM.out]; rfl, rfl, HD.out, HY.out (by simp), hB2⟩, by simp [intOf]; omega⟩
        · cases hz : (d == 0)
          · have HZ := Lib.hid hz
            have hne : ¬ (m : Int) = a := fun e => by
              have := (w64_zero HAR.out hmk).2 e
              have h0 : d = 0 := HD.out.trans this
              have h1 := HZ.out
              rw [h0] at h1; cases h1
            go_wp2
            go_roundw
            case rel => exact ⟨k + 1, m + 1, _, by omega, by go_num, by rw [HTS.out, ← HCM.out]; rfl, rfl, by rw [HD.out, w64_step]; congr 1; omega, HY.out (by simp [hne]), hB2⟩
            case measure => simp [intOf]; omega
          · have hz0 : d = 0 := by simpa using hz
            have HE := Lib.hid (HH.out (by trivial) ((w64_zero HAR.out hmk).1 (HD.out.symm.trans hz0)))
            clear hz0
            go_wp2
            go_ret
            exact ⟨ret_int HE.out.symm, hB2⟩
      · obtain rfl : ls.length = k := by omega
        have HE := Lib.hid (show lineI F i a = -1 by rw [HI.out]; exact CodM.lnP_none (fun j hj => HAL.out j hj hj))
        clear e3
        go_wp2
        go_ret
        exact ⟨ret_int HE.out.symm, hB1⟩
  · rw [show (decide ((0 : Int) ≤ t) && decide (t ≤ (F.ths.length : Int) - 1)) = false by
      by_cases h : 0 ≤ t
      · simp [h]; omega
      · simp [h]] at HA
    have HE := Lib.hid (lineI_out (a := a) hin)
    replace HA := Lib.hid HA
    clear hin h3 hm ha
    go_enter Tryz.func12, Tryz.ntmps12
    go_wp2_with fail
    refine (HA.out _).mono ?_
    rintro e w1 ⟨rfl, rfl⟩
    go_wp2
    go_ret
    exact ⟨ret_int HE.out.symm, hB⟩
end Go.Proofs.YtaelfjphgdlbcaaGreatDoor
namespace Go.Proofs.YtaelfjphgdlbcaaGreatDoor
open Go.RowKit
set_option linter.unusedVariables false
set_option linter.unusedSimpArgs false
open WordM (L)
open CodM (St Pg hasS cnt zOr hReg hLoc hNum hTo rightS rightT rightP)

def rS (op reg loc n to locs next fin : Int) : Bool :=
  (decide (1 ≤ op) && decide (op ≤ 10)) && (zOr (hReg op) reg 0 3 && (zOr (hLoc op) loc 0 (locs - 1) && ((hNum op || decide (n = 0)) && zOr (hTo op) to next fin)))
theorem rS_right (many len k : Nat) (s : St) : rightS many len k s = rS s.op s.reg s.loc s.n s.to many ((k : Int) + 1) len := rfl
abbrev stv (op reg loc n to : Int) : Value := .agg #[.int .i64 op, .int .i64 reg, .int .i64 loc, .int .i64 n, .int .i64 to]
set_option maxHeartbeats 4000000 in
set_option maxRecDepth 100000 in
theorem rstep_any (op reg loc n to locs next fin : Int) (w : World) (hp : PartsG w) (h0 : 0 ≤ locs) (h1 : locs ≤ 1000000) :
    Calls Tryz.prog 30 #[stv op reg loc n to, .int .i64 locs, .int .i64 next, .int .i64 fin] w fun e w' => e = .returned (.bool (rS op reg loc n to locs next fin)) ∧ Below w.heap.size w w' := by
  have HA := fun W => among_any op 1 10 W
  have hB := below_al (Below.refl w.heap.size w) (.cells #[.int .i64 op, .int .i64 reg, .int .i64 loc, .int .i64 n, .int .i64 to] 30)
  have hP := hp.below hB
  have hres : rS op reg loc n to locs next fin = ((decide (1 ≤ op) && decide (op ≤ 10)) && (zOr (hReg op) reg 0 3 && (zOr (hLoc op) loc 0 (locs - 1) && ((hNum op || (n == 0)) && zOr (hTo op) to next fin)))) := by
    unfold rS
    rw [show (n == 0) = decide (n = 0) by by_cases h : n = 0 <;> simp [h]]
  have HE := Lib.hid hres
  clear hres
  by_cases hin : 1 ≤ op ∧ op ≤ 10
  · obtain ⟨o, rfl⟩ := Int.eq_ofNat_of_zero_le (show 0 ≤ op by omega)
    have ho : o < 11 := by omega
    have ho1 : 1 ≤ o := by omega
    rw [show (decide ((1 : Int) ≤ (o : Int)) && decide ((o : Int) ≤ 10)) = true by simp [hin.1, hin.2]] at HA HE
    obtain ⟨p0, p1, p2, p3⟩ := hP o ho
    have HZ1 := fun W => zeror_any (hReg o) reg 0 3 W
    have HZ2 := fun W => zeror_any (hLoc o) loc 0 (locs - 1) W
    have HZ3 := fun W => zeror_any (hTo o) to next fin W
    generalize zOr (hReg o) reg 0 3 = a at *
    generalize zOr (hLoc o) loc 0 (locs - 1) = b at *
    generalize zOr (hTo o) to next fin = c at *
    generalize hReg o = r1 at *
    generalize hLoc o = r2 at *
    generalize hTo o = r4 at *
    generalize hNum o = r3 at *
    replace HA := Lib.hid HA
    replace HZ1 := Lib.hid HZ1
    replace HZ2 := Lib.hid HZ2
    replace HZ3 := Lib.hid HZ3
    clear hP hp hin
    go_enter Tryz.func30, Tryz.ntmps30
    go_wp2_with fail
    refine (HA.out _).mono ?_
    rintro e w' ⟨rfl, rfl⟩
    go_wp2_with fail
    refine (HZ1.out _).mono ?_
    rintro e w' ⟨rfl, rfl⟩
    have hB := below_al hB (.cells #[.bool r1, .bool r2, .bool r3, .bool r4] 86)
    cases a
    · go_wp2
      go_ret
      exact ⟨ret_boolc (by rw [HE.out]; rfl), hB⟩
    go_wp2_with fail
    refine (HZ2.out _).mono ?_
    rintro e w' ⟨rfl, rfl⟩
    cases b
    · go_wp2
      go_ret
      exact ⟨ret_boolc (by rw [HE.out]; rfl), hB⟩
    cases r3
    · cases hz : (n == 0)
      · rw [hz] at HE
        go_wp2
        go_ret
        exact ⟨ret_boolc (by rw [HE.out]; rfl), hB⟩
      · rw [hz] at HE
        go_wp2_with fail
        refine (HZ3.out _).mono ?_
        rintro e w' ⟨rfl, rfl⟩
        go_wp2
        go_ret
        exact ⟨ret_boolc (by rw [HE.out]; rfl), hB⟩
    · go_wp2_with fail
      refine (HZ3.out _).mono ?_
      rintro e w' ⟨rfl, rfl⟩
      go_wp2
      go_ret
      exact ⟨ret_boolc (by rw [HE.out]; rfl), hB⟩
  · have hf : (decide (1 ≤ op) && decide (op ≤ 10)) = false := by
      by_cases h : 1 ≤ op
      · simp [h]; omega
      · simp [h]
    rw [hf] at HA HE
    replace HA := Lib.hid HA
    clear hP hp hf
    go_enter Tryz.func30, Tryz.ntmps30
    go_wp2_with fail
    refine (HA.out _).mono ?_
    rintro e w' ⟨rfl, rfl⟩
    go_wp2
    go_ret
    exact ⟨ret_boolc (by rw [HE.out]; rfl), hB⟩
/-- All steps ahead of the k-th are right. -/
def RtRel (many : Nat) (ss : List St) (w : World) (i : Value) (wr : World) : Prop :=
  ∃ k : Nat, k ≤ ss.length ∧ i = .int .i64 k ∧ (∀ j (hj : j < ss.length), j < k → rightS many ss.length j ss[j] = true) ∧ Below w.heap.size w wr
set_option maxHeartbeats 4000000 in
set_option maxRecDepth 100000 in
theorem rthread_any {B : Nat} {v : Value} {ss : List St} (many : Nat) (w : World) (hp : PartsG w) (h : Sts B w v ss) (hBB : B ≤ w.heap.size) (hm : many ≤ 1000000) :
    Calls Tryz.prog 15 #[v, .int .i64 many] w fun e w' => e = .returned (.bool (rightT many ss)) ∧ Below w.heap.size w w' := by
  obtain ⟨A1, c1, rfl, h1, h2, h3⟩ := h
  unfold maxLen at h2
  have HP := Lib.hid hp
  clear hp
  by_cases hl : 80 < ss.length
  · have HE := Lib.hid (CodM.rightT_many (many := many) hl)
    go_enter Tryz.func15, Tryz.ntmps15
    go_wp2
    go_ret
    exact ⟨ret_boolc HE.out.symm, Below.refl _ _⟩
  have hl' : ss.length ≤ 80 := by omega
  go_enter Tryz.func15, Tryz.ntmps15
  go_wp2
  go_loopw [12] (fun i wr => RtRel many ss w i wr) (fun i _ => ss.length - (intOf i).toNat)
  case atStart => exact ⟨0, Nat.zero_le _, rfl, fun j _ h => absurd h (Nat.not_lt_zero j), Below.refl _ _⟩
  case round =>
    obtain ⟨k, hk, rfl, hall, hB⟩ := hrel
    have HA := Lib.hid hall
    clear hall
    by_cases hlt : k < ss.length
    · obtain ⟨b1, f1, rfl, hb1, hcl⟩ := h3 (by omega)
      obtain ⟨z0, z1, z2, z3, z4⟩ := (hcl k hlt).below (hB.mono hBB) hb1
      have HS := fun W (hW : PartsG W) => rstep_any ss[k].op ss[k].reg ss[k].loc ss[k].n ss[k].to many ((k : Int) + 1) ss.length W hW (by omega) (by omega)
      rw [← rS_right] at HS
      have HN := Lib.hid (@CodM.rightT_no many ss k hlt)
      have HY := Lib.hid (fun (h : rightS many ss.length k ss[k] = true) (j : Nat) (hj : j < ss.length) (hjk : j < k + 1) => show rightS many ss.length j ss[j] = true by
        by_cases e : j = k
        · subst e; exact h
        · exact HA.out j hj (by omega))
      obtain ⟨q, hq⟩ : ∃ q, q = rightS many ss.length k ss[k] := ⟨_, rfl⟩
      rw [← hq] at HS HN HY
      clear hq
      obtain ⟨x, hx⟩ : ∃ x, x = ss[k] := ⟨_, rfl⟩
      rw [← hx] at z0 z1 z2 z3 z4 HS
      replace HS := Lib.hid HS
      clear hx hcl h3 HA
      have hBA := below_al hB (.cells #[.int .i64 x.op, .int .i64 x.reg, .int .i64 x.loc, .int .i64 x.n, .int .i64 x.to] 30)
      go_wp2_with fail
      refine (HS.out _ (HP.out.below hBA)).mono ?_
      rintro e w1 ⟨rfl, hb⟩
      have hB1 := chain hBA hb
      clear hBA hb z0 z1 z2 z3 z4 HS
      cases q
      · go_wp2
        go_ret
        exact ⟨ret_boolc (HN.out trivial).symm, hB1⟩
      · go_wp2
        go_roundw
        case rel => exact ⟨k + 1, by omega, by go_num, HY.out trivial, hB1⟩
        case measure => simp [intOf]; omega
    · obtain rfl : ss.length = k := by omega
      have HE := Lib.hid (CodM.rightT_all hl' (fun j hj => HA.out j hj hj))
      clear h3
      go_wp2
      go_ret
      exact ⟨ret_boolc HE.out.symm, hB⟩
end Go.Proofs.YtaelfjphgdlbcaaGreatDoor
namespace Go.Proofs.YtaelfjphgdlbcaaGreatDoor
open Go.RowKit
set_option linter.unusedVariables false
set_option linter.unusedSimpArgs false
open WordM (L)
open CodM (St Pg rightT rightP posI)

/-- A code's box: two cells of a block. -/
def PgBox (w : World) (g : Nat) (vi vt : Value) : Prop := w.cell? ⟨g, 0, none⟩ = some vi ∧ w.cell? ⟨g, 1, none⟩ = some vt
theorem PgBox.below {w w' : World} {g : Nat} {vi vt : Value} (h : PgBox w g vi vt) (hB : Below w.heap.size w w') : PgBox w' g vi vt := ⟨kc hB h.1, kc hB h.2⟩
theorem PgBox.at {w : World} {g : Nat} (hg : g = w.heap.size) (vi vt : Value) (T : TypeId) : PgBox (w.alloc (.cells #[vi, vt] T)) g vi vt := by
  subst hg
  refine ⟨?_, ?_⟩ <;> (rw [World.cell?_alloc_at _ _ _ _ rfl]; rfl)
set_option maxHeartbeats 4000000 in
set_option maxRecDepth 100000 in
theorem rightc1_any {B g n c : Nat} {v vt : Value} {A : Option Addr} {ss : List St} (w : World) (hp : PartsG w) (hb : PgBox w g (.slice A n c) vt) (h : Sts B w v ss) (hBB : B ≤ w.heap.size) (hm : n ≤ 1000000) :
    Calls Tryz.prog 14 #[v, .pointer (some ⟨g, 0, none⟩)] w fun e w' => e = .returned (.bool (!(rightT n ss))) ∧ Below w.heap.size w w' := by
  obtain ⟨t0, t1⟩ := hb
  have HR := Lib.hid (rthread_any n w hp h hBB hm)
  obtain ⟨A1, c1, rfl, h1, h2, h3⟩ := h
  generalize rightT n ss = q at *
  clear h3
  go_enter Tryz.func14, Tryz.ntmps14
  go_wp2_with fail
  refine HR.out.mono ?_
  rintro e w1 ⟨rfl, hb⟩
  clear HR
  go_wp2
  go_ret
  exact ⟨rfl, hb⟩
/-- No row ahead of the k-th is wrong. -/
def IfRel (n : Nat) (ts : List (List St)) (w : World) (i : Value) (wr : World) : Prop :=
  ∃ k : Nat, k ≤ ts.length ∧ i = .int .i64 k ∧ (∀ j (hj : j < ts.length), j < k → (!(rightT n ts[j])) = false) ∧ Below w.heap.size w wr
set_option maxHeartbeats 4000000 in
set_option maxRecDepth 100000 in
theorem ixsts_any {B g n c : Nat} {v vt : Value} {A : Option Addr} {ts : List (List St)} (w : World) (hp : PartsG w) (hb : PgBox w g (.slice A n c) vt) (h : Sss B w v ts) (hBB : B ≤ w.heap.size) (hm : n ≤ 1000000) (hl : ts.length ≤ 1000000) :
    Calls Tryz.prog 31 #[v, .func (.func 14) #[] #[.pointer (some ⟨g, 0, none⟩)]] w fun e w' => e = .returned (.int .i64 (posI (fun ss => !(rightT n ss)) ts)) ∧ Below w.heap.size w w' := by
  obtain ⟨A1, c1, rfl, h1, h2, h3⟩ := h
  unfold maxLen at h2
  have HP := Lib.hid hp
  have HB := Lib.hid hb
  clear hp hb
  go_enter Tryz.func31, Tryz.ntmps31
  go_wp2
  go_loopw [8] (fun i wr => IfRel n ts w i wr) (fun i _ => ts.length - (intOf i).toNat)
  case atStart => exact ⟨0, Nat.zero_le _, rfl, fun j _ h => absurd h (Nat.not_lt_zero j), Below.refl _ _⟩
  case round =>
    obtain ⟨k, hk, rfl, hall, hB⟩ := hrel
    have HA := Lib.hid hall
    clear hall
    by_cases hlt : k < ts.length
    · obtain ⟨b1, f1, rfl, hb1, hcl⟩ := h3 (by omega)
      obtain ⟨u, z0, hS⟩ := (hcl k hlt).below (hB.mono hBB) hb1
      have HC := Lib.hid (rightc1_any (n := n) (c := c) wr (HP.out.below hB) (HB.out.below hB) hS (Nat.le_trans hBB hB.size) hm)
      have HN := Lib.hid (fun (h : (!(rightT n ts[k])) = true) => CodM.posI_hit (p := fun ss => !(rightT n ss)) hlt HA.out h)
      have HY := Lib.hid (fun (h : (!(rightT n ts[k])) = false) (j : Nat) (hj : j < ts.length) (hjk : j < k + 1) => show (!(rightT n ts[j])) = false by
        by_cases e : j = k
        · subst e; exact h
        · exact HA.out j hj (by omega))
      obtain ⟨A3, c3, rfl, -⟩ := hS
      generalize (!(rightT n ts[k])) = q at *
      clear hcl h3 HA
      go_wp2_with fail
      refine HC.out.mono ?_
      rintro e w1 ⟨rfl, hb⟩
      have hB1 := chain hB hb
      clear hB hb z0 HC
      cases q
      · go_wp2
        go_roundw
        case rel => exact ⟨k + 1, by omega, by go_num, HY.out trivial, hB1⟩
        case measure => simp [intOf]; omega
      · go_wp2
        go_ret
        exact ⟨ret_int (HN.out trivial).symm, hB1⟩
    · obtain rfl : ts.length = k := by omega
      have HE := Lib.hid (CodM.posI_none (p := fun ss => !(rightT n ss)) (fun j hj => HA.out j hj hj))
      clear h3
      go_wp2
      go_ret
      exact ⟨ret_int HE.out.symm, hB⟩
theorem posI_all (n : Nat) (ts : List (List St)) : decide (0 ≤ posI (fun ss => !(rightT n ss)) ts) = !(ts.all (rightT n)) := by
  by_cases h : ts.all (rightT n) = true
  · rw [h]
    have : posI (fun ss => !(rightT n ss)) ts = -1 := CodM.posI_none (fun j hj => by
      have := List.all_eq_true.1 h ts[j] (List.getElem_mem hj)
      simp [this])
    rw [this]; rfl
  · have h' : ts.all (rightT n) = false := by simpa using h
    rw [h']
    obtain ⟨x, hx, hn⟩ := List.all_eq_false.1 h'
    obtain ⟨j, hj, rfl⟩ := List.mem_iff_getElem.1 hx
    obtain ⟨h1, h2, _⟩ := CodM.pos0_at (p := fun ss => !(rightT n ss)) hj (by simpa using hn)
    unfold posI
    cases e : ts.findIdx? (fun ss => !(rightT n ss)) with
    | none =>
      rw [List.findIdx?_eq_none_iff] at e
      exact absurd (e _ (List.getElem_mem hj)) (by simpa using hn)
    | some k => simp
set_option maxHeartbeats 4000000 in
set_option maxRecDepth 100000 in
theorem containf_any {B g n c : Nat} {v vt : Value} {A : Option Addr} {ts : List (List St)} (w : World) (hp : PartsG w) (hb : PgBox w g (.slice A n c) vt) (h : Sss B w v ts) (hBB : B ≤ w.heap.size) (hm : n ≤ 1000000) (hl : ts.length ≤ 1000000) :
    Calls Tryz.prog 16 #[v, .func (.func 14) #[] #[.pointer (some ⟨g, 0, none⟩)]] w fun e w' => e = .returned (.bool (!(ts.all (rightT n)))) ∧ Below w.heap.size w w' := by
  have HI := Lib.hid (ixsts_any w hp hb h hBB hm hl)
  have HE := Lib.hid (posI_all n ts)
  obtain ⟨A1, c1, rfl, h1, h2, h3⟩ := h
  generalize posI (fun ss => !(rightT n ss)) ts = r at *
  clear hp hb h3
  go_enter Tryz.func16, Tryz.ntmps16
  go_wp2_with fail
  refine HI.out.mono ?_
  rintro e w1 ⟨rfl, hb⟩
  clear HI
  go_wp2
  go_ret
  exact ⟨ret_boolc HE.out, hb⟩
set_option maxHeartbeats 4000000 in
set_option maxRecDepth 100000 in
theorem cright_any {B : Nat} {v : Value} {P : Pg} (w : World) (hp : PartsG w) (hv : PgV B w v P) (hBB : B ≤ w.heap.size) (hi : P.init.length ≤ 1000000) (hl : P.ths.length ≤ 1000000) :
    Calls Tryz.prog 6 #[v] w fun e w' => e = .returned (.bool (rightP P)) ∧ Below w.heap.size w w' := by
  obtain ⟨vi, vt, rfl, hmi, hmt⟩ := hv
  obtain ⟨A0, c0, rfl, -⟩ := hmi
  have hB := below_al (Below.refl w.heap.size w) (.cells #[.slice A0 P.init.length c0, vt] 25)
  have hbx := Lib.hid (PgBox.at (w := w) rfl (.slice A0 P.init.length c0) vt 25)
  have HC := Lib.hid (containf_any (w.alloc (.cells #[.slice A0 P.init.length c0, vt] 25)) (hp.below hB) hbx.out (hmt.below (hB.mono hBB)) (Nat.le_trans hBB hB.size) hi hl)
  have HM := Lib.hid (fun W => among_any P.ths.length 1 3 W)
  have HE := Lib.hid (show rightP P = ((decide (P.init.length ≤ 4) && (decide (1 ≤ P.ths.length) && decide (P.ths.length ≤ 3))) && P.ths.all (rightT P.init.length)) from rfl)
  obtain ⟨A2, c2, rfl, h1, h2, -⟩ := hmt
  clear hp hbx
  by_cases hn : 4 < P.init.length
  · have hd : decide (P.init.length ≤ 4) = false := decide_eq_false (by omega)
    rw [hd] at HE
    clear hd
    go_enter Tryz.func6, Tryz.ntmps6
    go_wp2
    go_ret
    exact ⟨ret_boolc HE.out.symm, hB⟩
  have hd : decide (P.init.length ≤ 4) = true := decide_eq_true (by omega)
  rw [hd] at HE
  clear hd
  rw [show (decide ((1 : Int) ≤ (P.ths.length : Int)) && decide ((P.ths.length : Int) ≤ 3)) = (decide (1 ≤ P.ths.length) && decide (P.ths.length ≤ 3)) by
    rw [show decide ((1 : Int) ≤ (P.ths.length : Int)) = decide (1 ≤ P.ths.length) from decide_eq_decide.2 (by omega), show decide ((P.ths.length : Int) ≤ 3) = decide (P.ths.length ≤ 3) from decide_eq_decide.2 (by omega)]] at HM
  generalize (decide (1 ≤ P.ths.length) && decide (P.ths.length ≤ 3)) = r at *
  generalize P.ths.all (rightT P.init.length) = q at *
  cases r
  · go_enter Tryz.func6, Tryz.ntmps6
    go_wp2_with fail
    refine (HM.out _).mono ?_
    rintro e w1 ⟨rfl, rfl⟩
    go_wp2
    go_ret
    exact ⟨ret_boolc HE.out.symm, hB⟩
  · go_enter Tryz.func6, Tryz.ntmps6
    go_wp2_with fail
    refine (HM.out _).mono ?_
    rintro e w1 ⟨rfl, rfl⟩
    go_wp2_with fail
    refine HC.out.mono ?_
    rintro e w1 ⟨rfl, hb⟩
    have hB1 := chain hB hb
    clear HC hb
    go_wp2
    go_ret
    exact ⟨ret_boolc (by rw [HE.out]; simp), hB1⟩
end Go.Proofs.YtaelfjphgdlbcaaGreatDoor
