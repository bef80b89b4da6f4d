/-
  CODES in memory: what it says that a value is a code, with its rows of numbers and of steps; the table of what kinds of steps have.
  A THREAD'S READER, line by line: what it answers of a line that stands behind right ones, and what it holds then.
  package code, its small functions: hasStep, count, among, zeroOr, rightStep.
  valid.frameFault: what is wrong with the name, the cells and how many threads there are.
  valid.lineFault: the first wrong line of the first wrong thread.
  code.At, Line: how many steps stand ahead of a line; the line of a step.
  code.rightStep, rightThread, Right: may a code be so?
  code.Right: by slices.ContainsFunc, over a closure.
  OF WHICH KIND A LINE IS, and whether it is right, over any world that holds the registers.
-/
import Derived.Test.YtaelfjphgdlbcaaM02
import Derived.Test.YtaelfjphgdlbcaaM01
namespace Go.Proofs.Ytaelfjphgdlbcaa
open Go.RowKit
set_option linter.unusedVariables false
set_option linter.unusedSimpArgs false
open WordM (L)
open CodM (St Pg)

/-- Five cells from f on of block b hold the step s. -/
def StAt (w : World) (b f : Nat) (s : St) : Prop :=
  w.cell? ⟨b, f, none⟩ = some (.int .i64 s.op) ∧ w.cell? ⟨b, f + 1, none⟩ = some (.int .i64 s.reg) ∧ w.cell? ⟨b, f + 2, none⟩ = some (.int .i64 s.loc) ∧
    w.cell? ⟨b, f + 3, none⟩ = some (.int .i64 s.n) ∧ w.cell? ⟨b, f + 4, none⟩ = some (.int .i64 s.to)
theorem StAt.below {w w' : World} {B b f : Nat} {s : St} (h : StAt w b f s) (hb : Below B w w') (hlt : b < B) : StAt w' b f s :=
  ⟨(hb.cell (p := ⟨b, f, none⟩) hlt).trans h.1, (hb.cell (p := ⟨b, f + 1, none⟩) hlt).trans h.2.1, (hb.cell (p := ⟨b, f + 2, none⟩) hlt).trans h.2.2.1, (hb.cell (p := ⟨b, f + 3, none⟩) hlt).trans h.2.2.2.1, (hb.cell (p := ⟨b, f + 4, none⟩) hlt).trans h.2.2.2.2⟩
/-- One cell holds a number. -/
def IntAt (w : World) (b f : Nat) (n : Int) : Prop := w.cell? ⟨b, f, none⟩ = some (.int .i64 n)
theorem IntAt.below {w w' : World} {B b f : Nat} {n : Int} (h : IntAt w b f n) (hb : Below B w w') (hlt : b < B) : IntAt w' b f n := (hb.cell (p := ⟨b, f, none⟩) hlt).trans h
def Sts (B : Nat) (w : World) (v : Value) (xs : List St) : Prop :=
  ∃ A c, v = .slice A xs.length c ∧ xs.length ≤ c ∧ c ≤ maxLen ∧
    (0 < xs.length → ∃ b f, A = some ⟨b, f, none⟩ ∧ b < B ∧ ∀ j (h : j < xs.length), StAt w b (f + j * 5) xs[j])
theorem Sts.below {B : Nat} {w w' : World} {v : Value} {xs : List St} (h : Sts B w v xs) (hb : Below B w w') : Sts B w' v xs := by
  obtain ⟨A, c, e, h1, h2, h3⟩ := h
  refine ⟨A, c, e, h1, h2, fun k => ?_⟩
  obtain ⟨b, f, e2, h4, h5⟩ := h3 k
  exact ⟨b, f, e2, h4, fun j hj => (h5 j hj).below hb h4⟩
theorem Sts.more {B B' : Nat} {w : World} {v : Value} {xs : List St} (h : Sts B w v xs) (hb : B ≤ B') : Sts B' w v xs := by
  obtain ⟨A, c, e, h1, h2, h3⟩ := h
  refine ⟨A, c, e, h1, h2, fun k => ?_⟩
  obtain ⟨b, f, e2, h4, h5⟩ := h3 k
  exact ⟨b, f, e2, by omega, h5⟩
/-- One cell holds a row of steps. -/
def SsAt (B : Nat) (w : World) (b f : Nat) (ss : List St) : Prop := ∃ v, w.cell? ⟨b, f, none⟩ = some v ∧ Sts B w v ss
theorem SsAt.below {w w' : World} {B b f : Nat} {ss : List St} (h : SsAt B w b f ss) (hb : Below B w w') (hlt : b < B) : SsAt B w' b f ss := by
  obtain ⟨v, h1, h2⟩ := h
  exact ⟨v, (hb.cell (p := ⟨b, f, none⟩) hlt).trans h1, h2.below hb⟩
theorem SsAt.more {w : World} {B B' b f : Nat} {ss : List St} (h : SsAt B w b f ss) (hb : B ≤ B') : SsAt B' w b f ss := by
  obtain ⟨v, h1, h2⟩ := h
  exact ⟨v, h1, h2.more hb⟩
def Sss (B : Nat) (w : World) (v : Value) (xs : List (List St)) : Prop :=
  ∃ A c, v = .slice A xs.length c ∧ xs.length ≤ c ∧ c ≤ maxLen ∧
    (0 < xs.length → ∃ b f, A = some ⟨b, f, none⟩ ∧ b < B ∧ ∀ j (h : j < xs.length), SsAt B w b (f + j) xs[j])
theorem Sss.below {B : Nat} {w w' : World} {v : Value} {xs : List (List St)} (h : Sss B w v xs) (hb : Below B w w') : Sss B w' v xs := by
  obtain ⟨A, c, e, h1, h2, h3⟩ := h
  refine ⟨A, c, e, h1, h2, fun k => ?_⟩
  obtain ⟨b, f, e2, h4, h5⟩ := h3 k
  exact ⟨b, f, e2, h4, fun j hj => (h5 j hj).below hb h4⟩
theorem Sss.more {B B' : Nat} {w : World} {v : Value} {xs : List (List St)} (h : Sss B w v xs) (hb : B ≤ B') : Sss B' w v xs := by
  obtain ⟨A, c, e, h1, h2, h3⟩ := h
  refine ⟨A, c, e, h1, h2, fun k => ?_⟩
  obtain ⟨b, f, e2, h4, h5⟩ := h3 k
  exact ⟨b, f, e2, by omega, fun j hj => (h5 j hj).more hb⟩
def Ints (B : Nat) (w : World) (v : Value) (xs : List Int) : Prop :=
  ∃ A c, v = .slice A xs.length c ∧ xs.length ≤ c ∧ c ≤ maxLen ∧
    (0 < xs.length → ∃ b f, A = some ⟨b, f, none⟩ ∧ b < B ∧ ∀ j (h : j < xs.length), IntAt w b (f + j) xs[j])
theorem Ints.below {B : Nat} {w w' : World} {v : Value} {xs : List Int} (h : Ints B w v xs) (hb : Below B w w') : Ints B w' v xs := by
  obtain ⟨A, c, e, h1, h2, h3⟩ := h
  refine ⟨A, c, e, h1, h2, fun k => ?_⟩
  obtain ⟨b, f, e2, h4, h5⟩ := h3 k
  exact ⟨b, f, e2, h4, fun j hj => (h5 j hj).below hb h4⟩
theorem Ints.more {B B' : Nat} {w : World} {v : Value} {xs : List Int} (h : Ints B w v xs) (hb : B ≤ B') : Ints B' w v xs := by
  obtain ⟨A, c, e, h1, h2, h3⟩ := h
  refine ⟨A, c, e, h1, h2, fun k => ?_⟩
  obtain ⟨b, f, e2, h4, h5⟩ := h3 k
  exact ⟨b, f, e2, by omega, h5⟩
/-- What the two slices of a code hold. -/
def PgM (B : Nat) (w : World) (vi vt : Value) (P : Pg) : Prop := Ints B w vi P.init ∧ Sss B w vt P.ths
theorem PgM.below {B : Nat} {w w' : World} {vi vt : Value} {P : Pg} (h : PgM B w vi vt P) (hb : Below B w w') : PgM B w' vi vt P := ⟨h.1.below hb, h.2.below hb⟩
theorem PgM.more {B B' : Nat} {w : World} {vi vt : Value} {P : Pg} (h : PgM B w vi vt P) (hb : B ≤ B') : PgM B' w vi vt P := ⟨h.1.more hb, h.2.more hb⟩
/-- The value v is the code P, its slices in blocks below B. -/
def PgV (B : Nat) (w : World) (v : Value) (P : Pg) : Prop := ∃ vi vt, v = .agg #[vi, vt] ∧ PgM B w vi vt P
theorem PgV.below {B : Nat} {w w' : World} {v : Value} {P : Pg} (h : PgV B w v P) (hb : Below B w w') : PgV B w' v P := by
  obtain ⟨a, b, e, h⟩ := h; exact ⟨a, b, e, h.below hb⟩
theorem PgV.more {B B' : Nat} {w : World} {v : Value} {P : Pg} (h : PgV B w v P) (hb : B ≤ B') : PgV B' w v P := by
  obtain ⟨a, b, e, h⟩ := h; exact ⟨a, b, e, h.more hb⟩
/-! The cells of rows, as values. -/
def stCs (s : St) : List Value := [.int .i64 s.op, .int .i64 s.reg, .int .i64 s.loc, .int .i64 s.n, .int .i64 s.to]
def stsCs : List St → List Value
  | [] => []
  | s :: r => stCs s ++ stsCs r
theorem stsCs_len : ∀ ss : List St, (stsCs ss).length = ss.length * 5
  | [] => rfl
  | s :: r => by
    rw [stsCs, List.length_append, stsCs_len r, List.length_cons, Nat.succ_mul, Nat.add_comm]; rfl
theorem stsCs_app : ∀ a b : List St, stsCs (a ++ b) = stsCs a ++ stsCs b
  | [], b => rfl
  | s :: r, b => by rw [List.cons_append, stsCs, stsCs, stsCs_app r b, List.append_assoc]
theorem stsCs_one : ∀ (ss : List St), ∀ u ∈ stsCs ss, u.oneCell' = true
  | [], u, h => by cases h
  | s :: r, u, h => by
    rcases List.mem_append.1 h with h | h
    · simp only [stCs, List.mem_cons, List.not_mem_nil, or_false] at h
      rcases h with rfl | rfl | rfl | rfl | rfl <;> rfl
    · exact stsCs_one r u h
theorem stsCs_at : ∀ (ss : List St) (j i : Nat) (hj : j < ss.length), i < 5 → (stsCs ss)[j * 5 + i]? = (stCs ss[j])[i]?
  | [], j, i, hj, _ => absurd hj (Nat.not_lt_zero j)
  | s :: r, 0, i, hj, hi => by
    rw [stsCs, Nat.zero_mul, Nat.zero_add, List.getElem?_append_left (by simpa [stCs] using hi)]; rfl
  | s :: r, j + 1, i, hj, hi => by
    have hl : (stCs s).length = 5 := rfl
    rw [stsCs, List.getElem?_append_right (by rw [hl]; omega), hl, show (j + 1) * 5 + i - 5 = j * 5 + i by omega, stsCs_at r j i (by simpa using hj) hi]; rfl
/-- The cells of steps in memory are the steps' cells. -/
theorem cells_of_sts {w : World} {b f : Nat} {ss : List St} (h : ∀ j (hj : j < ss.length), StAt w b (f + j * 5) ss[j]) : ∀ (j : Nat) (u : Value), (stsCs ss)[j]? = some u → w.cell? ⟨b, f + j, none⟩ = some u := by
  intro j u hu
  have hj : j < ss.length * 5 := by
    rw [← stsCs_len]
    exact (List.getElem?_eq_some_iff.1 hu).1
  have e : j = j / 5 * 5 + j % 5 := by omega
  have h1 : j / 5 < ss.length := by omega
  have h2 : j % 5 < 5 := by omega
  rw [e, stsCs_at ss (j / 5) (j % 5) h1 h2] at hu
  obtain ⟨c0, c1, c2, c3, c4⟩ := h (j / 5) h1
  rw [e]
  generalize j % 5 = i at *
  generalize j / 5 = q at *
  have e0 : f + (q * 5 + i) = f + q * 5 + i := by omega
  rw [e0]
  rcases (show i = 0 ∨ i = 1 ∨ i = 2 ∨ i = 3 ∨ i = 4 by omega) with rfl | rfl | rfl | rfl | rfl
  · injection hu with hu; subst hu; exact c0
  · injection hu with hu; subst hu; exact c1
  · injection hu with hu; subst hu; exact c2
  · injection hu with hu; subst hu; exact c3
  · injection hu with hu; subst hu; exact c4
/-- A row of the call's own that holds steps' cells reads as the steps. -/
theorem sts_of_own {w : World} {base B : Nat} {T : TypeId} {v : Value} {ss : List St} (h : w.ownsRow base T 5 v ss.length (stsCs ss)) (hB : w.heap.size ≤ B) : Sts B w v ss := by
  rcases id h.2 with ⟨rfl, h0⟩ | ⟨g, cap, cur, rfl, hbg, hg, hnc, hcm, hcs, htake⟩
  · exact ⟨none, 0, by rw [h0], by omega, by decide, fun k => absurd k (by omega)⟩
  · refine ⟨_, cap, rfl, hnc, hcm, fun _ => ⟨g, 0, rfl, ?_, fun j hj => ?_⟩⟩
    · have := (Array.getElem?_eq_some_iff.1 hg).1; omega
    · have hc : ∀ i, i < 5 → w.cell? ⟨g, 0 + j * 5 + i, none⟩ = (stCs ss[j])[i]? := fun i hi => by
        rw [Nat.zero_add, h.cellAt (j * 5 + i) (by omega), stsCs_at ss j i hj hi]
      exact ⟨hc 0 (by omega), hc 1 (by omega), hc 2 (by omega), hc 3 (by omega), hc 4 (by omega)⟩
/-- A row of the call's own whose cells are rows of steps reads as these. -/
theorem sss_of_own {w : World} {base B : Nat} {T : TypeId} {v : Value} {vs : List Value} {ts : List (List St)} (h : w.ownsRow base T 1 v ts.length vs) (hB : w.heap.size ≤ B)
    (hl : ∀ j (hj : j < ts.length), ∃ u, vs[j]? = some u ∧ Sts B w u ts[j]) : Sss B w v ts := by
  rcases id h.2 with ⟨rfl, h0⟩ | ⟨g, cap, cur, rfl, hbg, hg, hnc, hcm, hcs, htake⟩
  · exact ⟨none, 0, by rw [h0], by omega, by decide, fun k => absurd k (by omega)⟩
  · refine ⟨_, cap, rfl, hnc, hcm, fun _ => ⟨g, 0, rfl, ?_, fun j hj => ?_⟩⟩
    · have := (Array.getElem?_eq_some_iff.1 hg).1; omega
    · obtain ⟨u, h1, h2⟩ := hl j hj
      exact ⟨u, by rw [Nat.zero_add, h.cellAt j (by omega)]; exact h1, h2⟩
def intCs (ns : List Int) : List Value := ns.map (.int .i64)
theorem intCs_len (ns : List Int) : (intCs ns).length = ns.length := by simp [intCs]
theorem intCs_app (a b : List Int) : intCs (a ++ b) = intCs a ++ intCs b := by simp [intCs]
theorem ints_of_own {w : World} {base B : Nat} {T : TypeId} {v : Value} {ns : List Int} (h : w.ownsRow base T 1 v ns.length (intCs ns)) (hB : w.heap.size ≤ B) : Ints B w v ns := by
  rcases id h.2 with ⟨rfl, h0⟩ | ⟨g, cap, cur, rfl, hbg, hg, hnc, hcm, hcs, htake⟩
  · exact ⟨none, 0, by rw [h0], by omega, by decide, fun k => absurd k (by omega)⟩
  · refine ⟨_, cap, rfl, hnc, hcm, fun _ => ⟨g, 0, rfl, ?_, fun j hj => ?_⟩⟩
    · have := (Array.getElem?_eq_some_iff.1 hg).1; omega
    · show w.cell? ⟨g, 0 + j, none⟩ = _
      rw [Nat.zero_add, h.cellAt j (by omega)]
      simp [intCs, hj]
/-! The table of what kinds of steps have. -/
end Go.Proofs.Ytaelfjphgdlbcaa
namespace Go.Proofs.Ytaelfjphgdlbcaa
open Go.RowKit Go.WideMaps Go.Maps
set_option linter.unusedVariables false
set_option linter.unusedSimpArgs false
open WordM (L)
open VM

/-- A line as a value. -/
abbrev lnW (l : OpsM.Ln) : Value := lnv l.op ⟨l.reg.toArray⟩ ⟨l.loc.toArray⟩ ⟨l.label.toArray⟩ l.n

theorem jmpB_iff (x : OpsM.Ln) : jmpB x = true ↔ x.op = 8 ∨ x.op = 9 ∨ x.op = 10 := by
  unfold jmpB; simp; omega
theorem insB_iff (x : OpsM.Ln) : insB x = true ↔ x.op ≠ 6 ∧ x.op ≠ 11 := by
  unfold insB; simp
theorem fenB_succ (ls : List OpsM.Ln) (k : Nat) (hk : k < ls.length) : fenB ls (k + 1) = (ls[k].op == 6) := by
  show (match ls[k]? with | some l => l.op == 6 | none => false) = _
  rw [List.getElem?_eq_getElem hk]
theorem lnC_lab {ls : List OpsM.Ln} {k : Nat} (hk : k < ls.length) (h : lnC ls k = 0) (h11 : ls[k].op = 11) : lcnt (ls.take k) ls[k].label = 0 := by
  rw [lnC_take ls k hk] at h
  unfold lineC at h
  by_cases h0 : OpsM.rightL ls[k] = false
  · rw [if_pos h0] at h; cases h
  · rw [if_neg h0] at h
    by_cases hl : 0 < lcnt (ls.take k) ls[k].label
    · rw [if_pos ⟨h11, hl⟩] at h; cases h
    · omega
end Go.Proofs.Ytaelfjphgdlbcaa
namespace Go.Proofs.Ytaelfjphgdlbcaa
open Go.RowKit
set_option linter.unusedVariables false
set_option linter.unusedSimpArgs false
open WordM (L)
open CodM (St Pg hasS cnt zOr hReg hLoc hNum hTo)

theorem ret_boolc {a b : Bool} (h : a = b) : Ending.returned (.bool a) = .returned (.bool b) := by rw [h]
/-- How many steps the lines have. -/
def CtRel (ls : List OpsM.Ln) (w : World) (n i : Value) (wr : World) : Prop :=
  ∃ k m : Nat, k ≤ ls.length ∧ i = .int .i64 k ∧ m = cnt (ls.take k) ∧ m ≤ k ∧ n = .int .i64 m ∧ Below w.heap.size w wr
end Go.Proofs.Ytaelfjphgdlbcaa
namespace Go.Proofs.Ytaelfjphgdlbcaa
open Go.RowKit
set_option linter.unusedVariables false
set_option linter.unusedSimpArgs false
open WordM (L)
open VM

theorem bytes_lt : ∀ (x y : List UInt8), Op.bytesLess x y = decide (x < y)
  | x, [] => by cases x <;> simp [Op.bytesLess]
  | [], b :: y => by simp [Op.bytesLess]
  | a :: x, b :: y => by
    rw [Op.bytesLess, bytes_lt x y, show (a == b) = decide (a = b) from rfl]
    show (decide (a < b) || (decide (a = b) && decide (x < y))) = _
    rw [← Bool.decide_and, ← Bool.decide_or]
    exact decide_eq_decide.2 List.cons_lt_cons_iff.symm
theorem le_cases (a b : L) : (Op.bytesLess a b = true ∧ a ≤ b) ∨ (Op.bytesLess a b = false ∧ (a == b) = true ∧ a ≤ b) ∨ (Op.bytesLess a b = false ∧ (a == b) = false ∧ ¬ a ≤ b) := by
  rw [bytes_lt, beq_dec]
  by_cases h : a < b
  · exact Or.inl ⟨decide_eq_true h, List.le_of_lt h⟩
  · by_cases e : a = b
    · exact Or.inr (Or.inl ⟨decide_eq_false h, decide_eq_true e, e ▸ List.le_refl _⟩)
    · exact Or.inr (Or.inr ⟨decide_eq_false h, decide_eq_false e, fun c => e (List.le_antisymm c (List.not_lt.1 h))⟩)

def FrRel (F : Fl) (vi vt vc : Value) (w : World) (i : Value) (wr : World) : Prop :=
  ∃ k : Nat, k ≤ F.init.length ∧ i = .int .i64 k ∧ (∀ j, j < k → cellC F.init j = 0) ∧ Below w.heap.size w wr ∧ FlBox wr w.heap.size ⟨F.name.toArray⟩ vi vt vc F.all
theorem cellC_at {cs : List (L × Int)} {k : Nat} (h : k < cs.length) : cellC cs k = if WordM.nameB cs[k].1 = false then 22 else if 0 < k ∧ cs[k].1 ≤ (cs.getD (k - 1) ([], 0)).1 then 21 else 0 := by
  unfold cellC
  rw [List.getD_eq_getElem?_getD, List.getElem?_eq_getElem h]; rfl
end Go.Proofs.Ytaelfjphgdlbcaa
namespace Go.Proofs.Ytaelfjphgdlbcaa
open Go.RowKit Go.WideMaps Go.Maps
set_option linter.unusedVariables false
set_option linter.unusedSimpArgs false
open WordM (L)
open VM

theorem getD_at {α : Type} (ts : List α) (k : Nat) (z : α) (h : k < ts.length) : ts.getD k z = ts[k] := by
  rw [List.getD_eq_getElem?_getD, List.getElem?_eq_getElem h]; rfl
def LoRel (ts : List (List OpsM.Ln)) (w : World) (i : Value) (wr : World) : Prop :=
  ∃ k : Nat, k ≤ ts.length ∧ i = .int .i64 k ∧ (∀ j, j < k → thC (ts.getD j []) = none) ∧ Below w.heap.size w wr
end Go.Proofs.Ytaelfjphgdlbcaa
namespace Go.Proofs.Ytaelfjphgdlbcaa
open Go.RowKit
set_option linter.unusedVariables false
set_option linter.unusedSimpArgs false
open WordM (L)
open VM
open CodM (St Pg hasS cnt atI lineI lnP)

theorem Lns.take {B : Nat} {w : World} {A : Option Addr} {n c : Nat} {ls : List OpsM.Ln} (h : Lns B w (.slice A n c) ls) (k : Nat) (hk : k ≤ n) : Lns B w (.slice A k c) (ls.take k) := by
  obtain ⟨A', c', e, h1, h2, h3⟩ := h
  injection e with e1 e2 e3
  subst e1; subst e2; subst e3
  have hl : (ls.take k).length = k := by rw [List.length_take]; omega
  refine ⟨A, c, by rw [hl], by omega, h2, fun hp => ?_⟩
  obtain ⟨b, f, e, h4, h5⟩ := h3 (by omega)
  refine ⟨b, f, e, h4, fun j hj => ?_⟩
  rw [List.getElem_take]
  exact h5 j (by omega)
theorem atI_out {F : Fl} {t k : Int} (h : ¬ (0 ≤ t ∧ t < F.ths.length)) : atI F t k = -1 := by
  unfold atI; rw [if_neg (fun c => h ⟨c.1, c.2.1⟩)]
theorem atI_off {F : Fl} {t : Nat} {k : Int} (ht : t < F.ths.length) (h : ¬ (0 ≤ k ∧ k ≤ F.ths[t].length)) : atI F t k = -1 := by
  unfold atI; rw [if_neg]
  rintro ⟨_, _, c⟩
  rw [Int.toNat_natCast, getD_at _ _ _ ht] at c
  exact h c
theorem atI_in {F : Fl} {t k : Nat} (ht : t < F.ths.length) (h : k ≤ F.ths[t].length) : atI F t k = (cnt (F.ths[t].take k) : Nat) := by
  unfold atI
  rw [Int.toNat_natCast, getD_at _ _ _ ht, Int.toNat_natCast, if_pos ⟨by omega, by omega, by omega, by omega⟩]
theorem w64_step (x : Int) : wrap64 (wrap64 x - 1) = wrap64 (x - 1) := by unfold wrap64; omega
theorem w64_zero {a : Int} {m : Nat} (ha : NumM.inR a) (hm : m ≤ 1000000) : wrap64 (a - m) = 0 ↔ (m : Int) = a := by
  unfold NumM.inR at ha; unfold wrap64; omega
/-- The lines ahead of the k-th have m steps; none of these is step a. -/
def LnRel (ls : List OpsM.Ln) (a : Int) (w : World) (x i : Value) (wr : World) : Prop :=
  ∃ (k m : Nat) (d : Int), k ≤ ls.length ∧ i = .int .i64 k ∧ m = cnt (ls.take k) ∧ x = .int .i64 d ∧ d = wrap64 (a - m) ∧ (∀ j (hj : j < ls.length), j < k → hasS ls[j] = true → ¬ (cnt (ls.take j) : Int) = a) ∧ Below w.heap.size w wr
theorem lineI_out {F : Fl} {t a : Int} (h : ¬ (0 ≤ t ∧ t < F.ths.length)) : lineI F t a = -1 := by
  unfold lineI; rw [if_neg h]
theorem lineI_in {F : Fl} {t : Nat} {a : Int} (ht : t < F.ths.length) : lineI F t a = lnP F.ths[t] a := by
  unfold lineI
  rw [Int.toNat_natCast, getD_at _ _ _ ht, if_pos ⟨by omega, by omega⟩]
end Go.Proofs.Ytaelfjphgdlbcaa
namespace Go.Proofs.Ytaelfjphgdlbcaa
open Go.RowKit
set_option linter.unusedVariables false
set_option linter.unusedSimpArgs false
open WordM (L)
open CodM (St Pg hasS cnt zOr hReg hLoc hNum hTo rightS rightT rightP)

def rS (op reg loc n to locs next fin : Int) : Bool :=
  (decide (1 ≤ op) && decide (op ≤ 10)) && (zOr (hReg op) reg 0 3 && (zOr (hLoc op) loc 0 (locs - 1) && ((hNum op || decide (n = 0)) && zOr (hTo op) to next fin)))
theorem rS_right (many len k : Nat) (s : St) : rightS many len k s = rS s.op s.reg s.loc s.n s.to many ((k : Int) + 1) len := rfl
abbrev stv (op reg loc n to : Int) : Value := .agg #[.int .i64 op, .int .i64 reg, .int .i64 loc, .int .i64 n, .int .i64 to]
/-- All steps ahead of the k-th are right. -/
def RtRel (many : Nat) (ss : List St) (w : World) (i : Value) (wr : World) : Prop :=
  ∃ k : Nat, k ≤ ss.length ∧ i = .int .i64 k ∧ (∀ j (hj : j < ss.length), j < k → rightS many ss.length j ss[j] = true) ∧ Below w.heap.size w wr
end Go.Proofs.Ytaelfjphgdlbcaa
namespace Go.Proofs.Ytaelfjphgdlbcaa
open Go.RowKit
set_option linter.unusedVariables false
set_option linter.unusedSimpArgs false
open WordM (L)
open CodM (St Pg rightT rightP posI)

/-- A code's box: two cells of a block. -/
def PgBox (w : World) (g : Nat) (vi vt : Value) : Prop := w.cell? ⟨g, 0, none⟩ = some vi ∧ w.cell? ⟨g, 1, none⟩ = some vt
theorem PgBox.below {w w' : World} {g : Nat} {vi vt : Value} (h : PgBox w g vi vt) (hB : Below w.heap.size w w') : PgBox w' g vi vt := ⟨kc hB h.1, kc hB h.2⟩
theorem PgBox.at {w : World} {g : Nat} (hg : g = w.heap.size) (vi vt : Value) (T : TypeId) : PgBox (w.alloc (.cells #[vi, vt] T)) g vi vt := by
  subst hg
  refine ⟨?_, ?_⟩ <;> (rw [World.cell?_alloc_at _ _ _ _ rfl]; rfl)
/-- No row ahead of the k-th is wrong. -/
def IfRel (n : Nat) (ts : List (List St)) (w : World) (i : Value) (wr : World) : Prop :=
  ∃ k : Nat, k ≤ ts.length ∧ i = .int .i64 k ∧ (∀ j (hj : j < ts.length), j < k → (!(rightT n ts[j])) = false) ∧ Below w.heap.size w wr
theorem posI_all (n : Nat) (ts : List (List St)) : decide (0 ≤ posI (fun ss => !(rightT n ss)) ts) = !(ts.all (rightT n)) := by
  by_cases h : ts.all (rightT n) = true
  · rw [h]
    have : posI (fun ss => !(rightT n ss)) ts = -1 := CodM.posI_none (fun j hj => by
      have := List.all_eq_true.1 h ts[j] (List.getElem_mem hj)
      simp [this])
    rw [this]; rfl
  · have h' : ts.all (rightT n) = false := by simpa using h
    rw [h']
    obtain ⟨x, hx, hn⟩ := List.all_eq_false.1 h'
    obtain ⟨j, hj, rfl⟩ := List.mem_iff_getElem.1 hx
    obtain ⟨h1, h2, _⟩ := CodM.pos0_at (p := fun ss => !(rightT n ss)) hj (by simpa using hn)
    unfold posI
    cases e : ts.findIdx? (fun ss => !(rightT n ss)) with
    | none =>
      rw [List.findIdx?_eq_none_iff] at e
      exact absurd (e _ (List.getElem_mem hj)) (by simpa using hn)
    | some k => simp
end Go.Proofs.Ytaelfjphgdlbcaa
namespace Go.Proofs.Ytaelfjphgdlbcaa
open Go.RowKit
set_option linter.unusedVariables false
open WordM (L)

theorem right_no (op n : Int) (r o b : L) (h1 : op ≠ 1) (h2 : op ≠ 2) (h3 : op ≠ 3) (h4 : op ≠ 4) (h5 : op ≠ 5) (h6 : op ≠ 6) (h7 : op ≠ 7) (h8 : op ≠ 8) (h9 : op ≠ 9) (h10 : op ≠ 10) (h11 : op ≠ 11) : OpsM.right op r o b n = false := by simp [OpsM.right, h1, h2, h3, h4, h5, h6, h7, h8, h9, h10, h11]
end Go.Proofs.Ytaelfjphgdlbcaa
