/-
  ARGUMENTS THAT ARE PROGRAMS: what their cells hold.
  PLAIN MATHEMATICS OF LAYER 7: programs as plain steps.
  CODES in memory: what it says that a value is a code, with its rows of numbers and of steps; the table of what kinds of steps have.
  ARGUMENTS THAT ARE CODES: what their cells hold.
  ARGUMENTS THAT ARE ROWS OF NUMBERS: what their cells hold.
  ARGUMENTS THAT ARE CODES: what locations have at first is nil only without room.
  A TAKE, in short.
  APPEND AS ONE STEP OF A DRAWN REGION: a source that may be nil, onto a row of the call's own. Of no program.
  ROWS IN MEMORY, of elements of any number of cells: what it says that a slice reads as a row; rows of the call's own; copy over elements of more than one cell. Of no program.
  WRITES ON THEIR WAY, as mathematics: the last one, what is viewed, what comes there.
  ROWS OF WRITES AND OF NUMBERS in memory, and what a law's arguments hold.
  STATES, as mathematics: which are right for a code, the first one, what a step makes.
-/
import Derived.Test.YtlpjgaeelnlipaaGreatK01
import Derived.SliceStrings
import Derived.OpenShut
import Derived.Test.YtlpjgaeelnlipaaGreatK00
import Derived.Deep.RegionHeld3
import Derived.Laws.AppendOwnNone
import Derived.Laws.OwnMore
import Derived.Deep.AppendLies
import Derived.WalkKit
import Derived.Laws.CopyRow
import Derived.Laws.CopyOwn
import Derived.Laws.IdiomCopy
import Derived.Deep.Fields
import Derived.ChangeSame
import Derived.Maps.AppendAt
import Derived.RangeFuncBox
set_option linter.unusedVariables false
set_option linter.unusedSimpArgs false
namespace Go.Proofs.YtlpjgaeelnlipaaGreat
open Go Go.ChangeShapes Go.WideShapes Go.RowKit Go.Deep
set_option maxRecDepth 100000
open WordM (L)
open VM

theorem list_of {α : Type} {P : Nat → α → Prop} : ∀ {n : Nat}, (∀ i, i < n → ∃ x, P i x) → ∃ xs : List α, xs.length = n ∧ ∀ i (h : i < xs.length), P i xs[i]
  | 0, _ => ⟨[], rfl, fun i h => absurd h (Nat.not_lt_zero i)⟩
  | n + 1, h => by
    obtain ⟨xs, hl, hx⟩ := list_of (fun i hi => h i (Nat.lt_succ_of_lt hi))
    obtain ⟨x, hx0⟩ := h n (Nat.lt_succ_self n)
    refine ⟨xs ++ [x], by simp [hl], fun i hi => ?_⟩
    by_cases e : i < xs.length
    · rw [List.getElem_append_left e]; exact hx i e
    · have e2 : i = xs.length := by simp at hi; omega
      subst e2
      rw [List.getElem_append_right (Nat.le_refl _)]
      simpa [hl] using hx0
section
variable {H : Type} {enc : TypeId × Value → H} {P : Program} {w : World} {base : Nat} {spare : Nat → Bool} {held : Bool}
/-- A row whose elements are what a test says of their cells. -/
theorem open_row {α : Type} {n : Nat} {t e : TypeId} {fuel : Nat} {v : Value} {x : DataW H × List MemPlace} (Pr : Nat → Nat → α → Prop) (ht : P.underlying t = some (.slice e)) (hn : P.cellsOf e = n) (hpos : 0 < n)
    (elem : ∀ (b off : Nat) (cs : List Value) (y : DataW H × List MemPlace) (k : Nat), cs.length = n → (∀ i, i < n → w.cell? ⟨b, off + i, none⟩ = cs[i]?) → DataW.trod enc P w base spare held k e cs = some y → ∃ a : α, Pr b off a)
    (h : DataW.trod enc P w base spare held fuel t [v] = some x) :
    ∃ (xs : List α) (A : Option Addr) (c : Nat), v = .slice A xs.length c ∧ xs.length ≤ c ∧ c ≤ maxLen ∧ (0 < xs.length → ∃ b f, A = some ⟨b, f, none⟩ ∧ b < w.heap.size ∧ ∀ j (h : j < xs.length), Pr b (f + j * n) xs[j]) ∧ (A = none → c = 0) := by
  rcases DataW.trod_slice ht h with ⟨e0, _⟩ | ⟨a, len, cap, elems, rest, k, _, e0, _, hb, hl, hm, hlen, hel, _, _⟩
  · injection e0 with e0 _
    exact ⟨[], none, 0, by rw [e0]; rfl, Nat.le_refl _, by unfold maxLen; omega, fun c => absurd c (by simp), fun _ => rfl⟩
  · injection e0 with e0 _
    subst e0
    by_cases hz : len = 0
    · subst hz
      exact ⟨[], some a, cap, rfl, hl, hm, fun c => absurd c (by simp), fun c => (by cases c)⟩
    have each : ∀ i, i < len → ∃ cs y, w.cells? base (a.add (i * n)) n = some cs ∧ DataW.trod enc P w base spare held k e cs = some y := by
      intro i hi
      have h1 := hel i hi
      rw [hn, List.getElem?_eq_getElem (by omega), Option.bind_eq_some_iff] at h1
      obtain ⟨cs, h2, h3⟩ := h1
      exact ⟨cs, _, h2, h3⟩
    obtain ⟨b, f, sp⟩ := a
    have hsp : sp = none ∧ b < w.heap.size := by
      obtain ⟨cs, y, h2, h3⟩ := each 0 (by omega)
      obtain ⟨_, hcl, hcell⟩ := World.cells?_some h2
      have h4 := hcell 0 (by omega)
      rw [List.getElem?_eq_getElem (by omega)] at h4
      have h5 := cell_spot h4
      simp [Addr.add] at h5
      subst h5
      refine ⟨rfl, ?_⟩
      simp [Addr.add] at h4
      exact lt_of_cell h4
    obtain ⟨rfl, hbl⟩ := hsp
    have each2 : ∀ i, i < len → ∃ a : α, Pr b (f + i * n) a := by
      intro i hi
      obtain ⟨cs, y, h2, h3⟩ := each i hi
      obtain ⟨_, hcl, hcell⟩ := World.cells?_some h2
      refine elem b (f + i * n) cs y k hcl (fun j hj => ?_) h3
      have := hcell j hj
      rw [Addr.add_lit, Addr.add_lit] at this
      exact this
    obtain ⟨xs, hxl, hxs⟩ := list_of each2
    exact ⟨xs, some ⟨b, f, none⟩, cap, by rw [hxl], by rw [hxl]; exact hl, hm, fun _ => ⟨b, f, rfl, hbl, hxs⟩, fun c => (by cases c)⟩
/-- The cells of a struct of one-cell fields. -/
theorem open_cells {t : TypeId} {fs : Array Field} {cs : List Value} {x : DataW H × List MemPlace} {fuel : Nat} (hs : P.underlying t = some (.struct fs)) (hone : oneCellFields P fs = true)
    (h : DataW.trod enc P w base spare held fuel t cs = some x) (hC : cs.length = fs.size) :
    ∀ (j : Nat) (f : Field), fs[j]? = some f → ∃ (y : Value) (z : DataW H × List MemPlace) (n : Nat), cs[j]? = some y ∧ DataW.trod enc P w base spare held n f.type [y] = some z := by
  obtain ⟨xs, n, _, _, _, hlen, hg⟩ := DataW.trod_struct hs h
  intro j f hj
  obtain ⟨ho, hk⟩ := hone_of hone j f hj
  have hjl : j < fs.size := (Array.getElem?_eq_some_iff.1 hj).1
  have h1 := hg j f hj
  rw [ho, hk] at h1
  have h2 : (cs.drop j).take 1 = [cs[j]'(by omega)] := by
    rw [List.drop_eq_getElem_cons (by omega)]; rfl
  have hx : xs[j]? = some (xs[j]'(by omega)) := List.getElem?_eq_getElem (by omega)
  rw [h2] at h1
  exact ⟨_, _, n, List.getElem?_eq_getElem (by omega), h1.trans hx⟩
end
section
variable {H : Type} {enc : TypeId × Value → H} {w : World} {base : Nat} {spare : Nat → Bool} {held : Bool}
end
end Go.Proofs.YtlpjgaeelnlipaaGreat
namespace Go.Proofs.YtlpjgaeelnlipaaGreat.CodM
open WordM (L)
open OpsM (Ln)
open VM (Fl)

/-- A step. -/
structure St where
  op : Int
  reg : Int
  loc : Int
  n : Int
  to : Int
/-- A code. -/
structure Pg where
  init : List Int
  ths : List (List St)
def hasS (x : Ln) : Bool := !(x.op == 11)
def cnt (ls : List Ln) : Nat := (ls.filter hasS).length
/-- The first place at which p holds; -1, if it does nowhere. -/
def posI {A : Type} (p : A → Bool) (l : List A) : Int := match l.findIdx? p with | some k => (k : Int) | none => -1
def pos0 {A : Type} (p : A → Bool) (l : List A) : Nat := (l.findIdx? p).getD 0
/-- Is x a label of that name? -/
def isLab (s : L) (x : Ln) : Bool := !(hasS x) && decide (x.label = s)
def regI (r : L) : Int := max (WordM.regNo r) 0
def locN (locs : List L) (s : L) : Nat := pos0 (fun x => decide (x = s)) locs
def toN (ls : List Ln) (s : L) : Nat := cnt (ls.take (pos0 (isLab s) ls))
def stp (ls : List Ln) (locs : List L) (x : Ln) : St := ⟨x.op, regI x.reg, (locN locs x.loc : Int), x.n, (toN ls x.label : Int)⟩
def thrS (locs : List L) (ls : List Ln) : List St := (ls.filter hasS).map (stp ls locs)
/-- What the location has at first. -/
def fstN (cs : List (L × Int)) (s : L) : Int := match cs.find? (fun c => decide (c.1 = s)) with | some c => c.2 | none => 0
/-! Lines and steps. -/
def atI (F : Fl) (t k : Int) : Int := if 0 ≤ t ∧ t < F.ths.length ∧ 0 ≤ k ∧ k ≤ (F.ths.getD t.toNat []).length then (cnt ((F.ths.getD t.toNat []).take k.toNat) : Int) else -1
/-- Is the k-th line the one of step a? -/
def isLn (ls : List Ln) (a : Int) (k : Nat) : Bool := match ls[k]? with | some x => hasS x && decide ((cnt (ls.take k) : Int) = a) | none => false
def lnP (ls : List Ln) (a : Int) : Int := match (List.range ls.length).find? (isLn ls a) with | some k => (k : Int) | none => -1
def lineI (F : Fl) (t a : Int) : Int := if 0 ≤ t ∧ t < F.ths.length then lnP (F.ths.getD t.toNat []) a else -1
/-! Right codes. -/
def hReg (o : Int) : Bool := decide (o = 1) || (decide (o = 2) || (decide (o = 3) || (decide (o = 5) || decide (o = 7))))
def hLoc (o : Int) : Bool := decide (o = 2) || (decide (o = 3) || (decide (o = 4) || decide (o = 5)))
def hNum (o : Int) : Bool := decide (o = 1) || (decide (o = 4) || decide (o = 7))
def hTo (o : Int) : Bool := decide (8 ≤ o)
def zOr (has : Bool) (n least most : Int) : Bool := if has then decide (least ≤ n) && decide (n ≤ most) else decide (n = 0)
def rightS (many : Nat) (len : Nat) (at' : Nat) (s : St) : Bool :=
  (decide (1 ≤ s.op) && decide (s.op ≤ 10)) && (zOr (hReg s.op) s.reg 0 3 && (zOr (hLoc s.op) s.loc 0 ((many : Int) - 1) && ((hNum s.op || decide (s.n = 0)) && zOr (hTo s.op) s.to ((at' : Int) + 1) (len : Int))))
def rightT (many : Nat) (ss : List St) : Bool := decide (ss.length ≤ 80) && (List.range ss.length).all fun k => match ss[k]? with | some s => rightS many ss.length k s | none => false
def rightP (p : Pg) : Bool := decide (p.init.length ≤ 4) && (decide (1 ≤ p.ths.length) && decide (p.ths.length ≤ 3)) && p.ths.all (rightT p.init.length)
theorem rightT_all {many : Nat} {ss : List St} (h : ss.length ≤ 80) (hall : ∀ k (hk : k < ss.length), rightS many ss.length k ss[k] = true) : rightT many ss = true := by
  unfold rightT
  simp only [Bool.and_eq_true, decide_eq_true_eq, List.all_eq_true, List.mem_range]
  exact ⟨h, fun k hk => by rw [List.getElem?_eq_getElem hk]; exact hall k hk⟩
theorem rightT_many {many : Nat} {ss : List St} (h : 80 < ss.length) : rightT many ss = false := by
  unfold rightT; simp; intro h2; omega
theorem rightT_no {many : Nat} {ss : List St} {k : Nat} (hk : k < ss.length) (h : rightS many ss.length k ss[k] = false) : rightT many ss = false := by
  unfold rightT
  rw [Bool.and_eq_false_iff]; right
  rw [List.all_eq_false]
  exact ⟨k, List.mem_range.2 hk, by rw [List.getElem?_eq_getElem hk]; simp [h]⟩
theorem rightT_at {many : Nat} {ss : List St} (h : rightT many ss = true) : ss.length ≤ 80 ∧ ∀ k (hk : k < ss.length), rightS many ss.length k ss[k] = true := by
  unfold rightT at h
  simp only [Bool.and_eq_true, decide_eq_true_eq, List.all_eq_true, List.mem_range] at h
  refine ⟨h.1, fun k hk => ?_⟩
  have := h.2 k hk
  rwa [List.getElem?_eq_getElem hk] at this
end Go.Proofs.YtlpjgaeelnlipaaGreat.CodM
namespace Go.Proofs.YtlpjgaeelnlipaaGreat
open Go.RowKit
open WordM (L)
open CodM (St Pg)

/-- Five cells from f on of block b hold the step s. -/
def StAt (w : World) (b f : Nat) (s : St) : Prop :=
  w.cell? ⟨b, f, none⟩ = some (.int .i64 s.op) ∧ w.cell? ⟨b, f + 1, none⟩ = some (.int .i64 s.reg) ∧ w.cell? ⟨b, f + 2, none⟩ = some (.int .i64 s.loc) ∧
    w.cell? ⟨b, f + 3, none⟩ = some (.int .i64 s.n) ∧ w.cell? ⟨b, f + 4, none⟩ = some (.int .i64 s.to)
theorem StAt.below {w w' : World} {B b f : Nat} {s : St} (h : StAt w b f s) (hb : Below B w w') (hlt : b < B) : StAt w' b f s :=
  ⟨(hb.cell (p := ⟨b, f, none⟩) hlt).trans h.1, (hb.cell (p := ⟨b, f + 1, none⟩) hlt).trans h.2.1, (hb.cell (p := ⟨b, f + 2, none⟩) hlt).trans h.2.2.1, (hb.cell (p := ⟨b, f + 3, none⟩) hlt).trans h.2.2.2.1, (hb.cell (p := ⟨b, f + 4, none⟩) hlt).trans h.2.2.2.2⟩
/-- One cell holds a number. -/
def IntAt (w : World) (b f : Nat) (n : Int) : Prop := w.cell? ⟨b, f, none⟩ = some (.int .i64 n)
theorem IntAt.below {w w' : World} {B b f : Nat} {n : Int} (h : IntAt w b f n) (hb : Below B w w') (hlt : b < B) : IntAt w' b f n := (hb.cell (p := ⟨b, f, none⟩) hlt).trans h
def Sts (B : Nat) (w : World) (v : Value) (xs : List St) : Prop :=
  ∃ A c, v = .slice A xs.length c ∧ xs.length ≤ c ∧ c ≤ maxLen ∧
    (0 < xs.length → ∃ b f, A = some ⟨b, f, none⟩ ∧ b < B ∧ ∀ j (h : j < xs.length), StAt w b (f + j * 5) xs[j])
theorem Sts.below {B : Nat} {w w' : World} {v : Value} {xs : List St} (h : Sts B w v xs) (hb : Below B w w') : Sts B w' v xs := by
  obtain ⟨A, c, e, h1, h2, h3⟩ := h
  refine ⟨A, c, e, h1, h2, fun k => ?_⟩
  obtain ⟨b, f, e2, h4, h5⟩ := h3 k
  exact ⟨b, f, e2, h4, fun j hj => (h5 j hj).below hb h4⟩
theorem Sts.more {B B' : Nat} {w : World} {v : Value} {xs : List St} (h : Sts B w v xs) (hb : B ≤ B') : Sts B' w v xs := by
  obtain ⟨A, c, e, h1, h2, h3⟩ := h
  refine ⟨A, c, e, h1, h2, fun k => ?_⟩
  obtain ⟨b, f, e2, h4, h5⟩ := h3 k
  exact ⟨b, f, e2, by omega, h5⟩
/-- One cell holds a row of steps. -/
def SsAt (B : Nat) (w : World) (b f : Nat) (ss : List St) : Prop := ∃ v, w.cell? ⟨b, f, none⟩ = some v ∧ Sts B w v ss
theorem SsAt.below {w w' : World} {B b f : Nat} {ss : List St} (h : SsAt B w b f ss) (hb : Below B w w') (hlt : b < B) : SsAt B w' b f ss := by
  obtain ⟨v, h1, h2⟩ := h
  exact ⟨v, (hb.cell (p := ⟨b, f, none⟩) hlt).trans h1, h2.below hb⟩
theorem SsAt.more {w : World} {B B' b f : Nat} {ss : List St} (h : SsAt B w b f ss) (hb : B ≤ B') : SsAt B' w b f ss := by
  obtain ⟨v, h1, h2⟩ := h
  exact ⟨v, h1, h2.more hb⟩
def Sss (B : Nat) (w : World) (v : Value) (xs : List (List St)) : Prop :=
  ∃ A c, v = .slice A xs.length c ∧ xs.length ≤ c ∧ c ≤ maxLen ∧
    (0 < xs.length → ∃ b f, A = some ⟨b, f, none⟩ ∧ b < B ∧ ∀ j (h : j < xs.length), SsAt B w b (f + j) xs[j])
theorem Sss.below {B : Nat} {w w' : World} {v : Value} {xs : List (List St)} (h : Sss B w v xs) (hb : Below B w w') : Sss B w' v xs := by
  obtain ⟨A, c, e, h1, h2, h3⟩ := h
  refine ⟨A, c, e, h1, h2, fun k => ?_⟩
  obtain ⟨b, f, e2, h4, h5⟩ := h3 k
  exact ⟨b, f, e2, h4, fun j hj => (h5 j hj).below hb h4⟩
theorem Sss.more {B B' : Nat} {w : World} {v : Value} {xs : List (List St)} (h : Sss B w v xs) (hb : B ≤ B') : Sss B' w v xs := by
  obtain ⟨A, c, e, h1, h2, h3⟩ := h
  refine ⟨A, c, e, h1, h2, fun k => ?_⟩
  obtain ⟨b, f, e2, h4, h5⟩ := h3 k
  exact ⟨b, f, e2, by omega, fun j hj => (h5 j hj).more hb⟩
def Ints (B : Nat) (w : World) (v : Value) (xs : List Int) : Prop :=
  ∃ A c, v = .slice A xs.length c ∧ xs.length ≤ c ∧ c ≤ maxLen ∧
    (0 < xs.length → ∃ b f, A = some ⟨b, f, none⟩ ∧ b < B ∧ ∀ j (h : j < xs.length), IntAt w b (f + j) xs[j])
theorem Ints.below {B : Nat} {w w' : World} {v : Value} {xs : List Int} (h : Ints B w v xs) (hb : Below B w w') : Ints B w' v xs := by
  obtain ⟨A, c, e, h1, h2, h3⟩ := h
  refine ⟨A, c, e, h1, h2, fun k => ?_⟩
  obtain ⟨b, f, e2, h4, h5⟩ := h3 k
  exact ⟨b, f, e2, h4, fun j hj => (h5 j hj).below hb h4⟩
theorem Ints.more {B B' : Nat} {w : World} {v : Value} {xs : List Int} (h : Ints B w v xs) (hb : B ≤ B') : Ints B' w v xs := by
  obtain ⟨A, c, e, h1, h2, h3⟩ := h
  refine ⟨A, c, e, h1, h2, fun k => ?_⟩
  obtain ⟨b, f, e2, h4, h5⟩ := h3 k
  exact ⟨b, f, e2, by omega, h5⟩
/-- What the two slices of a code hold. -/
def PgM (B : Nat) (w : World) (vi vt : Value) (P : Pg) : Prop := Ints B w vi P.init ∧ Sss B w vt P.ths
theorem PgM.below {B : Nat} {w w' : World} {vi vt : Value} {P : Pg} (h : PgM B w vi vt P) (hb : Below B w w') : PgM B w' vi vt P := ⟨h.1.below hb, h.2.below hb⟩
theorem PgM.more {B B' : Nat} {w : World} {vi vt : Value} {P : Pg} (h : PgM B w vi vt P) (hb : B ≤ B') : PgM B' w vi vt P := ⟨h.1.more hb, h.2.more hb⟩
/-- The value v is the code P, its slices in blocks below B. -/
def PgV (B : Nat) (w : World) (v : Value) (P : Pg) : Prop := ∃ vi vt, v = .agg #[vi, vt] ∧ PgM B w vi vt P
theorem PgV.below {B : Nat} {w w' : World} {v : Value} {P : Pg} (h : PgV B w v P) (hb : Below B w w') : PgV B w' v P := by
  obtain ⟨a, b, e, h⟩ := h; exact ⟨a, b, e, h.below hb⟩
theorem PgV.more {B B' : Nat} {w : World} {v : Value} {P : Pg} (h : PgV B w v P) (hb : B ≤ B') : PgV B' w v P := by
  obtain ⟨a, b, e, h⟩ := h; exact ⟨a, b, e, h.more hb⟩
/-! The cells of rows, as values. -/
def stCs (s : St) : List Value := [.int .i64 s.op, .int .i64 s.reg, .int .i64 s.loc, .int .i64 s.n, .int .i64 s.to]
def stsCs : List St → List Value
  | [] => []
  | s :: r => stCs s ++ stsCs r
theorem stsCs_app : ∀ a b : List St, stsCs (a ++ b) = stsCs a ++ stsCs b
  | [], b => rfl
  | s :: r, b => by rw [List.cons_append, stsCs, stsCs, stsCs_app r b, List.append_assoc]
theorem stsCs_one : ∀ (ss : List St), ∀ u ∈ stsCs ss, u.oneCell' = true
  | [], u, h => by cases h
  | s :: r, u, h => by
    rcases List.mem_append.1 h with h | h
    · simp only [stCs, List.mem_cons, List.not_mem_nil, or_false] at h
      rcases h with rfl | rfl | rfl | rfl | rfl <;> rfl
    · exact stsCs_one r u h
theorem stsCs_at : ∀ (ss : List St) (j i : Nat) (hj : j < ss.length), i < 5 → (stsCs ss)[j * 5 + i]? = (stCs ss[j])[i]?
  | [], j, i, hj, _ => absurd hj (Nat.not_lt_zero j)
  | s :: r, 0, i, hj, hi => by
    rw [stsCs, Nat.zero_mul, Nat.zero_add, List.getElem?_append_left (by simpa [stCs] using hi)]; rfl
  | s :: r, j + 1, i, hj, hi => by
    have hl : (stCs s).length = 5 := rfl
    rw [stsCs, List.getElem?_append_right (by rw [hl]; omega), hl, show (j + 1) * 5 + i - 5 = j * 5 + i by omega, stsCs_at r j i (by simpa using hj) hi]; rfl
/-- A row of the call's own that holds steps' cells reads as the steps. -/
theorem sts_of_own {w : World} {base B : Nat} {T : TypeId} {v : Value} {ss : List St} (h : w.ownsRow base T 5 v ss.length (stsCs ss)) (hB : w.heap.size ≤ B) : Sts B w v ss := by
  rcases id h.2 with ⟨rfl, h0⟩ | ⟨g, cap, cur, rfl, hbg, hg, hnc, hcm, hcs, htake⟩
  · exact ⟨none, 0, by rw [h0], by omega, by decide, fun k => absurd k (by omega)⟩
  · refine ⟨_, cap, rfl, hnc, hcm, fun _ => ⟨g, 0, rfl, ?_, fun j hj => ?_⟩⟩
    · have := (Array.getElem?_eq_some_iff.1 hg).1; omega
    · have hc : ∀ i, i < 5 → w.cell? ⟨g, 0 + j * 5 + i, none⟩ = (stCs ss[j])[i]? := fun i hi => by
        rw [Nat.zero_add, h.cellAt (j * 5 + i) (by omega), stsCs_at ss j i hj hi]
      exact ⟨hc 0 (by omega), hc 1 (by omega), hc 2 (by omega), hc 3 (by omega), hc 4 (by omega)⟩
/-- A row of the call's own whose cells are rows of steps reads as these. -/
theorem sss_of_own {w : World} {base B : Nat} {T : TypeId} {v : Value} {vs : List Value} {ts : List (List St)} (h : w.ownsRow base T 1 v ts.length vs) (hB : w.heap.size ≤ B)
    (hl : ∀ j (hj : j < ts.length), ∃ u, vs[j]? = some u ∧ Sts B w u ts[j]) : Sss B w v ts := by
  rcases id h.2 with ⟨rfl, h0⟩ | ⟨g, cap, cur, rfl, hbg, hg, hnc, hcm, hcs, htake⟩
  · exact ⟨none, 0, by rw [h0], by omega, by decide, fun k => absurd k (by omega)⟩
  · refine ⟨_, cap, rfl, hnc, hcm, fun _ => ⟨g, 0, rfl, ?_, fun j hj => ?_⟩⟩
    · have := (Array.getElem?_eq_some_iff.1 hg).1; omega
    · obtain ⟨u, h1, h2⟩ := hl j hj
      exact ⟨u, by rw [Nat.zero_add, h.cellAt j (by omega)]; exact h1, h2⟩
def intCs (ns : List Int) : List Value := ns.map (.int .i64)
theorem intCs_len (ns : List Int) : (intCs ns).length = ns.length := by simp [intCs]
theorem ints_of_own {w : World} {base B : Nat} {T : TypeId} {v : Value} {ns : List Int} (h : w.ownsRow base T 1 v ns.length (intCs ns)) (hB : w.heap.size ≤ B) : Ints B w v ns := by
  rcases id h.2 with ⟨rfl, h0⟩ | ⟨g, cap, cur, rfl, hbg, hg, hnc, hcm, hcs, htake⟩
  · exact ⟨none, 0, by rw [h0], by omega, by decide, fun k => absurd k (by omega)⟩
  · refine ⟨_, cap, rfl, hnc, hcm, fun _ => ⟨g, 0, rfl, ?_, fun j hj => ?_⟩⟩
    · have := (Array.getElem?_eq_some_iff.1 hg).1; omega
    · show w.cell? ⟨g, 0 + j, none⟩ = _
      rw [Nat.zero_add, h.cellAt j (by omega)]
      simp [intCs, hj]
/-! The table of what kinds of steps have. -/
end Go.Proofs.YtlpjgaeelnlipaaGreat
namespace Go.Proofs.YtlpjgaeelnlipaaGreat
open Go Go.ChangeShapes Go.WideShapes Go.RowKit Go.Deep
set_option maxRecDepth 100000
open WordM (L)
open CodM (St Pg)

def StIn (s : St) : Prop := NumM.inR s.op ∧ NumM.inR s.reg ∧ NumM.inR s.loc ∧ NumM.inR s.n ∧ NumM.inR s.to
/-- What is in range in a code. -/
structure PgIn (P : Pg) : Prop where
  init : ∀ n ∈ P.init, NumM.inR n
  ths : ∀ ss ∈ P.ths, ∀ s ∈ ss, StIn s
/-- Each row of steps that is nil has no room. -/
def PgN (w : World) (v : Value) : Prop := ∀ vi b f n c, v = .agg #[vi, .slice (some ⟨b, f, none⟩) n c] → ∀ j, j < n → NilAt w b (f + j)
section
variable {H : Type} {enc : TypeId × Value → H} {w : World} {base : Nat} {spare : Nat → Bool} {held : Bool}
theorem elem_step (b off : Nat) (cs : List Value) (y : DataW H × List MemPlace) (k : Nat) (hl : cs.length = 5) (hc : ∀ i, i < 5 → w.cell? ⟨b, off + i, none⟩ = cs[i]?) (h : DataW.trod enc Tryz.prog w base spare held k 75 cs = some y) : ∃ a : St, StAt w b off a ∧ StIn a := by
  have hf := open_cells Tryz.underlying75 (by kernel_rfl) h hl
  match cs, hl with
  | [c0, c1, c2, c3, c4], _ =>
    obtain ⟨x0, y0, n0, e0, t0⟩ := hf 0 _ rfl
    obtain ⟨x1, y1, n1, e1, t1⟩ := hf 1 _ rfl
    obtain ⟨x2, y2, n2, e2, t2⟩ := hf 2 _ rfl
    obtain ⟨x3, y3, n3, e3, t3⟩ := hf 3 _ rfl
    obtain ⟨x4, y4, n4, e4, t4⟩ := hf 4 _ rfl
    obtain ⟨op, rfl, w0⟩ := int_cell Tryz.underlying3 t0
    obtain ⟨r, rfl, w1⟩ := int_cell Tryz.underlying3 t1
    obtain ⟨o, rfl, w2⟩ := int_cell Tryz.underlying3 t2
    obtain ⟨m, rfl, w3⟩ := int_cell Tryz.underlying3 t3
    obtain ⟨n, rfl, w4⟩ := int_cell Tryz.underlying3 t4
    obtain rfl := Option.some.inj e0
    obtain rfl := Option.some.inj e1
    obtain rfl := Option.some.inj e2
    obtain rfl := Option.some.inj e3
    obtain rfl := Option.some.inj e4
    exact ⟨⟨op, r, o, m, n⟩, ⟨hc 0 (by decide), hc 1 (by decide), hc 2 (by decide), hc 3 (by decide), hc 4 (by decide)⟩, w0, w1, w2, w3, w4⟩
theorem elem_num (b off : Nat) (cs : List Value) (y : DataW H × List MemPlace) (k : Nat) (hl : cs.length = 1) (hc : ∀ i, i < 1 → w.cell? ⟨b, off + i, none⟩ = cs[i]?) (h : DataW.trod enc Tryz.prog w base spare held k 3 cs = some y) : ∃ a : Int, IntAt w b off a ∧ NumM.inR a := by
  match cs, hl with
  | [c0], _ =>
    obtain ⟨n, rfl, wn⟩ := int_cell Tryz.underlying3 h
    exact ⟨n, hc 0 (by decide), wn⟩
theorem open_steps {fuel : Nat} {v : Value} {x : DataW H × List MemPlace} (h : DataW.trod enc Tryz.prog w base spare held fuel 73 [v] = some x) : ∃ ss, Sts w.heap.size w v ss ∧ (∀ s ∈ ss, StIn s) ∧ NilZ v := by
  obtain ⟨xs, A, c, e, h1, h2, h3, h4⟩ := open_row (n := 5) (fun b off a => StAt w b off a ∧ StIn a) Tryz.underlying73 (by kernel_rfl) (by decide) elem_step h
  refine ⟨xs, ⟨A, c, e, h1, h2, fun k => ?_⟩, fun s hs => ?_, fun n c' e' => by rw [e] at e'; injection e' with e1 _ e3; rw [← e3]; exact h4 e1⟩
  · obtain ⟨b, f, e1, e2, e3⟩ := h3 k
    exact ⟨b, f, e1, e2, fun j hj => (e3 j hj).1⟩
  · obtain ⟨j, hj, rfl⟩ := List.mem_iff_getElem.1 hs
    obtain ⟨b, f, e1, e2, e3⟩ := h3 (by omega)
    exact (e3 j hj).2
theorem open_nums {fuel : Nat} {v : Value} {x : DataW H × List MemPlace} (h : DataW.trod enc Tryz.prog w base spare held fuel 22 [v] = some x) : ∃ ns, Ints w.heap.size w v ns ∧ (∀ n ∈ ns, NumM.inR n) ∧ NilZ v := by
  obtain ⟨xs, A, c, e, h1, h2, h3, h4⟩ := open_row (n := 1) (fun b off a => IntAt w b off a ∧ NumM.inR a) Tryz.underlying22 (by kernel_rfl) (by decide) elem_num h
  refine ⟨xs, ⟨A, c, e, h1, h2, fun k => ?_⟩, fun s hs => ?_, fun n c' e' => by rw [e] at e'; injection e' with e1 _ e3; rw [← e3]; exact h4 e1⟩
  · obtain ⟨b, f, e1, e2, e3⟩ := h3 k
    exact ⟨b, f, e1, e2, fun j hj => by have := (e3 j hj).1; rwa [Nat.mul_one] at this⟩
  · obtain ⟨j, hj, rfl⟩ := List.mem_iff_getElem.1 hs
    obtain ⟨b, f, e1, e2, e3⟩ := h3 (by omega)
    exact (e3 j hj).2
theorem elem_ss (b off : Nat) (cs : List Value) (y : DataW H × List MemPlace) (k : Nat) (hl : cs.length = 1) (hc : ∀ i, i < 1 → w.cell? ⟨b, off + i, none⟩ = cs[i]?) (h : DataW.trod enc Tryz.prog w base spare held k 73 cs = some y) : ∃ ss, SsAt w.heap.size w b off ss ∧ (∀ s ∈ ss, StIn s) ∧ NilAt w b off := by
  match cs, hl with
  | [c0], _ =>
    obtain ⟨ss, hL, hI, hN⟩ := open_steps h
    have hc0 : w.cell? ⟨b, off, none⟩ = some c0 := hc 0 (by decide)
    exact ⟨ss, ⟨c0, hc0, hL⟩, hI, fun u hu => by rw [hc0] at hu; injection hu with hu; subst hu; exact hN⟩
theorem open_prog {r : Reach} {b0 : Nat} {v : Value} {d : DataW H} {p : List MemPlace} (hv : Value.okWide Tryz.prog w r b0 25 v) (h : DataW.Trod enc Tryz.prog w base spare held 25 v d p) :
    ∃ P : Pg, PgV w.heap.size w v P ∧ PgIn P ∧ PgN w v := by
  obtain ⟨cs, rfl, hsz, hf⟩ := open_fields Tryz.underlying25 (by kernel_rfl) (by kernel_rfl) hv h
  obtain ⟨x0, y0, n0, e0, t0⟩ := hf 0 _ rfl
  obtain ⟨x1, y1, n1, e1, t1⟩ := hf 1 _ rfl
  obtain ⟨ns, hN, hNI, _⟩ := open_nums t0
  obtain ⟨ts, A, c, e, h1, h2, h3, h4⟩ := open_row (n := 1) (fun b off a => SsAt w.heap.size w b off a ∧ (∀ s ∈ a, StIn s) ∧ NilAt w b off) Tryz.underlying23 (by kernel_rfl) (by decide) elem_ss t1
  have hcs : cs = #[x0, x1] := by
    have hs2 : cs.size = 2 := hsz.trans rfl
    apply Array.ext
    · rw [hs2]; rfl
    · intro i hi hi2
      have : i < 2 := by rw [hs2] at hi; exact hi
      match i, this with
      | 0, _ => exact Option.some.inj ((Array.getElem?_eq_getElem hi).symm.trans e0)
      | 1, _ => exact Option.some.inj ((Array.getElem?_eq_getElem hi).symm.trans e1)
  subst hcs
  subst e
  refine ⟨⟨ns, ts⟩, ⟨_, _, rfl, hN, A, c, rfl, h1, h2, fun k => ?_⟩, ⟨hNI, fun ss hs => ?_⟩, fun vi b f n c' e' j hj => ?_⟩
  · obtain ⟨b, f, q1, q2, q3⟩ := h3 k
    exact ⟨b, f, q1, q2, fun j hj => by have := (q3 j hj).1; rwa [Nat.mul_one] at this⟩
  · obtain ⟨j, hj, rfl⟩ := List.mem_iff_getElem.1 hs
    have hj' : j < ts.length := hj
    obtain ⟨b, f, q1, q2, q3⟩ := h3 (by omega)
    exact (q3 j hj').2.1
  · injection e' with e'
    have e2 : (.slice A ts.length c : Value) = .slice (some ⟨b, f, none⟩) n c' := by
      have := congrArg (fun (a : Array Value) => a[1]?) e'
      simpa using this
    injection e2 with e5 e6 _
    subst e6
    obtain ⟨b', f', q1, q2, q3⟩ := h3 (by omega)
    rw [e5] at q1
    injection q1 with q1
    injection q1 with q1 q4
    subst q1; subst q4
    have := (q3 j hj).2.2
    rwa [Nat.mul_one] at this
end
end Go.Proofs.YtlpjgaeelnlipaaGreat
namespace Go.Proofs.YtlpjgaeelnlipaaGreat
open Go Go.ChangeShapes Go.WideShapes Go.RowKit Go.Deep
set_option maxRecDepth 100000
theorem open_ints {H : Type} {enc : TypeId × Value → H} {w : World} {base : Nat} {spare : Nat → Bool} {held : Bool} {r : Reach} {b0 : Nat} {v : Value} {d : DataW H} {p : List MemPlace}
    (hv : Value.okWide Tryz.prog w r b0 22 v) (h : DataW.Trod enc Tryz.prog w base spare held 22 v d p) :
    ∃ ns : List Int, Ints w.heap.size w v ns ∧ (∀ n ∈ ns, NumM.inR n) ∧ NilZ v := by
  obtain ⟨a, len, cap, rfl⟩ := okWide_slice Tryz.underlying22 hv
  obtain ⟨fuel, hf⟩ := h
  exact open_nums (by simpa [Value.cells] using hf)
end Go.Proofs.YtlpjgaeelnlipaaGreat
namespace Go.Proofs.YtlpjgaeelnlipaaGreat
open Go Go.ChangeShapes Go.WideShapes Go.RowKit Go.Deep
set_option maxRecDepth 100000
theorem open_progz {H : Type} {enc : TypeId × Value → H} {w : World} {base : Nat} {spare : Nat → Bool} {held : Bool} {r : Reach} {b0 : Nat} {v : Value} {d : DataW H} {p : List MemPlace}
    (hv : Value.okWide Tryz.prog w r b0 25 v) (h : DataW.Trod enc Tryz.prog w base spare held 25 v d p) :
    ∀ vi vt, v = .agg #[vi, vt] → NilZ vi := by
  obtain ⟨cs, rfl, hsz, hf⟩ := open_fields Tryz.underlying25 (by kernel_rfl) (by kernel_rfl) hv h
  obtain ⟨x0, y0, n0, e0, t0⟩ := hf 0 _ rfl
  obtain ⟨ns, _, _, hz⟩ := open_nums t0
  intro vi vt e
  injection e with e
  subst e
  have : x0 = vi := by simpa using e0.symm
  rw [← this]; exact hz
end Go.Proofs.YtlpjgaeelnlipaaGreat
namespace Go.Proofs.YtlpjgaeelnlipaaGreat
theorem wtk {P : Program} {ops : Array Oper} {Q : Exit → Act → World → Prop} {md : Region.Mode} {S : World → Prop} (i : Nat) {oi : Oper} (v : Value) {fuel : Nat} {listed : Array Bool} {a : Act} {w : World} (hy : ∀ u, S u → (execOp a.eval oi).run P u = .ok (.value v) u) (h : wpAnyH P md ops Q S fuel (listed.setIfInBounds i true) (a.put oi.dst v) w)
    (hi : ops[i]? = some oi := by rfl) (hs : Region.noSelect ops = true := by kernel_rfl) (hf : Region.free md ops listed i = true := by kernel_rfl) (hr : (Region.ready md ops listed).contains i = true := by kernel_rfl)
    (hQ : ∀ c b u, Q (.panic c) (b.put oi.dst v) u → Q (.panic c) b u := by exact fun _ _ _ h => h) (hw : Region.wanted oi (yielded ops a.tmps) = true := by rfl) (hS : S w := by assumption)
    : wpAnyH P md ops Q S (fuel + 1) listed a w :=
  wpAnyH_take hi hs hf hr hQ (.inl ⟨hw, hy⟩) hS h
end Go.Proofs.YtlpjgaeelnlipaaGreat
namespace Go.Proofs.YtlpjgaeelnlipaaGreat
open Go.RowKit
theorem step_append_src {P : Program} {w : World} {ops : Array Oper} {o : Oper} {a : Act} {K : Act → World → Prop} {Q : Exit → Act → World → Prop} {E : Prop} (hgd : o.guard = none) (s x : Operand) (t : TypeId)
    (ho : o.op = .call { callee := .builtin .append, args := #[s, x], argTypes := #[t, t] })
    (base : Nat) (e : TypeId) (i : TypeInfo) (z : Value) (size bytes : Nat) (ht : P.underlying t = some (.slice e)) (hi : P.info? e = some i) (hz : i.zero = some z)
    (hsize : i.size = size) (hby : i.bytes = bytes) (hzs : z.cells.size = size) (hsz : 0 < size)
    (v : Value) (n : Nat) (xs : List Value) (hs : a.eval s = v) (hown : w.ownsRow base e size v n xs)
    (A : Option Addr) (m c : Nat) (news : List Value) (hx : a.eval x = .slice A m c) (hl : news.length = m * size) (hnil : A = none → m = 0 ∧ c = 0) (hnews : ∀ ad, A = some ad → ∀ j u, news[j]? = some u → w.cell? (ad.add j) = some u) (h1 : ∀ u ∈ news, u.oneCell' = true)
    (h63 : n + m ≤ maxLen) (hbytes : (n + m) * bytes ≤ 140737488355328) (hbase : base ≤ w.heap.size)
    (h : ∀ v' w', w'.ownsRow base e size v' (n + m) (xs ++ news) → w.grownBy w' v.ownBlock → K (a.put o.dst v') w') :
    if Region.wanted o (yielded ops a.tmps) = true then Oper.wp P o a w K Q else E := by
  have hw : Region.wanted o (yielded ops a.tmps) = true := by simp [Region.wanted, hgd]
  rw [if_pos hw]
  cases A with
  | some ad => exact wp_append_own w s x t ho base e i z size bytes ht hi hz hsize hby hzs hsz v n xs hs hown ad m c news hx hl (hnews ad rfl) h1 h63 hbytes hbase (fun v' w' a b _ => h v' w' a b)
  | none =>
    obtain ⟨rfl, rfl⟩ := hnil rfl
    have : news = [] := List.eq_nil_of_length_eq_zero (by rw [hl]; simp)
    subst this
    have hr := run_append_owned_none (P := P) (w := w) base t o.type e i size ht hi v n xs hown
    unfold Oper.wp execOp
    simp only [ho, resolve, invoke, builtin, Sem.run_bind, Sem.run_pure, Result.andThen_ok, List.map_toArray, List.map_cons, List.map_nil, hs, hx, hr]
    exact h v w (by simpa using hown) ⟨rfl, rfl, rfl, Nat.le_refl _, fun _ _ _ => rfl⟩
theorem own_slice {w : World} {base : Nat} {e : TypeId} {size n : Nat} {v : Value} {xs : List Value} (h : w.ownsRow base e size v n xs) : ∃ A c, v = .slice A n c := by
  rcases h.2 with ⟨rfl, rfl⟩ | ⟨g, cap, cur, rfl, _⟩
  · exact ⟨_, _, rfl⟩
  · exact ⟨_, _, rfl⟩
end Go.Proofs.YtlpjgaeelnlipaaGreat
namespace Go.Proofs.YtlpjgaeelnlipaaGreat
open Go Go.ChangeShapes Go.WideShapes Go.RowKit Go.Deep

section
variable {A : Type} {one : A → List Value} {s : Nat}
theorem fl_len (h : ∀ a, (one a).length = s) : ∀ l : List A, (l.flatMap one).length = l.length * s
  | [] => by simp
  | a :: r => by rw [List.flatMap_cons, List.length_append, h a, fl_len h r, List.length_cons, Nat.succ_mul, Nat.add_comm]
theorem fl_at (h : ∀ a, (one a).length = s) : ∀ (l : List A) (j i : Nat) (hj : j < l.length), i < s → (l.flatMap one)[j * s + i]? = (one l[j])[i]?
  | [], j, i, hj, _ => absurd hj (Nat.not_lt_zero j)
  | a :: r, 0, i, hj, hi => by rw [List.flatMap_cons, Nat.zero_mul, Nat.zero_add, List.getElem?_append_left (by rw [h a]; exact hi)]; rfl
  | a :: r, j + 1, i, hj, hi => by
    rw [List.flatMap_cons, List.getElem?_append_right (by rw [h a, Nat.succ_mul]; omega), h a, show (j + 1) * s + i - s = j * s + i by rw [Nat.succ_mul]; omega, fl_at h r j i (by simpa using hj) hi]; rfl
end
/-- The value v is a slice in a block below B that reads as the row xs; nil has no room. -/
def Rw {A : Type} (one : A → List Value) (s B : Nat) (w : World) (v : Value) (xs : List A) : Prop :=
  ∃ A c, v = .slice A xs.length c ∧ xs.length ≤ c ∧ c ≤ maxLen ∧ (A = none → xs.length = 0 ∧ c = 0) ∧
    (0 < xs.length → ∃ b f, A = some ⟨b, f, none⟩ ∧ b < B ∧ ∀ j u, (xs.flatMap one)[j]? = some u → w.cell? ⟨b, f + j, none⟩ = some u)
section
variable {A : Type} {one : A → List Value} {s : Nat}
theorem Rw.below {B : Nat} {w w' : World} {v : Value} {xs : List A} (h : Rw one s B w v xs) (hb : Below B w w') : Rw one s B w' v xs := by
  obtain ⟨A, c, e, h1, h2, h0, h3⟩ := h
  refine ⟨A, c, e, h1, h2, h0, fun k => ?_⟩
  obtain ⟨b, f, e2, h4, h5⟩ := h3 k
  exact ⟨b, f, e2, h4, fun j u hu => (hb.cell (p := ⟨b, f + j, none⟩) h4).trans (h5 j u hu)⟩
theorem Rw.more {B B' : Nat} {w : World} {v : Value} {xs : List A} (h : Rw one s B w v xs) (hb : B ≤ B') : Rw one s B' w v xs := by
  obtain ⟨A, c, e, h1, h2, h0, h3⟩ := h
  refine ⟨A, c, e, h1, h2, h0, fun k => ?_⟩
  obtain ⟨b, f, e2, h4, h5⟩ := h3 k
  exact ⟨b, f, e2, by omega, h5⟩
theorem Rw.own {w : World} {base B : Nat} {T : TypeId} {v : Value} {l : List A} (ho : w.ownsRow base T s v l.length (l.flatMap one)) (hB : w.heap.size ≤ B) : Rw one s B w v l := by
  rcases id ho.2 with ⟨rfl, h0⟩ | ⟨g, cap, cur, rfl, hbg, hg, hnc, hcm, hcs, htake⟩
  · exact ⟨none, 0, by rw [h0], by omega, by decide, fun _ => ⟨h0, rfl⟩, fun k => absurd k (by omega)⟩
  · refine ⟨_, cap, rfl, hnc, hcm, fun e => (by cases e), fun _ => ⟨g, 0, rfl, by have := (Array.getElem?_eq_some_iff.1 hg).1; omega, fun j u hu => ?_⟩⟩
    have hj : j < l.length * s := by have := (List.getElem?_eq_some_iff.1 hu).1; rw [ho.1] at this; exact this
    rw [Nat.zero_add, ho.cellAt j hj, hu]
theorem Rw.nilz {B : Nat} {w : World} {v : Value} {xs : List A} (h : Rw one s B w v xs) : NilZ v := by
  obtain ⟨A, c, e, h1, h2, h0, h3⟩ := h
  intro n c' e2
  rw [e] at e2; injection e2 with e3 _ e4
  rw [← e4]; exact (h0 e3).2
theorem Rw.nil (B : Nat) (w : World) : Rw one s B w (.slice none 0 0) [] := ⟨none, 0, rfl, Nat.le_refl _, by decide, fun _ => ⟨rfl, rfl⟩, fun k => absurd k (by simp)⟩
end
theorem wpList_append_rw {P : Program} (w : World) {ops : Array Oper} {rest : List Oper} {o : Oper} {a : Act} {Q : Exit → Act → World → Prop} (hgd : o.guard = none) (s x : Operand) (t : TypeId)
    (ho : o.op = .call { callee := .builtin .append, args := #[s, x], argTypes := #[t, t] })
    (base : Nat) (e : TypeId) (i : TypeInfo) (z : Value) (size bytes : Nat) (ht : P.underlying t = some (.slice e)) (hi : P.info? e = some i) (hz : i.zero = some z)
    (hsize : i.size = size) (hby : i.bytes = bytes) (hzs : z.cells.size = size) (hsz : 0 < size)
    (v : Value) (n : Nat) (xs : List Value) (hs : a.eval s = v) (hown : w.ownsRow base e size v n xs)
    (A : Option Addr) (m c : Nat) (news : List Value) (hx : a.eval x = .slice A m c) (hl : news.length = m * size) (hnil : A = none → m = 0 ∧ c = 0) (hnews : ∀ ad, A = some ad → ∀ j u, news[j]? = some u → w.cell? (ad.add j) = some u) (h1 : ∀ u ∈ news, u.oneCell' = true)
    (h63 : n + m ≤ maxLen) (hbytes : (n + m) * bytes ≤ 140737488355328) (hbase : base ≤ w.heap.size)
    (h : ∀ v' w', w'.ownsRow base e size v' (n + m) (xs ++ news) → w.grownBy w' v.ownBlock → wpList P ops Q rest (a.put o.dst v') w') :
    wpList P ops Q (o :: rest) a w := by
  cases A with
  | some ad => exact wpList_append_own w hgd s x t ho base e i z size bytes ht hi hz hsize hby hzs hsz v n xs hs hown ad m c news hx hl (hnews ad rfl) h1 h63 hbytes hbase (fun v' w' a b _ => h v' w' a b)
  | none =>
    obtain ⟨rfl, rfl⟩ := hnil rfl
    have : news = [] := List.eq_nil_of_length_eq_zero (by rw [hl]; simp)
    subst this
    have hr := run_append_owned_none (P := P) (w := w) base t o.type e i size ht hi v n xs hown
    refine wpList_plain hgd fun K hK => ?_
    unfold Oper.wp execOp
    simp only [ho, resolve, invoke, builtin, Sem.run_bind, Sem.run_pure, Result.andThen_ok, List.map_toArray, List.map_cons, List.map_nil, hs, hx, hr]
    exact hK _ _ (h v w (by simpa using hown) ⟨rfl, rfl, rfl, Nat.le_refl _, fun _ _ _ => rfl⟩)
/-- copy over elements of any size, into the head of a row that is known whole. -/
theorem run_copy_s (P : Program) (w : World) (dT sT ty elem : TypeId) (g dLen dCap : Nat) (A : Option Addr) (sLen sCap s : Nat) (cur : Array Value) (t : TypeId) (cs : List Value)
    (hu : P.underlying dT = some (.slice elem)) (hs : (P.info? elem).map (·.size) = some s)
    (hg : w.heap[g]? = some (.cells cur t (0, 0))) (hn : cs.length = Nat.min sLen dLen * s)
    (hA : A = none → cs = []) (hsrc : ∀ ad, A = some ad → ∀ j v, cs[j]? = some v → w.cell? (ad.add j) = some v) (hfit : cs.length ≤ cur.size) (h1 : ∀ v ∈ cs, v.oneCell' = true) :
    (Builtin.copy_ #[dT, sT] ty #[.slice (some ⟨g, 0, none⟩) dLen dCap, .slice A sLen sCap]).run P w =
      .ok (goInt (Nat.min sLen dLen)) (w.setRow g (cs ++ cur.toList.drop cs.length).toArray) := by
  have hst := run_storeCells_at P g 0 t cs 0 cur w hg (by simpa using hfit) h1
  cases hq : P.info? elem with
  | none => simp [hq] at hs
  | some i =>
    have hi : i.size = s := by simpa [hq] using hs
    cases A with
    | some a =>
      have hl := run_loadCells_list (P := P) w a cs (hsrc a rfl)
      simp [Builtin.copy_, run_underlying hu, Builtin.lenOf, Builtin.firstCells, sizeOf, typeInfo, hq, hi, ← hn, hl, hst]
    | none =>
      obtain rfl := hA rfl
      have hz : 0 = Nat.min sLen dLen * s := by simpa using hn
      simp at hst
      simp [Builtin.copy_, run_underlying hu, Builtin.lenOf, Builtin.firstCells, sizeOf, typeInfo, hq, hi, ← hz, storeCells]
      exact (setRow_self w g cur t (0, 0) hg).symm
theorem wpList_copy_s {P : Program} {w : World} {ops : Array Oper} {rest : List Oper} {o : Oper} {a : Act} {Q : Exit → Act → World → Prop} (hgd : o.guard = none) (d s : Operand) (dT sT : TypeId)
    (ho : o.op = .call { callee := .builtin .copy, args := #[d, s], argTypes := #[dT, sT] }) (elem : TypeId) (hu : P.underlying dT = some (.slice elem)) (sz : Nat) (hsz : (P.info? elem).map (·.size) = some sz)
    (g dLen dCap : Nat) (A : Option Addr) (sLen sCap : Nat) (hd : a.eval d = .slice (some ⟨g, 0, none⟩) dLen dCap) (hs : a.eval s = .slice A sLen sCap)
    (cur : Array Value) (t : TypeId) (hg : w.heap[g]? = some (.cells cur t (0, 0))) (cs : List Value) (hn : cs.length = Nat.min sLen dLen * sz)
    (hA : A = none → cs = []) (hsrc : ∀ ad, A = some ad → ∀ j v, cs[j]? = some v → w.cell? (ad.add j) = some v) (hfit : cs.length ≤ cur.size) (h1 : ∀ v ∈ cs, v.oneCell' = true)
    (h : wpList P ops Q rest (a.put o.dst (goInt (Nat.min sLen dLen))) (w.setRow g (cs ++ cur.toList.drop cs.length).toArray)) : wpList P ops Q (o :: rest) a w := by
  refine wpList_plain hgd fun K hK => ?_
  have hrun := run_copy_s P w dT sT o.type elem g dLen dCap A sLen sCap sz cur t cs hu hsz hg hn hA hsrc hfit h1
  unfold Oper.wp
  simp [execOp, ho, resolve, invoke, builtin, hd, hs, hrun, Result.andThen]
  exact hK _ _ h
end Go.Proofs.YtlpjgaeelnlipaaGreat
namespace Go.Proofs.YtlpjgaeelnlipaaGreat
namespace BfM
structure Wr where
  loc : Int
  n : Int
deriving DecidableEq
/-- The number of the last write to a location. -/
def last : List Wr → Int → Option Int
  | [], _ => none
  | w :: r, l => match last r l with
    | some n => some n
    | none => if w.loc = l then some w.n else none
theorem last_snoc : ∀ (b : List Wr) (w : Wr) (l : Int), last (b ++ [w]) l = if w.loc = l then some w.n else last b l
  | [], w, l => by simp [last]
  | x :: r, w, l => by
    rw [List.cons_append, last, last_snoc r w l]
    by_cases h : w.loc = l
    · simp [h]
    · simp [h, last]
theorem last_hit {b : List Wr} {l : Int} {k : Nat} (hk : k < b.length) (h : last (b.take (k + 1)) l = last b l) (hl : b[k].loc = l) : last b l = some b[k].n := by
  rw [← h, List.take_succ_eq_append_getElem hk, last_snoc, if_pos hl]
theorem last_miss {b : List Wr} {l : Int} {k : Nat} (hk : k < b.length) (h : last (b.take (k + 1)) l = last b l) (hl : ¬ b[k].loc = l) : last (b.take k) l = last b l := by
  rw [← h, List.take_succ_eq_append_getElem hk, last_snoc, if_neg hl]
/-- Is a location one of so many places? -/
def plc (m : Nat) (l : Int) : Bool := decide (0 ≤ l ∧ l < m)
def view (b : List Wr) (m : List Int) (l : Int) : Option Int :=
  match last b l with
  | some n => some n
  | none => if plc m.length l then m[l.toNat]? else none
/-- What the locations are when one write came there. -/
def arr (m : List Int) (w : Wr) : List Int := m.set w.loc.toNat w.n
def all : List Wr → List Int → List Int
  | [], m => m
  | w :: r, m => if plc m.length w.loc then all r (arr m w) else m
theorem arr_len (m : List Int) (w : Wr) : (arr m w).length = m.length := by simp [arr]
/-- All writes are to places. -/
def ok (m : Nat) (b : List Wr) : Prop := ∀ w ∈ b, plc m w.loc = true
end BfM
end Go.Proofs.YtlpjgaeelnlipaaGreat
namespace Go.Proofs.YtlpjgaeelnlipaaGreat
open Go Go.ChangeShapes Go.WideShapes Go.RowKit Go.Deep
set_option maxRecDepth 100000
open BfM
def wrC (w : Wr) : List Value := [.int .i64 w.loc, .int .i64 w.n]
def nuC (n : Int) : List Value := [.int .i64 n]
theorem wrC_len (w : Wr) : (wrC w).length = 2 := rfl
theorem nuC_len (n : Int) : (nuC n).length = 1 := rfl
abbrev WrR (B : Nat) (w : World) (v : Value) (b : List Wr) : Prop := Rw wrC 2 B w v b
abbrev IntR (B : Nat) (w : World) (v : Value) (m : List Int) : Prop := Rw nuC 1 B w v m
abbrev OwnW (base : Nat) (w : World) (v : Value) (b : List Wr) : Prop := w.ownsRow base 94 2 v b.length (b.flatMap wrC)
abbrev OwnI (base : Nat) (w : World) (v : Value) (m : List Int) : Prop := w.ownsRow base 3 1 v m.length (m.flatMap nuC)
theorem wr_at {B : Nat} {w : World} {A : Option Addr} {c : Nat} {b : List Wr} (h : 0 < b.length → ∃ g f, A = some ⟨g, f, none⟩ ∧ g < B ∧ ∀ j u, (b.flatMap wrC)[j]? = some u → w.cell? ⟨g, f + j, none⟩ = some u) :
    0 < b.length → ∃ g f, A = some ⟨g, f, none⟩ ∧ g < B ∧ ∀ j (hj : j < b.length), w.cell? ⟨g, f + j * 2, none⟩ = some (.int .i64 b[j].loc) ∧ w.cell? ⟨g, f + j * 2 + 1, none⟩ = some (.int .i64 b[j].n) := by
  intro k
  obtain ⟨g, f, e, hg, hc⟩ := h k
  refine ⟨g, f, e, hg, fun j hj => ⟨?_, ?_⟩⟩
  · exact hc (j * 2) _ ((fl_at wrC_len b j 0 hj (by omega)).trans rfl)
  · exact hc (j * 2 + 1) _ ((fl_at wrC_len b j 1 hj (by omega)).trans rfl)
theorem nu_at {B : Nat} {w : World} {A : Option Addr} {c : Nat} {m : List Int} (h : 0 < m.length → ∃ g f, A = some ⟨g, f, none⟩ ∧ g < B ∧ ∀ j u, (m.flatMap nuC)[j]? = some u → w.cell? ⟨g, f + j, none⟩ = some u) :
    0 < m.length → ∃ g f, A = some ⟨g, f, none⟩ ∧ g < B ∧ ∀ j (hj : j < m.length), w.cell? ⟨g, f + j, none⟩ = some (.int .i64 m[j]) := by
  intro k
  obtain ⟨g, f, e, hg, hc⟩ := h k
  refine ⟨g, f, e, hg, fun j hj => ?_⟩
  have := hc (j * 1) _ ((fl_at nuC_len m j 0 hj (by omega)).trans rfl)
  rw [Nat.mul_one] at this; exact this
theorem one_w (b : List Wr) : ∀ u ∈ b.flatMap wrC, u.oneCell' = true := fun u hu => by
  obtain ⟨x, _, hx⟩ := List.mem_flatMap.1 hu
  simp only [wrC, List.mem_cons, List.not_mem_nil, or_false] at hx
  rcases hx with rfl | rfl <;> rfl
theorem one_nu (b : List Int) : ∀ u ∈ b.flatMap nuC, u.oneCell' = true := fun u hu => by
  obtain ⟨x, _, hx⟩ := List.mem_flatMap.1 hu
  simp only [nuC, List.mem_cons, List.not_mem_nil, or_false] at hx
  subst hx; rfl
/-- The cells of a source of append or copy. -/
theorem src_rw {A : Type} {one : A → List Value} {s B c : Nat} {w W : World} {Ad : Option Addr} {xs : List A} (h1 : ∀ a, (one a).length = s) (h0 : Ad = none → xs.length = 0 ∧ c = 0)
    (h : 0 < xs.length → ∃ g f, Ad = some ⟨g, f, none⟩ ∧ g < B ∧ ∀ j u, (xs.flatMap one)[j]? = some u → w.cell? ⟨g, f + j, none⟩ = some u) (hB : Below B w W) :
    ∀ ad, Ad = some ad → ∀ j u, (xs.flatMap one)[j]? = some u → W.cell? (ad.add j) = some u := by
  intro ad e j u hu
  have hp : 0 < xs.length := by
    rcases Nat.eq_zero_or_pos xs.length with k | k
    · rw [List.eq_nil_of_length_eq_zero k] at hu; cases hu
    · exact k
  obtain ⟨g, f, e2, hg, hc⟩ := h hp
  rw [e] at e2; injection e2 with e2; subst e2
  rw [Addr.add_lit]
  exact (hB.cell (p := ⟨g, f + j, none⟩) hg).trans (hc j u hu)
theorem info_nu : (Tryz.prog.info? 3).map (fun i => (i.zero, i.size, i.bytes)) = some (some (.int .i64 0), 1, 8) := by kernel_rfl
theorem info_wr : (Tryz.prog.info? 94).map (fun i => (i.zero, i.size, i.bytes)) = some (some (.agg #[.int .i64 0, .int .i64 0]), 2, 16) := by kernel_rfl
theorem info_parts {P : Program} {t : TypeId} {z : Value} {s b : Nat} (h : (P.info? t).map (fun i => (i.zero, i.size, i.bytes)) = some (some z, s, b)) : ∃ i, P.info? t = some i ∧ i.zero = some z ∧ i.size = s ∧ i.bytes = b := by
  obtain ⟨i, hi, e⟩ := Option.map_eq_some_iff.1 h
  injection e with e1 e2
  injection e2 with e2 e3
  exact ⟨i, hi, e1, e2, e3⟩
/-! What arguments hold. -/
section
variable {H : Type} {enc : TypeId × Value → H} {P : Program} {w : World} {base : Nat} {spare : Nat → Bool} {held : Bool}
/-- A row whose elements are what a test says of their cells. -/
theorem open_rw {α : Type} {one : α → List Value} {n : Nat} {t e : TypeId} {fuel : Nat} {v : Value} {x : DataW H × List MemPlace} (Pr : α → Prop) (hone : ∀ a, (one a).length = n) (ht : P.underlying t = some (.slice e)) (hn : P.cellsOf e = n) (hpos : 0 < n)
    (elem : ∀ (cs : List Value) (y : DataW H × List MemPlace) (k : Nat), cs.length = n → DataW.trod enc P w base spare held k e cs = some y → ∃ a : α, one a = cs ∧ Pr a)
    (h : DataW.trod enc P w base spare held fuel t [v] = some x) :
    ∃ xs : List α, Rw one n w.heap.size w v xs ∧ ∀ a ∈ xs, Pr a := by
  rcases DataW.trod_slice ht h with ⟨e0, _⟩ | ⟨a, len, cap, elems, rest, k, _, e0, _, hb, hl, hm, hlen, hel, _, _⟩
  · injection e0 with e0 _
    exact ⟨[], by rw [e0]; exact Rw.nil _ _, fun a ha => by cases ha⟩
  · injection e0 with e0 _
    subst e0
    by_cases hz : len = 0
    · subst hz
      exact ⟨[], ⟨some a, cap, rfl, hl, hm, fun c => (by cases c), fun c => absurd c (by simp)⟩, fun a ha => by cases ha⟩
    have each : ∀ i, i < len → ∃ cs y, w.cells? base (a.add (i * n)) n = some cs ∧ DataW.trod enc P w base spare held k e cs = some y := by
      intro i hi
      have h1 := hel i hi
      rw [hn, List.getElem?_eq_getElem (by omega), Option.bind_eq_some_iff] at h1
      obtain ⟨cs, h2, h3⟩ := h1
      exact ⟨cs, _, h2, h3⟩
    obtain ⟨b, f, sp⟩ := a
    have hsp : sp = none ∧ b < w.heap.size := by
      obtain ⟨cs, y, h2, h3⟩ := each 0 (by omega)
      obtain ⟨_, hcl, hcell⟩ := World.cells?_some h2
      have h4 := hcell 0 (by omega)
      rw [List.getElem?_eq_getElem (by omega)] at h4
      have h5 := cell_spot h4
      simp [Addr.add] at h5
      subst h5
      refine ⟨rfl, ?_⟩
      simp [Addr.add] at h4
      exact lt_of_cell h4
    obtain ⟨rfl, hbl⟩ := hsp
    have each2 : ∀ i, i < len → ∃ a : α, Pr a ∧ ∀ j, j < n → w.cell? ⟨b, f + i * n + j, none⟩ = (one a)[j]? := by
      intro i hi
      obtain ⟨cs, y, h2, h3⟩ := each i hi
      obtain ⟨_, hcl, hcell⟩ := World.cells?_some h2
      obtain ⟨a, ha, hp⟩ := elem cs y k hcl h3
      refine ⟨a, hp, fun j hj => ?_⟩
      have := hcell j hj
      rw [Addr.add_lit, Addr.add_lit] at this
      rw [ha]; exact this
    obtain ⟨xs, hxl, hxs⟩ := list_of each2
    refine ⟨xs, ⟨some ⟨b, f, none⟩, cap, by rw [hxl], by rw [hxl]; exact hl, hm, fun c => (by cases c), fun _ => ⟨b, f, rfl, hbl, fun q u hu => ?_⟩⟩, fun a ha => ?_⟩
    · have hq : q < xs.length * n := by rw [← fl_len hone]; exact (List.getElem?_eq_some_iff.1 hu).1
      have h1 : q / n < xs.length := (Nat.div_lt_iff_lt_mul hpos).2 hq
      have h2 : q % n < n := Nat.mod_lt _ hpos
      have e : q = q / n * n + q % n := by rw [Nat.mul_comm]; exact (Nat.div_add_mod q n).symm
      have e2 := (hxs (q / n) h1).2 (q % n) h2
      rw [← fl_at hone xs (q / n) (q % n) h1 h2, ← e, Nat.add_assoc, ← e, hu] at e2
      exact e2
    · obtain ⟨j, hj, rfl⟩ := List.mem_iff_getElem.1 ha
      exact (hxs j hj).1
end
def WrIn (w : Wr) : Prop := NumM.inR w.loc ∧ NumM.inR w.n
section
variable {H : Type} {enc : TypeId × Value → H} {w : World} {base : Nat} {spare : Nat → Bool} {held : Bool}
end
end Go.Proofs.YtlpjgaeelnlipaaGreat
namespace Go.Proofs.YtlpjgaeelnlipaaGreat
namespace ScM
open CodM (St Pg)
open BfM (Wr plc)

/-- A thread. -/
structure Th where
  at' : Int
  regs : List Int
  eq : Bool
  buf : List Wr
/-- A state. -/
structure Sta where
  mem : List Int
  ths : List Th
/-- May a thread be so, where it has so many steps, and there are so many places? -/
structure OkTh (len places : Nat) (x : Th) : Prop where
  lo : 0 ≤ x.at'
  hi : x.at' ≤ len
  regs : x.regs.length = 4
  buf : ∀ w ∈ x.buf, plc places w.loc = true
/-- May a state be so? -/
structure OkSt (P : Pg) (s : Sta) : Prop where
  mem : s.mem.length = P.init.length
  ths : s.ths.length = P.ths.length
  th : ∀ t (h : t < s.ths.length) (h2 : t < P.ths.length), OkTh P.ths[t].length s.mem.length s.ths[t]
def begTh : Th := ⟨0, [0, 0, 0, 0], false, []⟩
def beg (P : Pg) : Sta := ⟨P.init, P.ths.map fun _ => begTh⟩
theorem beg_ok (P : Pg) : OkSt P (beg P) := by
  refine ⟨rfl, by simp [beg], fun t h h2 => ?_⟩
  have : (beg P).ths[t] = begTh := by simp [beg]
  rw [this]
  exact ⟨by decide, by show (0 : Int) ≤ _; omega, rfl, fun w hw => by cases hw⟩
/-- The step at which a thread is. -/
def atS (P : Pg) (s : Sta) (t : Int) : Option St :=
  if 0 ≤ t then
    match s.ths[t.toNat]?, P.ths[t.toNat]? with
    | some x, some ss => ss[x.at'.toNat]?
    | _, _ => none
  else none
def jumps (x : St) (eq : Bool) : Bool := decide (x.op = 8) || (decide (x.op = 9) && eq) || (decide (x.op = 10) && !eq)
/-- A number of a row; 0, where there is none. -/
def nth (l : List Int) (k : Int) : Int := l.getD k.toNat 0
/-- What a step makes of locations, and of its thread. -/
def stM (x : St) (m : List Int) (r : List Int) : List Int :=
  if x.op = 3 then m.set x.loc.toNat (nth r x.reg) else if x.op = 4 then m.set x.loc.toNat x.n else if x.op = 5 then m.set x.loc.toNat (nth r x.reg) else m
def stR (x : St) (m : List Int) (r : List Int) : List Int :=
  if x.op = 1 then r.set x.reg.toNat x.n else if x.op = 2 then r.set x.reg.toNat (nth m x.loc) else if x.op = 5 then r.set x.reg.toNat (nth m x.loc) else r
def stE (x : St) (r : List Int) (e : Bool) : Bool := if x.op = 7 then decide (nth r x.reg = x.n) else e
def stT (x : St) (m : List Int) (h : Th) : Th := ⟨if jumps x h.eq then x.to else h.at' + 1, stR x m h.regs, stE x h.regs h.eq, h.buf⟩
/-- The state behind a thread's step; as it is, where it can't be taken. -/
def stp (P : Pg) (s : Sta) (t : Int) : Sta :=
  match atS P s t, s.ths[t.toNat]? with
  | some x, some h => ⟨stM x s.mem h.regs, s.ths.set t.toNat (stT x s.mem h)⟩
  | _, _ => s
theorem stM_len (x : St) (m r : List Int) : (stM x m r).length = m.length := by
  unfold stM; split; · simp
  split; · simp
  split <;> simp
theorem stR_len (x : St) (m r : List Int) : (stR x m r).length = r.length := by
  unfold stR; split; · simp
  split; · simp
  split <;> simp
theorem atS_some {P : Pg} {s : Sta} {t : Int} {x : St} (h : atS P s t = some x) : ∃ k : Nat, t = k ∧ ∃ (h1 : k < s.ths.length) (h2 : k < P.ths.length) (h3 : s.ths[k].at'.toNat < P.ths[k].length), x = P.ths[k][s.ths[k].at'.toNat] := by
  unfold atS at h
  split at h
  · rename_i ht
    refine ⟨t.toNat, by omega, ?_⟩
    generalize t.toNat = k at *
    cases e1 : s.ths[k]? with
    | none => rw [e1] at h; cases h
    | some y =>
      cases e2 : P.ths[k]? with
      | none => rw [e1, e2] at h; cases h
      | some ss =>
        rw [e1, e2] at h
        obtain ⟨h1, rfl⟩ := List.getElem?_eq_some_iff.1 e1
        obtain ⟨h2, rfl⟩ := List.getElem?_eq_some_iff.1 e2
        obtain ⟨h3, h4⟩ := List.getElem?_eq_some_iff.1 h
        exact ⟨h1, h2, h3, h4.symm⟩
  · cases h
theorem atS_at {P : Pg} {s : Sta} {k : Nat} (h1 : k < s.ths.length) (h2 : k < P.ths.length) (h3 : s.ths[k].at'.toNat < P.ths[k].length) : atS P s k = some P.ths[k][s.ths[k].at'.toNat] := by
  unfold atS
  rw [if_pos (by omega)]
  simp [h1, h2, h3]
theorem atS_none {P : Pg} {s : Sta} {t : Int} (h : ¬ ∃ k : Nat, t = k ∧ ∃ (h1 : k < s.ths.length) (h2 : k < P.ths.length), s.ths[k].at'.toNat < P.ths[k].length) : atS P s t = none := by
  cases e : atS P s t with
  | none => rfl
  | some x =>
    obtain ⟨k, e1, h1, h2, h3, _⟩ := atS_some e
    exact absurd ⟨k, e1, h1, h2, h3⟩ h
end ScM
end Go.Proofs.YtlpjgaeelnlipaaGreat
