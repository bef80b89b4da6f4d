/-
  ARGUMENTS THAT ARE LINES AND ATOMS, by value: what their cells hold.
  ROWS OF LINES in memory: what it says that a slice reads as lines; the small tests of package valid on one line.
  MAPS THAT COUNT NAMES: what it says that a map of the call's own holds, of each text, a number; valid.labels.
  PLAIN MATHEMATICS OF LAYER 4: what is wrong with a line of a thread.
  PLAIN MATHEMATICS OF LAYER 4: programs, and what is wrong with one first.
  BOXES OF LINES AND ATOMS: a struct's cells in a block, kept behind calls that make memory alone.
  PROGRAMS in memory: what it says that a value is a program, with its rows of cells, threads and atoms.
  ROWS OF LINES OF THE CALL's OWN: the cells of lines, one behind the other, and what they read as.
  valid.frameFault: what is wrong with the name, the cells and how many threads there are.
  A THREAD'S READER, line by line: what it answers of a line that stands behind right ones, and what it holds then.
  valid.lineFault: the first wrong line of the first wrong thread.
  THE LAWS' Great: is a program too much? Where it is not, all is small.
-/
import Derived.Test.YtlpjgaeelnlipaaL00
import Derived.Deep.Fields
import Derived.SliceStrings
import Derived.ChangeSame
import Derived.OpenShut
import Derived.Maps.Own
import Derived.Maps.OwnOps
import Derived.Maps.OwnSet
import Derived.Maps.Views
set_option linter.unusedVariables false
set_option linter.unusedSimpArgs false
namespace Go.Proofs.Ytlpjgaeelnlipaa
open Go Go.ChangeShapes Go.WideShapes Go.RowKit Go.Deep
set_option linter.unusedVariables false
set_option maxRecDepth 100000
set_option linter.unusedSimpArgs false

section
variable {H : Type} {enc : TypeId × Value → H} {P : Program} {w : World} {base : Nat} {spare : Nat → Bool} {held : Bool}
/-- A struct of one-cell fields, however many. -/
theorem open_fields {r : Reach} {b0 : Nat} {t : TypeId} {fs : Array Field} {v : Value} {d : DataW H} {p : List MemPlace} (hs : P.underlying t = some (.struct fs)) (hone : oneCellFields P fs = true) (hC : P.cellsOf t = fs.size)
    (hv : Value.okWide P w r b0 t v) (h : DataW.Trod enc P w base spare held t v d p) :
    ∃ cs : Array Value, v = .agg cs ∧ cs.size = fs.size ∧ ∀ (j : Nat) (f : Field), fs[j]? = some f → ∃ (x : Value) (y : DataW H × List MemPlace) (n : Nat), cs[j]? = some x ∧ DataW.trod enc P w base spare held n f.type [x] = some y := by
  obtain ⟨cs, rfl, hsz⟩ := okWide_struct hs hv
  obtain ⟨fuel, hf⟩ := h
  obtain ⟨xs, n, _, _, _, hlen, hg⟩ := DataW.trod_struct hs hf
  refine ⟨cs, rfl, hsz.trans hC, fun j f hj => ?_⟩
  obtain ⟨ho, hk⟩ := hone_of hone j f hj
  have hjl : j < fs.size := (Array.getElem?_eq_some_iff.1 hj).1
  have hjc : j < cs.size := by rw [hsz, hC]; exact hjl
  have h1 := hg j f hj
  rw [ho, hk] at h1
  have h2 : (((Value.agg cs).cells.toList).drop j).take 1 = [cs[j]] := by
    show (cs.toList.drop j).take 1 = _
    rw [List.drop_eq_getElem_cons (by simpa using hjc)]
    rfl
  have hx : xs[j]? = some (xs[j]'(by omega)) := List.getElem?_eq_getElem (by omega)
  rw [h2] at h1
  exact ⟨cs[j], xs[j]'(by omega), n, Array.getElem?_eq_getElem hjc, h1.trans hx⟩
end

theorem int_cell {H : Type} {enc : TypeId × Value → H} {P : Program} {w : World} {base : Nat} {spare : Nat → Bool} {held : Bool} {t : TypeId} {x : Value} {y : DataW H × List MemPlace} {n : Nat} (ht : P.underlying t = some (.int .i64))
    (h : DataW.trod enc P w base spare held n t [x] = some y) : ∃ k, x = .int .i64 k ∧ NumM.inR k := by
  obtain ⟨k, e, _, hw⟩ := DataW.trod_int ht h
  injection e with e _
  exact ⟨k, e, bounds_i64 hw⟩
theorem cell_spot {w : World} {a : Addr} {v : Value} (h : w.cell? a = some v) : a.spot = none := by
  unfold World.cell? at h
  cases hs : a.spot with
  | none => rfl
  | some q =>
    rw [hs] at h
    split at h <;> simp at h
end Go.Proofs.Ytlpjgaeelnlipaa
namespace Go.Proofs.Ytlpjgaeelnlipaa
open Go.RowKit
set_option linter.unusedVariables false
set_option linter.unusedSimpArgs false
open WordM (L)

/-- Five cells from f on of block b hold the line l. -/
def LnAt (w : World) (b f : Nat) (l : OpsM.Ln) : Prop :=
  w.cell? ⟨b, f, none⟩ = some (.int .i64 l.op) ∧ w.cell? ⟨b, f + 1, none⟩ = some (.string ⟨l.reg.toArray⟩) ∧ w.cell? ⟨b, f + 2, none⟩ = some (.string ⟨l.loc.toArray⟩) ∧
    w.cell? ⟨b, f + 3, none⟩ = some (.string ⟨l.label.toArray⟩) ∧ w.cell? ⟨b, f + 4, none⟩ = some (.int .i64 l.n)
theorem LnAt.below {w w' : World} {B b f : Nat} {l : OpsM.Ln} (h : LnAt w b f l) (hb : Below B w w') (hlt : b < B) : LnAt w' b f l :=
  ⟨(hb.cell (p := ⟨b, f, none⟩) hlt).trans h.1, (hb.cell (p := ⟨b, f + 1, none⟩) hlt).trans h.2.1, (hb.cell (p := ⟨b, f + 2, none⟩) hlt).trans h.2.2.1, (hb.cell (p := ⟨b, f + 3, none⟩) hlt).trans h.2.2.2.1, (hb.cell (p := ⟨b, f + 4, none⟩) hlt).trans h.2.2.2.2⟩
/-- The value v is a slice that reads as the lines ls, in a block below B. -/
def Lns (B : Nat) (w : World) (v : Value) (ls : List OpsM.Ln) : Prop :=
  ∃ A c, v = .slice A ls.length c ∧ ls.length ≤ c ∧ c ≤ maxLen ∧
    (0 < ls.length → ∃ b f, A = some ⟨b, f, none⟩ ∧ b < B ∧ ∀ j (h : j < ls.length), LnAt w b (f + j * 5) ls[j])
theorem Lns.below {B : Nat} {w w' : World} {v : Value} {ls : List OpsM.Ln} (h : Lns B w v ls) (hb : Below B w w') : Lns B w' v ls := by
  obtain ⟨A, c, e, h1, h2, h3⟩ := h
  refine ⟨A, c, e, h1, h2, fun k => ?_⟩
  obtain ⟨b, f, e2, h4, h5⟩ := h3 k
  exact ⟨b, f, e2, h4, fun j hj => (h5 j hj).below hb h4⟩
theorem Lns.more {B B' : Nat} {w : World} {v : Value} {ls : List OpsM.Ln} (h : Lns B w v ls) (hb : B ≤ B') : Lns B' w v ls := by
  obtain ⟨A, c, e, h1, h2, h3⟩ := h
  refine ⟨A, c, e, h1, h2, fun k => ?_⟩
  obtain ⟨b, f, e2, h4, h5⟩ := h3 k
  exact ⟨b, f, e2, by omega, h5⟩

end Go.Proofs.Ytlpjgaeelnlipaa
namespace Go.Proofs.Ytlpjgaeelnlipaa
open Go.RowKit Go.WideMaps Go.Maps
set_option linter.unusedVariables false
set_option linter.unusedSimpArgs false
open WordM (L)

abbrev MD := DataW Unit
/-- Block b is a map of at most n entries, whose number at each text s is f s. -/
def CMap (w : World) (b n : Nat) (f : L → Int) (D : MD) : Prop :=
  w.ownsMap Try.prog 9 (plainElem Try.prog 3) b n D ∧ ∀ s : L, D.atKey (.string s) (.lit (.int .i64 0)) = .lit (.int .i64 (f s))
theorem CMap.made (w : World) : CMap (w.alloc (.map #[] 0)) w.heap.size 0 (fun _ => 0) (.map []) := ⟨World.ownsMap_made _ _ _ _, fun s => rfl⟩
theorem CMap.below {w w' : World} {b n : Nat} {f : L → Int} {D : MD} (h : CMap w b n f D) (hb : Below w.heap.size w w') : CMap w' b n f D := by
  obtain ⟨⟨es, clock, he, h1, h2, h3⟩, h4⟩ := h
  have hlt : b < w.heap.size := (Array.getElem?_eq_some_iff.1 he).1
  exact ⟨⟨es, clock, (hb.block b hlt).trans he, h1, h2, h3⟩, h4⟩
theorem CMap.lt {w : World} {b n : Nat} {f : L → Int} {D : MD} (h : CMap w b n f D) : b < w.heap.size := by
  obtain ⟨⟨es, clock, he, _⟩, _⟩ := h
  exact (Array.getElem?_eq_some_iff.1 he).1
theorem CMap.more {w : World} {b n m : Nat} {f g : L → Int} {D : MD} (h : CMap w b n f D) (hnm : n ≤ m) (hfg : ∀ s, f s = g s) : CMap w b m g D := by
  obtain ⟨⟨es, clock, he, h1, h2, h3⟩, h4⟩ := h
  exact ⟨⟨es, clock, he, h1, Nat.le_trans h2 hnm, h3⟩, fun s => by rw [h4 s, hfg s]⟩
theorem CMap.val {w : World} {b n : Nat} {f : L → Int} {D : MD} (h : CMap w b n f D) {s : L} {c : Int} (hat : D.atKey (.string s) (.lit (.int .i64 0)) = .lit (.int .i64 c)) : c = f s := by
  have := hat.symm.trans (h.2 s)
  injection this with e
  injection e
theorem CMap.put {w w1 : World} {b n m : Nat} {f : L → Int} {D : MD} {s : L} {x : Int} (h : CMap w b n f D) (hown : w1.ownsMap Try.prog 9 (plainElem Try.prog 3) b m (D.put (.string s) (.lit (.int .i64 x)))) :
    CMap w1 b m (fun t => if t = s then x else f t) (D.put (.string s) (.lit (.int .i64 x))) := by
  refine ⟨hown, fun t => ?_⟩
  show (D.put (.string s) (.lit (.int .i64 x))).atKey (.string t) (.lit (.int .i64 0)) = .lit (.int .i64 (if t = s then x else f t))
  by_cases e : t = s
  · subst e
    rw [if_pos rfl]
    exact atKey_put_same (h.1.isMap) (by trivial) _ _
  · rw [if_neg e]
    exact (atKey_put_other (fun h => e (by injection h)) _ _).trans (h.2 t)

/-- How often a label stands in some lines. -/
def lcnt (ls : List OpsM.Ln) (s : L) : Nat := (ls.filter (fun l => decide (l.op = 11) && decide (l.label = s))).length
end Go.Proofs.Ytlpjgaeelnlipaa
namespace Go.Proofs.Ytlpjgaeelnlipaa.VM
open WordM (L)
open OpsM (Ln)
set_option linter.unusedVariables false

def insB (l : Ln) : Bool := !(l.op == 6) && !(l.op == 11)
def labB (l : Ln) : Bool := l.op == 11
def jmpB (l : Ln) : Bool := decide (8 ≤ l.op) && decide (l.op ≤ 10)
def cI (ls : List Ln) : Nat := (ls.filter insB).length
def cM (ls : List Ln) : Nat := (ls.filter labB).length
/-- Is the line right ahead of the k-th a fence? -/
def fenB (ls : List Ln) (k : Nat) : Bool := match k with | 0 => false | k + 1 => match ls[k]? with | some l => l.op == 6 | none => false
/-- What is wrong with the k-th line, x; 0, if nothing is. -/
def lineC (ls : List Ln) (k : Nat) (x : Ln) : Int :=
  if OpsM.rightL x = false then 11 else if x.op = 11 ∧ 0 < lcnt (ls.take k) x.label then 21 else if x.op = 6 ∧ fenB ls k = true then 23
  else if jmpB x = true ∧ lcnt (ls.drop (k + 1)) x.label = 0 then 22 else if (insB x = true ∧ 8 ≤ cI (ls.take k)) ∨ (x.op = 11 ∧ 8 ≤ cM (ls.take k)) then 5 else 0
end Go.Proofs.Ytlpjgaeelnlipaa.VM
namespace Go.Proofs.Ytlpjgaeelnlipaa.VM
open WordM (L)
open OpsM (Ln)
open AtomM (At)
set_option linter.unusedVariables false

structure Fl where
  name : L
  init : List (L × Int)
  ths : List (List Ln)
  cond : List At
  all : Bool

/-- The first place below n where g is not 0. -/
def firstAt (g : Nat → Int) : Nat → Option Nat
  | 0 => none
  | n + 1 => match firstAt g n with | some k => some k | none => if g n = 0 then none else some n
/-- What is wrong with the k-th cell; 0, if nothing is. -/
def cellC (cs : List (L × Int)) (k : Nat) : Int :=
  if WordM.nameB (cs.getD k ([], 0)).1 = false then 22 else if 0 < k ∧ (cs.getD k ([], 0)).1 ≤ (cs.getD (k - 1) ([], 0)).1 then 21 else 0
def cellsC (F : Fl) : Int := match firstAt (cellC F.init) F.init.length with | some k => cellC F.init k | none => if F.ths.length < 1 ∨ 3 < F.ths.length then 5 else 0
def frameC (F : Fl) : Int := if WordM.nameB F.name = false then 22 else cellsC F
def lnz : Ln := ⟨0, [], [], [], 0⟩
/-- What is wrong with the k-th line of a thread. -/
def lnC (ls : List Ln) (k : Nat) : Int := lineC ls k (ls.getD k lnz)
def thC (ls : List Ln) : Option Nat := firstAt (lnC ls) ls.length
def thG (ts : List (List Ln)) (i : Nat) : Int := if (thC (ts.getD i [])).isSome then 1 else 0
/-- The first wrong line of the first wrong thread: which thread, which line, what is wrong. -/
def lineF (ts : List (List Ln)) : Option (Nat × Nat × Int) :=
  match firstAt (thG ts) ts.length with | none => none | some i => match thC (ts.getD i []) with | none => none | some k => some (i, k, lnC (ts.getD i []) k)
/-- The same as three numbers; 0, 0 and 0, if there is none. -/
def lineT (ts : List (List Ln)) : Int × Int × Int := match lineF ts with | none => (0, 0, 0) | some (i, k, c) => ((i : Int), (k : Int), c)
/-- What is wrong with the k-th atom. -/
def atC (n : Nat) (am : List At) (k : Nat) : Int :=
  if 6 ≤ k then 5 else if AtomM.askedA (am.getD k AtomM.zero) = false then 1 else if (n : Int) ≤ (am.getD k AtomM.zero).t then 22 else 0
def atomT (n : Nat) (am : List At) : Int × Int × Int := match firstAt (atC n am) am.length with | none => (0, 0, 0) | some k => ((n : Int), (k : Int), atC n am k)
/-- A name is put among others, that rise. -/
def ins (s : L) : List L → List L
  | [] => [s]
  | x :: r => if s ≤ x then (if s = x then x :: r else s :: x :: r) else x :: ins s r
def put (l : List L) (s : L) : List L := if s = [] then l else ins s l
/-- The names of locations in lines, in threads, in atoms; all, one behind the other. -/
def lnames (ls : List Ln) : List L := (ls.map (·.loc)).filter (fun s => !decide (s = []))
def tnames : List (List Ln) → List L
  | [] => []
  | ls :: r => lnames ls ++ tnames r
def anames (am : List At) : List L := (am.filter (fun a => a.t == -1)).map (·.nm)
def names (F : Fl) : List L := F.init.map (·.1) ++ (tnames F.ths ++ anames F.cond)
def locs (F : Fl) : List L := (names F).foldl put []
def locC (F : Fl) : Int := if 4 < (locs F).length then 5 else 0
def chk (F : Fl) : Int × Int × Int :=
  if frameC F ≠ 0 then (-1, -1, frameC F) else if (lineT F.ths).2.2 ≠ 0 then lineT F.ths else if (atomT F.ths.length F.cond).2.2 ≠ 0 then atomT F.ths.length F.cond
  else if locC F ≠ 0 then (-1, -1, locC F) else (0, 0, 0)
def right (F : Fl) : Bool := (chk F).2.2 == 0
end Go.Proofs.Ytlpjgaeelnlipaa.VM
namespace Go.Proofs.Ytlpjgaeelnlipaa
open Go.RowKit
set_option linter.unusedVariables false
set_option linter.unusedSimpArgs false
open WordM (L)

theorem kc {W w' : World} {g i : Nat} {v : Value} (hB : Below W.heap.size W w') (h : W.cell? ⟨g, i, none⟩ = some v) : w'.cell? ⟨g, i, none⟩ = some v := (hB.cell (p := ⟨g, i, none⟩) (lt_of_cell h)).trans h
def LnBox (w : World) (g : Nat) (op : Int) (r o b : ByteArray) (n : Int) : Prop :=
  w.cell? ⟨g, 0, none⟩ = some (.int .i64 op) ∧ w.cell? ⟨g, 1, none⟩ = some (.string r) ∧ w.cell? ⟨g, 2, none⟩ = some (.string o) ∧ w.cell? ⟨g, 3, none⟩ = some (.string b) ∧ w.cell? ⟨g, 4, none⟩ = some (.int .i64 n)
def AtBox (w : World) (g : Nat) (t : Int) (nm : ByteArray) (n : Int) : Prop :=
  w.cell? ⟨g, 0, none⟩ = some (.int .i64 t) ∧ w.cell? ⟨g, 1, none⟩ = some (.string nm) ∧ w.cell? ⟨g, 2, none⟩ = some (.int .i64 n)
theorem LnBox.below {w w' : World} {g : Nat} {op n : Int} {r o b : ByteArray} (h : LnBox w g op r o b n) (hB : Below w.heap.size w w') : LnBox w' g op r o b n := by
  obtain ⟨h0, h1, h2, h3, h4⟩ := h
  exact ⟨kc hB h0, kc hB h1, kc hB h2, kc hB h3, kc hB h4⟩
theorem AtBox.below {w w' : World} {g : Nat} {t n : Int} {nm : ByteArray} (h : AtBox w g t nm n) (hB : Below w.heap.size w w') : AtBox w' g t nm n := by
  obtain ⟨h0, h1, h2⟩ := h
  exact ⟨kc hB h0, kc hB h1, kc hB h2⟩
theorem LnBox.alloc {w : World} {g : Nat} {op n : Int} {r o b : ByteArray} (h : LnBox w g op r o b n) (x : Obj) : LnBox (w.alloc x) g op r o b n := h.below ((Below.refl _ _).alloc (Nat.le_refl _) _)
theorem AtBox.alloc {w : World} {g : Nat} {t n : Int} {nm : ByteArray} (h : AtBox w g t nm n) (x : Obj) : AtBox (w.alloc x) g t nm n := h.below ((Below.refl _ _).alloc (Nat.le_refl _) _)
theorem LnBox.new (w : World) (op n : Int) (r o b : ByteArray) (T : TypeId) : LnBox (w.alloc (.cells #[.int .i64 op, .string r, .string o, .string b, .int .i64 n] T)) w.heap.size op r o b n := by
  refine ⟨?_, ?_, ?_, ?_, ?_⟩ <;> (rw [World.cell?_alloc_at _ _ _ _ rfl]; rfl)
theorem AtBox.new (w : World) (t n : Int) (nm : ByteArray) (T : TypeId) : AtBox (w.alloc (.cells #[.int .i64 t, .string nm, .int .i64 n] T)) w.heap.size t nm n := by
  refine ⟨?_, ?_, ?_⟩ <;> (rw [World.cell?_alloc_at _ _ _ _ rfl]; rfl)

theorem below_al {w a : World} (h : Below w.heap.size w a) (o : Obj) : Below w.heap.size w (a.alloc o) := h.alloc h.size o
theorem LnBox.at {w : World} {g : Nat} (hg : g = w.heap.size) (op n : Int) (r o b : ByteArray) (T : TypeId) : LnBox (w.alloc (.cells #[.int .i64 op, .string r, .string o, .string b, .int .i64 n] T)) g op r o b n := by
  subst hg; exact LnBox.new w op n r o b T
theorem AtBox.at {w : World} {g : Nat} (hg : g = w.heap.size) (t n : Int) (nm : ByteArray) (T : TypeId) : AtBox (w.alloc (.cells #[.int .i64 t, .string nm, .int .i64 n] T)) g t nm n := by
  subst hg; exact AtBox.new w t n nm T
end Go.Proofs.Ytlpjgaeelnlipaa
namespace Go.Proofs.Ytlpjgaeelnlipaa
open Go.RowKit
set_option linter.unusedVariables false
set_option linter.unusedSimpArgs false
open WordM (L)
open VM (Fl)

/-- Two cells from f on of block b hold a location's cell. -/
def ClAt (w : World) (b f : Nat) (c : L × Int) : Prop :=
  w.cell? ⟨b, f, none⟩ = some (.string ⟨c.1.toArray⟩) ∧ w.cell? ⟨b, f + 1, none⟩ = some (.int .i64 c.2)
/-- Three cells from f on hold an atom. -/
def AmAt (w : World) (b f : Nat) (a : AtomM.At) : Prop :=
  w.cell? ⟨b, f, none⟩ = some (.int .i64 a.t) ∧ w.cell? ⟨b, f + 1, none⟩ = some (.string ⟨a.nm.toArray⟩) ∧ w.cell? ⟨b, f + 2, none⟩ = some (.int .i64 a.n)
/-- One cell holds a thread. -/
def ThAt (B : Nat) (w : World) (b f : Nat) (ls : List OpsM.Ln) : Prop := ∃ v, w.cell? ⟨b, f, none⟩ = some v ∧ Lns B w v ls
theorem ClAt.below {w w' : World} {B b f : Nat} {c : L × Int} (h : ClAt w b f c) (hb : Below B w w') (hlt : b < B) : ClAt w' b f c :=
  ⟨(hb.cell (p := ⟨b, f, none⟩) hlt).trans h.1, (hb.cell (p := ⟨b, f + 1, none⟩) hlt).trans h.2⟩
theorem AmAt.below {w w' : World} {B b f : Nat} {a : AtomM.At} (h : AmAt w b f a) (hb : Below B w w') (hlt : b < B) : AmAt w' b f a :=
  ⟨(hb.cell (p := ⟨b, f, none⟩) hlt).trans h.1, (hb.cell (p := ⟨b, f + 1, none⟩) hlt).trans h.2.1, (hb.cell (p := ⟨b, f + 2, none⟩) hlt).trans h.2.2⟩
theorem ThAt.below {w w' : World} {B b f : Nat} {ls : List OpsM.Ln} (h : ThAt B w b f ls) (hb : Below B w w') (hlt : b < B) : ThAt B w' b f ls := by
  obtain ⟨v, h1, h2⟩ := h
  exact ⟨v, (hb.cell (p := ⟨b, f, none⟩) hlt).trans h1, h2.below hb⟩
theorem ThAt.more {w : World} {B B' b f : Nat} {ls : List OpsM.Ln} (h : ThAt B w b f ls) (hb : B ≤ B') : ThAt B' w b f ls := by
  obtain ⟨v, h1, h2⟩ := h
  exact ⟨v, h1, h2.more hb⟩

def Cls (B : Nat) (w : World) (v : Value) (cs : List (L × Int)) : Prop :=
  ∃ A c, v = .slice A cs.length c ∧ cs.length ≤ c ∧ c ≤ maxLen ∧
    (0 < cs.length → ∃ b f, A = some ⟨b, f, none⟩ ∧ b < B ∧ ∀ j (h : j < cs.length), ClAt w b (f + j * 2) cs[j])
def Ths (B : Nat) (w : World) (v : Value) (ts : List (List OpsM.Ln)) : Prop :=
  ∃ A c, v = .slice A ts.length c ∧ ts.length ≤ c ∧ c ≤ maxLen ∧
    (0 < ts.length → ∃ b f, A = some ⟨b, f, none⟩ ∧ b < B ∧ ∀ j (h : j < ts.length), ThAt B w b (f + j) ts[j])
def Ams (B : Nat) (w : World) (v : Value) (am : List AtomM.At) : Prop :=
  ∃ A c, v = .slice A am.length c ∧ am.length ≤ c ∧ c ≤ maxLen ∧
    (0 < am.length → ∃ b f, A = some ⟨b, f, none⟩ ∧ b < B ∧ ∀ j (h : j < am.length), AmAt w b (f + j * 3) am[j])
section
variable {B B' : Nat} {w w' : World} {v : Value}
theorem Cls.below {cs : List (L × Int)} (h : Cls B w v cs) (hb : Below B w w') : Cls B w' v cs := by
  obtain ⟨A, c, e, h1, h2, h3⟩ := h
  refine ⟨A, c, e, h1, h2, fun k => ?_⟩
  obtain ⟨b, f, e2, h4, h5⟩ := h3 k
  exact ⟨b, f, e2, h4, fun j hj => (h5 j hj).below hb h4⟩
theorem Cls.more {cs : List (L × Int)} (h : Cls B w v cs) (hb : B ≤ B') : Cls B' w v cs := by
  obtain ⟨A, c, e, h1, h2, h3⟩ := h
  refine ⟨A, c, e, h1, h2, fun k => ?_⟩
  obtain ⟨b, f, e2, h4, h5⟩ := h3 k
  exact ⟨b, f, e2, by omega, h5⟩
theorem Ths.below {ts : List (List OpsM.Ln)} (h : Ths B w v ts) (hb : Below B w w') : Ths B w' v ts := by
  obtain ⟨A, c, e, h1, h2, h3⟩ := h
  refine ⟨A, c, e, h1, h2, fun k => ?_⟩
  obtain ⟨b, f, e2, h4, h5⟩ := h3 k
  exact ⟨b, f, e2, h4, fun j hj => (h5 j hj).below hb h4⟩
theorem Ths.more {ts : List (List OpsM.Ln)} (h : Ths B w v ts) (hb : B ≤ B') : Ths B' w v ts := by
  obtain ⟨A, c, e, h1, h2, h3⟩ := h
  refine ⟨A, c, e, h1, h2, fun k => ?_⟩
  obtain ⟨b, f, e2, h4, h5⟩ := h3 k
  exact ⟨b, f, e2, by omega, fun j hj => (h5 j hj).more hb⟩
theorem Ams.below {am : List AtomM.At} (h : Ams B w v am) (hb : Below B w w') : Ams B w' v am := by
  obtain ⟨A, c, e, h1, h2, h3⟩ := h
  refine ⟨A, c, e, h1, h2, fun k => ?_⟩
  obtain ⟨b, f, e2, h4, h5⟩ := h3 k
  exact ⟨b, f, e2, h4, fun j hj => (h5 j hj).below hb h4⟩
theorem Ams.more {am : List AtomM.At} (h : Ams B w v am) (hb : B ≤ B') : Ams B' w v am := by
  obtain ⟨A, c, e, h1, h2, h3⟩ := h
  refine ⟨A, c, e, h1, h2, fun k => ?_⟩
  obtain ⟨b, f, e2, h4, h5⟩ := h3 k
  exact ⟨b, f, e2, by omega, h5⟩
end
/-- A program as a value: its name, three slices, a bool. -/
def flv (nm : ByteArray) (vi vt vc : Value) (al : Bool) : Value := .agg #[.string nm, vi, vt, .bool al, vc]
/-- What the three slices hold. -/
def FlM (B : Nat) (w : World) (vi vt vc : Value) (F : Fl) : Prop := Cls B w vi F.init ∧ Ths B w vt F.ths ∧ Ams B w vc F.cond
theorem FlM.below {B : Nat} {w w' : World} {vi vt vc : Value} {F : Fl} (h : FlM B w vi vt vc F) (hb : Below B w w') : FlM B w' vi vt vc F := ⟨h.1.below hb, h.2.1.below hb, h.2.2.below hb⟩
theorem FlM.more {B B' : Nat} {w : World} {vi vt vc : Value} {F : Fl} (h : FlM B w vi vt vc F) (hb : B ≤ B') : FlM B' w vi vt vc F := ⟨h.1.more hb, h.2.1.more hb, h.2.2.more hb⟩
/-- The value v is the program F, its slices in blocks below B. -/
def FlV (B : Nat) (w : World) (v : Value) (F : Fl) : Prop := ∃ vi vt vc, v = flv ⟨F.name.toArray⟩ vi vt vc F.all ∧ FlM B w vi vt vc F
theorem FlV.below {B : Nat} {w w' : World} {v : Value} {F : Fl} (h : FlV B w v F) (hb : Below B w w') : FlV B w' v F := by
  obtain ⟨a, b, c, e, h⟩ := h; exact ⟨a, b, c, e, h.below hb⟩
theorem FlV.more {B B' : Nat} {w : World} {v : Value} {F : Fl} (h : FlV B w v F) (hb : B ≤ B') : FlV B' w v F := by
  obtain ⟨a, b, c, e, h⟩ := h; exact ⟨a, b, c, e, h.more hb⟩
/-- A program's box: five cells of a block. -/
def FlBox (w : World) (g : Nat) (nm : ByteArray) (vi vt vc : Value) (al : Bool) : Prop :=
  w.cell? ⟨g, 0, none⟩ = some (.string nm) ∧ w.cell? ⟨g, 1, none⟩ = some vi ∧ w.cell? ⟨g, 2, none⟩ = some vt ∧ w.cell? ⟨g, 3, none⟩ = some (.bool al) ∧ w.cell? ⟨g, 4, none⟩ = some vc
theorem FlBox.below {w w' : World} {g : Nat} {nm : ByteArray} {vi vt vc : Value} {al : Bool} (h : FlBox w g nm vi vt vc al) (hB : Below w.heap.size w w') : FlBox w' g nm vi vt vc al := by
  obtain ⟨h0, h1, h2, h3, h4⟩ := h
  exact ⟨kc hB h0, kc hB h1, kc hB h2, kc hB h3, kc hB h4⟩
theorem FlBox.at {w : World} {g : Nat} (hg : g = w.heap.size) (nm : ByteArray) (vi vt vc : Value) (al : Bool) (T : TypeId) : FlBox (w.alloc (.cells #[.string nm, vi, vt, .bool al, vc] T)) g nm vi vt vc al := by
  subst hg
  refine ⟨?_, ?_, ?_, ?_, ?_⟩ <;> (rw [World.cell?_alloc_at _ _ _ _ rfl]; rfl)
/-- What a program must be for a machine to hold it. -/
structure FlOk (F : Fl) : Prop where
  name : F.name.length ≤ 100000
  init : ∀ c ∈ F.init, c.1.length ≤ 100000
  ths : ∀ ls ∈ F.ths, ls.length ≤ 100000 ∧ ∀ l ∈ ls, l.reg.length ≤ 100000 ∧ l.loc.length ≤ 100000 ∧ l.label.length ≤ 100000
  cond : ∀ a ∈ F.cond, a.nm.length ≤ 100000 ∧ NumM.inR a.t
  nums : F.init.length ≤ 100000 ∧ F.ths.length ≤ 100000 ∧ F.cond.length ≤ 100000
end Go.Proofs.Ytlpjgaeelnlipaa
namespace Go.Proofs.Ytlpjgaeelnlipaa
open Go.RowKit
set_option linter.unusedVariables false
set_option linter.unusedSimpArgs false
open WordM (L)
open OpsM (Ln)

/-- A nil slice has no room. -/
def NilZ (v : Value) : Prop := ∀ n c, v = .slice none n c → c = 0
def NilAt (w : World) (b f : Nat) : Prop := ∀ u, w.cell? ⟨b, f, none⟩ = some u → NilZ u
end Go.Proofs.Ytlpjgaeelnlipaa
namespace Go.Proofs.Ytlpjgaeelnlipaa
open Go.RowKit
set_option linter.unusedVariables false
set_option linter.unusedSimpArgs false
open WordM (L)
open VM

end Go.Proofs.Ytlpjgaeelnlipaa
namespace Go.Proofs.Ytlpjgaeelnlipaa
open Go.RowKit Go.WideMaps Go.Maps
set_option linter.unusedVariables false
set_option linter.unusedSimpArgs false
open WordM (L)
open VM

end Go.Proofs.Ytlpjgaeelnlipaa
namespace Go.Proofs.Ytlpjgaeelnlipaa
open Go.RowKit Go.WideMaps Go.Maps
set_option linter.unusedVariables false
set_option linter.unusedSimpArgs false
open WordM (L)
open VM

theorem getD_at {α : Type} (ts : List α) (k : Nat) (z : α) (h : k < ts.length) : ts.getD k z = ts[k] := by
  rw [List.getD_eq_getElem?_getD, List.getElem?_eq_getElem h]; rfl
end Go.Proofs.Ytlpjgaeelnlipaa
namespace Go.Proofs.Ytlpjgaeelnlipaa
open Go.RowKit
set_option linter.unusedVariables false
set_option linter.unusedSimpArgs false
open WordM (L)
open VM

structure Small (F : Fl) : Prop where
  n1 : F.ths.length ≤ 9
  n2 : F.init.length ≤ 60
  n3 : F.cond.length ≤ 60
  name : F.name.length ≤ 1000
  init : ∀ j (h : j < F.init.length), F.init[j].1.length ≤ 100
  cond : ∀ j (h : j < F.cond.length), F.cond[j].nm.length ≤ 100
  ths : ∀ j (h : j < F.ths.length), F.ths[j].length ≤ 100 ∧ ∀ l ∈ F.ths[j], l.reg.length ≤ 1000 ∧ l.loc.length ≤ 1000 ∧ l.label.length ≤ 1000
/-- The ints of a program are ints. -/
def IntsOk (F : Fl) : Prop := ∀ a ∈ F.cond, NumM.inR a.t
theorem Small.ok {F : Fl} (h : Small F) (hi : IntsOk F) : FlOk F := by
  refine ⟨by have := h.name; omega, fun c hc => ?_, fun ls hl => ?_, fun a ha => ⟨?_, hi a ha⟩, by have := h.n1; have := h.n2; have := h.n3; omega⟩
  · obtain ⟨j, hj, rfl⟩ := List.mem_iff_getElem.1 hc
    have := h.init j hj; omega
  · obtain ⟨j, hj, rfl⟩ := List.mem_iff_getElem.1 hl
    have := h.ths j hj
    exact ⟨by omega, fun l hl => by have := this.2 l hl; omega⟩
  · obtain ⟨j, hj, rfl⟩ := List.mem_iff_getElem.1 ha
    have := h.cond j hj; omega
end Go.Proofs.Ytlpjgaeelnlipaa
