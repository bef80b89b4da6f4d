/-
  ARGUMENTS THAT ARE LINES AND ATOMS, by value: what their cells hold.
  ROWS OF LINES in memory: what it says that a slice reads as lines; the small tests of package valid on one line.
  MAPS THAT COUNT NAMES: what it says that a map of the call's own holds, of each text, a number; valid.labels.
  PLAIN MATHEMATICS OF LAYER 4: what is wrong with a line of a thread.
  PLAIN MATHEMATICS OF LAYER 4: programs, and what is wrong with one first.
  BOXES OF LINES AND ATOMS: a struct's cells in a block, kept behind calls that make memory alone.
  PROGRAMS in memory: what it says that a value is a program, with its rows of cells, threads and atoms.
  ROWS OF LINES OF THE CALL's OWN: the cells of lines, one behind the other, and what they read as.
  valid.frameFault: what is wrong with the name, the cells and how many threads there are.
  A THREAD'S READER, line by line: what it answers of a line that stands behind right ones, and what it holds then.
  valid.lineFault: the first wrong line of the first wrong thread.
  THE LAWS' Great: is a program too much? Where it is not, all is small.
-/
import Derived.Test.YtlpjgaeelnlipaaGreatK00
import Derived.Deep.Fields
import Derived.SliceStrings
import Derived.ChangeSame
import Derived.OpenShut
import Derived.Maps.Own
import Derived.Maps.OwnOps
import Derived.Maps.OwnSet
import Derived.Maps.Views
set_option linter.unusedVariables false
set_option linter.unusedSimpArgs false
namespace Go.Proofs.YtlpjgaeelnlipaaGreat
open Go Go.ChangeShapes Go.WideShapes Go.RowKit Go.Deep
set_option maxRecDepth 100000

section
variable {H : Type} {enc : TypeId × Value → H} {P : Program} {w : World} {base : Nat} {spare : Nat → Bool} {held : Bool}
/-- A struct of one-cell fields, however many. -/
theorem open_fields {r : Reach} {b0 : Nat} {t : TypeId} {fs : Array Field} {v : Value} {d : DataW H} {p : List MemPlace} (hs : P.underlying t = some (.struct fs)) (hone : oneCellFields P fs = true) (hC : P.cellsOf t = fs.size)
    (hv : Value.okWide P w r b0 t v) (h : DataW.Trod enc P w base spare held t v d p) :
    ∃ cs : Array Value, v = .agg cs ∧ cs.size = fs.size ∧ ∀ (j : Nat) (f : Field), fs[j]? = some f → ∃ (x : Value) (y : DataW H × List MemPlace) (n : Nat), cs[j]? = some x ∧ DataW.trod enc P w base spare held n f.type [x] = some y := by
  obtain ⟨cs, rfl, hsz⟩ := okWide_struct hs hv
  obtain ⟨fuel, hf⟩ := h
  obtain ⟨xs, n, _, _, _, hlen, hg⟩ := DataW.trod_struct hs hf
  refine ⟨cs, rfl, hsz.trans hC, fun j f hj => ?_⟩
  obtain ⟨ho, hk⟩ := hone_of hone j f hj
  have hjl : j < fs.size := (Array.getElem?_eq_some_iff.1 hj).1
  have hjc : j < cs.size := by rw [hsz, hC]; exact hjl
  have h1 := hg j f hj
  rw [ho, hk] at h1
  have h2 : (((Value.agg cs).cells.toList).drop j).take 1 = [cs[j]] := by
    show (cs.toList.drop j).take 1 = _
    rw [List.drop_eq_getElem_cons (by simpa using hjc)]
    rfl
  have hx : xs[j]? = some (xs[j]'(by omega)) := List.getElem?_eq_getElem (by omega)
  rw [h2] at h1
  exact ⟨cs[j], xs[j]'(by omega), n, Array.getElem?_eq_getElem hjc, h1.trans hx⟩
end

theorem int_cell {H : Type} {enc : TypeId × Value → H} {P : Program} {w : World} {base : Nat} {spare : Nat → Bool} {held : Bool} {t : TypeId} {x : Value} {y : DataW H × List MemPlace} {n : Nat} (ht : P.underlying t = some (.int .i64))
    (h : DataW.trod enc P w base spare held n t [x] = some y) : ∃ k, x = .int .i64 k ∧ NumM.inR k := by
  obtain ⟨k, e, _, hw⟩ := DataW.trod_int ht h
  injection e with e _
  exact ⟨k, e, bounds_i64 hw⟩
theorem cell_spot {w : World} {a : Addr} {v : Value} (h : w.cell? a = some v) : a.spot = none := by
  unfold World.cell? at h
  cases hs : a.spot with
  | none => rfl
  | some q =>
    rw [hs] at h
    split at h <;> simp at h
end Go.Proofs.YtlpjgaeelnlipaaGreat
namespace Go.Proofs.YtlpjgaeelnlipaaGreat
open Go.RowKit
open WordM (L)

end Go.Proofs.YtlpjgaeelnlipaaGreat
namespace Go.Proofs.YtlpjgaeelnlipaaGreat
open Go.RowKit Go.WideMaps Go.Maps
open WordM (L)

/-- How often a label stands in some lines. -/
def lcnt (ls : List OpsM.Ln) (s : L) : Nat := (ls.filter (fun l => decide (l.op = 11) && decide (l.label = s))).length
end Go.Proofs.YtlpjgaeelnlipaaGreat
namespace Go.Proofs.YtlpjgaeelnlipaaGreat.VM
open WordM (L)
open OpsM (Ln)

def insB (l : Ln) : Bool := !(l.op == 6) && !(l.op == 11)
def labB (l : Ln) : Bool := l.op == 11
def jmpB (l : Ln) : Bool := decide (8 ≤ l.op) && decide (l.op ≤ 10)
def cI (ls : List Ln) : Nat := (ls.filter insB).length
def cM (ls : List Ln) : Nat := (ls.filter labB).length
/-- Is the line right ahead of the k-th a fence? -/
def fenB (ls : List Ln) (k : Nat) : Bool := match k with | 0 => false | k + 1 => match ls[k]? with | some l => l.op == 6 | none => false
/-- What is wrong with the k-th line, x; 0, if nothing is. -/
def lineC (ls : List Ln) (k : Nat) (x : Ln) : Int :=
  if OpsM.rightL x = false then 11 else if x.op = 11 ∧ 0 < lcnt (ls.take k) x.label then 21 else if x.op = 6 ∧ fenB ls k = true then 23
  else if jmpB x = true ∧ lcnt (ls.drop (k + 1)) x.label = 0 then 22 else if (insB x = true ∧ 8 ≤ cI (ls.take k)) ∨ (x.op = 11 ∧ 8 ≤ cM (ls.take k)) then 5 else 0
end Go.Proofs.YtlpjgaeelnlipaaGreat.VM
namespace Go.Proofs.YtlpjgaeelnlipaaGreat.VM
open WordM (L)
open OpsM (Ln)
open AtomM (At)

structure Fl where
  name : L
  init : List (L × Int)
  ths : List (List Ln)
  cond : List At
  all : Bool

/-- The first place below n where g is not 0. -/
def firstAt (g : Nat → Int) : Nat → Option Nat
  | 0 => none
  | n + 1 => match firstAt g n with | some k => some k | none => if g n = 0 then none else some n
/-- What is wrong with the k-th cell; 0, if nothing is. -/
def cellC (cs : List (L × Int)) (k : Nat) : Int :=
  if WordM.nameB (cs.getD k ([], 0)).1 = false then 22 else if 0 < k ∧ (cs.getD k ([], 0)).1 ≤ (cs.getD (k - 1) ([], 0)).1 then 21 else 0
def cellsC (F : Fl) : Int := match firstAt (cellC F.init) F.init.length with | some k => cellC F.init k | none => if F.ths.length < 1 ∨ 3 < F.ths.length then 5 else 0
def frameC (F : Fl) : Int := if WordM.nameB F.name = false then 22 else cellsC F
def lnz : Ln := ⟨0, [], [], [], 0⟩
/-- What is wrong with the k-th line of a thread. -/
def lnC (ls : List Ln) (k : Nat) : Int := lineC ls k (ls.getD k lnz)
def thC (ls : List Ln) : Option Nat := firstAt (lnC ls) ls.length
def thG (ts : List (List Ln)) (i : Nat) : Int := if (thC (ts.getD i [])).isSome then 1 else 0
/-- The first wrong line of the first wrong thread: which thread, which line, what is wrong. -/
def lineF (ts : List (List Ln)) : Option (Nat × Nat × Int) :=
  match firstAt (thG ts) ts.length with | none => none | some i => match thC (ts.getD i []) with | none => none | some k => some (i, k, lnC (ts.getD i []) k)
/-- The same as three numbers; 0, 0 and 0, if there is none. -/
def lineT (ts : List (List Ln)) : Int × Int × Int := match lineF ts with | none => (0, 0, 0) | some (i, k, c) => ((i : Int), (k : Int), c)
/-- What is wrong with the k-th atom. -/
def atC (n : Nat) (am : List At) (k : Nat) : Int :=
  if 6 ≤ k then 5 else if AtomM.askedA (am.getD k AtomM.zero) = false then 1 else if (n : Int) ≤ (am.getD k AtomM.zero).t then 22 else 0
def atomT (n : Nat) (am : List At) : Int × Int × Int := match firstAt (atC n am) am.length with | none => (0, 0, 0) | some k => ((n : Int), (k : Int), atC n am k)
/-- A name is put among others, that rise. -/
def ins (s : L) : List L → List L
  | [] => [s]
  | x :: r => if s ≤ x then (if s = x then x :: r else s :: x :: r) else x :: ins s r
def put (l : List L) (s : L) : List L := if s = [] then l else ins s l
/-- The names of locations in lines, in threads, in atoms; all, one behind the other. -/
def lnames (ls : List Ln) : List L := (ls.map (·.loc)).filter (fun s => !decide (s = []))
def tnames : List (List Ln) → List L
  | [] => []
  | ls :: r => lnames ls ++ tnames r
def anames (am : List At) : List L := (am.filter (fun a => a.t == -1)).map (·.nm)
def names (F : Fl) : List L := F.init.map (·.1) ++ (tnames F.ths ++ anames F.cond)
def locs (F : Fl) : List L := (names F).foldl put []
def locC (F : Fl) : Int := if 4 < (locs F).length then 5 else 0
def chk (F : Fl) : Int × Int × Int :=
  if frameC F ≠ 0 then (-1, -1, frameC F) else if (lineT F.ths).2.2 ≠ 0 then lineT F.ths else if (atomT F.ths.length F.cond).2.2 ≠ 0 then atomT F.ths.length F.cond
  else if locC F ≠ 0 then (-1, -1, locC F) else (0, 0, 0)
def right (F : Fl) : Bool := (chk F).2.2 == 0
end Go.Proofs.YtlpjgaeelnlipaaGreat.VM
namespace Go.Proofs.YtlpjgaeelnlipaaGreat
open Go.RowKit
open WordM (L)

theorem kc {W w' : World} {g i : Nat} {v : Value} (hB : Below W.heap.size W w') (h : W.cell? ⟨g, i, none⟩ = some v) : w'.cell? ⟨g, i, none⟩ = some v := (hB.cell (p := ⟨g, i, none⟩) (lt_of_cell h)).trans h
theorem below_al {w a : World} (h : Below w.heap.size w a) (o : Obj) : Below w.heap.size w (a.alloc o) := h.alloc h.size o
end Go.Proofs.YtlpjgaeelnlipaaGreat
namespace Go.Proofs.YtlpjgaeelnlipaaGreat
open Go.RowKit
open WordM (L)
open VM (Fl)

section
variable {B B' : Nat} {w w' : World} {v : Value}
end
/-- What a program must be for a machine to hold it. -/
structure FlOk (F : Fl) : Prop where
  name : F.name.length ≤ 100000
  init : ∀ c ∈ F.init, c.1.length ≤ 100000
  ths : ∀ ls ∈ F.ths, ls.length ≤ 100000 ∧ ∀ l ∈ ls, l.reg.length ≤ 100000 ∧ l.loc.length ≤ 100000 ∧ l.label.length ≤ 100000
  cond : ∀ a ∈ F.cond, a.nm.length ≤ 100000 ∧ NumM.inR a.t
  nums : F.init.length ≤ 100000 ∧ F.ths.length ≤ 100000 ∧ F.cond.length ≤ 100000
end Go.Proofs.YtlpjgaeelnlipaaGreat
namespace Go.Proofs.YtlpjgaeelnlipaaGreat
open Go.RowKit
open WordM (L)
open OpsM (Ln)

/-- A nil slice has no room. -/
def NilZ (v : Value) : Prop := ∀ n c, v = .slice none n c → c = 0
def NilAt (w : World) (b f : Nat) : Prop := ∀ u, w.cell? ⟨b, f, none⟩ = some u → NilZ u
end Go.Proofs.YtlpjgaeelnlipaaGreat
namespace Go.Proofs.YtlpjgaeelnlipaaGreat
open Go.RowKit
open WordM (L)
open VM

end Go.Proofs.YtlpjgaeelnlipaaGreat
namespace Go.Proofs.YtlpjgaeelnlipaaGreat
open Go.RowKit Go.WideMaps Go.Maps
open WordM (L)
open VM

end Go.Proofs.YtlpjgaeelnlipaaGreat
namespace Go.Proofs.YtlpjgaeelnlipaaGreat
open Go.RowKit Go.WideMaps Go.Maps
open WordM (L)
open VM

theorem getD_at {α : Type} (ts : List α) (k : Nat) (z : α) (h : k < ts.length) : ts.getD k z = ts[k] := by
  rw [List.getD_eq_getElem?_getD, List.getElem?_eq_getElem h]; rfl
end Go.Proofs.YtlpjgaeelnlipaaGreat
namespace Go.Proofs.YtlpjgaeelnlipaaGreat
open Go.RowKit
open WordM (L)
open VM

structure Small (F : Fl) : Prop where
  n1 : F.ths.length ≤ 9
  n2 : F.init.length ≤ 60
  n3 : F.cond.length ≤ 60
  name : F.name.length ≤ 1000
  init : ∀ j (h : j < F.init.length), F.init[j].1.length ≤ 100
  cond : ∀ j (h : j < F.cond.length), F.cond[j].nm.length ≤ 100
  ths : ∀ j (h : j < F.ths.length), F.ths[j].length ≤ 100 ∧ ∀ l ∈ F.ths[j], l.reg.length ≤ 1000 ∧ l.loc.length ≤ 1000 ∧ l.label.length ≤ 1000
end Go.Proofs.YtlpjgaeelnlipaaGreat
