/-
  PLAIN MATHEMATICS OF TEXTS: what lines and words are, over lists of bytes. It imports nothing of the program.
  PLAIN MATHEMATICS OF LAYER 1: decimal texts as lists of bytes, and the number that the bytes of a text make, wrapped round to 64 bits.
  SMALL FACTS that many texts of the seat use. Of no function of the program.
  SMALL FACTS on boxes: a struct's memory behind calls that make memory alone. Of no function of the program.
  PLAIN MATHEMATICS OF NAMES: which texts are registers, keys and names. It imports nothing of the program.
  names and registers of package word, over any world.
  PLAIN MATHEMATICS OF LAYER 3: lines and atoms, their words, and what words are.
  SLICES OF STRINGS: what it says that a value is a slice whose cells are given texts; what a call says that hands one back. Of no function of the program.
  WHICH LINES ARE RIGHT: the kinds' own tests, and which kind a line is of, over any world that holds the registers.
  PLAIN MATHEMATICS OF LAYER 3: atoms, their words, and what words are.
  ATOMS as values; ops.Asked, over any world that holds the registers.
  BOXES OF LINES AND ATOMS: a struct's cells in a block, kept behind calls that make memory alone.
-/
import Derived.Lib.Strings
import Derived.Lib.Bytealg
import Derived.IntWalk
import Derived.Test.YtbgjamoflbdhoaaRows
import Derived.WalkKit
import Derived.WalkSpells
import Derived.WalkLawsBesides
import Derived.Lib.Hide
import Derived.Laws.BytesArg
import Derived.Laws.Concat
import Derived.OpenShut
import Derived.Deep.QuietTactic
import Derived.BigQuiet
import Derived.LoopTactic
import Derived.RegionTactic
import Derived.Maps.AppendAt
import Derived.RangeFuncBox
import Derived.StillTailTactics
import Derived.Deep.RegionHeld3
set_option linter.unusedVariables false
set_option linter.unusedSimpArgs false
namespace Go.Proofs.Ytbgjamoflbdhoaa.WordM
abbrev L := List UInt8

def consHd (b : UInt8) : List L → List L
  | [] => [[b]]
  | h :: t => (b :: h) :: t
/-- What stands between the bytes c, the last one too. -/
def split (c : UInt8) : L → List L
  | [] => [[]]
  | b :: l => if b = c then [] :: split c l else consHd b (split c l)
end Go.Proofs.Ytbgjamoflbdhoaa.WordM
namespace Go.Proofs.Ytbgjamoflbdhoaa
open Go.RowKit
namespace NumM

def inR (n : Int) : Prop := -9223372036854775808 ≤ n ∧ n ≤ 9223372036854775807

end NumM
end Go.Proofs.Ytbgjamoflbdhoaa
namespace Go.Proofs.Ytbgjamoflbdhoaa
open Go.RowKit
open WordM (L)
set_option linter.unusedVariables false
/-- Frames' literals, in short (walks of regions by hand). -/
theorem pt8 : type_of% (And.intro @List.getElem_toArray.{0} (And.intro @List.getElem_cons_zero.{0} (And.intro @List.getElem_cons_succ.{0} (And.intro @Array.getInternal_eq_getElem.{0} (And.intro @List.setIfInBounds_toArray.{0} (And.intro @List.set_cons_zero.{0} @List.set_cons_succ.{0})))))) := ⟨@List.getElem_toArray, @List.getElem_cons_zero, @List.getElem_cons_succ, @Array.getInternal_eq_getElem, @List.setIfInBounds_toArray, @List.set_cons_zero, @List.set_cons_succ⟩
theorem chain {w a b : World} (h : Below w.heap.size w a) (k : Below a.heap.size a b) : Below w.heap.size w b := h.trans (k.mono h.size)
theorem below_drewN {B : Nat} {a w : World} (h : Below B a w) (n : Nat) : Below B a (w.drewN n) := ⟨h.os, h.tape, h.output, h.size, h.block⟩
end Go.Proofs.Ytbgjamoflbdhoaa
namespace Go.Proofs.Ytbgjamoflbdhoaa
open Go.RowKit
set_option linter.unusedVariables false
/-- What a box had when it was made it has behind calls that make memory alone. -/
theorem kept_box {w w1 : World} {cs : Array Value} {T : TypeId} (hB : Below (w.alloc (.cells cs T)).heap.size (w.alloc (.cells cs T)) w1) (i : Nat) {v : Value} (h : cs[i]? = some v) :
    w1.cell? ⟨w.heap.size, i, none⟩ = some v ∧ w1.frozen? ⟨w.heap.size, i, none⟩ = false := by
  refine ⟨(hB.cell (p := ⟨w.heap.size, i, none⟩) (by simp)).trans ?_, (hB.frozen (p := ⟨w.heap.size, i, none⟩) (by simp)).trans ?_⟩
  · rw [World.cell?_alloc_at _ _ _ _ rfl]; exact h
  · rw [World.frozen?_alloc_at _ _ _ _ rfl]
theorem lt_of_cell {W : World} {g i : Nat} {v : Value} (h : W.cell? ⟨g, i, none⟩ = some v) : g < W.heap.size := by
  rcases Nat.lt_or_ge g W.heap.size with k | k
  · exact k
  · simp [World.cell?, Array.getElem?_eq_none k] at h
end Go.Proofs.Ytbgjamoflbdhoaa
namespace Go.Proofs.Ytbgjamoflbdhoaa.WordM

def letterB (b : UInt8) : Bool := decide (97 ≤ b.toNat) && decide (b.toNat ≤ 122)
def digitB (b : UInt8) : Bool := decide (48 ≤ b.toNat) && decide (b.toNat ≤ 57)
def alnum (b : UInt8) : Bool := letterB b || digitB b
def speltB (l : L) : Bool := decide (l ≠ []) && decide (l.length ≤ 8) && letterB (l.headD 0) && l.all alnum
def regL (n : Nat) : L := match n with | 0 => [101, 97, 120] | 1 => [101, 98, 120] | 2 => [101, 99, 120] | 3 => [101, 100, 120] | _ => []
def regNo (l : L) : Int := if l = regL 0 then 0 else if l = regL 1 then 1 else if l = regL 2 then 2 else if l = regL 3 then 3 else -1
def keys : List L := [[120, 56, 54], [105, 110, 105, 116], [116, 104, 114, 101, 97, 100], [109, 111, 118], [120, 99, 104, 103], [109, 102, 101, 110, 99, 101], [99, 109, 112], [106, 109, 112], [106, 101], [106, 110, 101], [101, 120, 105, 115, 116, 115], [102, 111, 114, 97, 108, 108]]
def keyB (l : L) : Bool := decide (l ∈ keys)
def nameB (l : L) : Bool := speltB l && decide (regNo l < 0) && !keyB l

end Go.Proofs.Ytbgjamoflbdhoaa.WordM
namespace Go.Proofs.Ytbgjamoflbdhoaa
open Go.RowKit
open WordM (L)
set_option linter.unusedVariables false
end Go.Proofs.Ytbgjamoflbdhoaa
namespace Go.Proofs.Ytbgjamoflbdhoaa.OpsM
open WordM (L)
set_option linter.unusedVariables false

structure Ln where
  op : Int
  reg : L
  loc : L
  label : L
  n : Int

theorem Ln.same {a b : Ln} (h0 : a.op = b.op) (h1 : a.reg = b.reg) (h2 : a.loc = b.loc) (h3 : a.label = b.label) (h4 : a.n = b.n) : a = b := by
  cases a; cases b; simp_all

def regB (r : L) : Bool := decide (0 ≤ WordM.regNo r)
def emp (r : L) : Bool := decide (r = [])
def nil0 (n : Int) : Bool := decide (n = 0)

/-- What the kinds' own tests say. -/
def okNum (r o b : L) : Bool := regB r && (emp o && emp b)
def okLoc (r o b : L) (n : Int) : Bool := regB r && (WordM.nameB o && (emp b && nil0 n))
def okLab (r o b : L) (n : Int) : Bool := WordM.nameB b && (emp r && (emp o && nil0 n))
def okPut (r o b : L) : Bool := WordM.nameB o && (emp r && emp b)
def okFen (r o b : L) (n : Int) : Bool := emp r && (emp o && (emp b && nil0 n))
def right (op : Int) (r o b : L) (n : Int) : Bool :=
  if op = 1 then okNum r o b else if op = 2 then okLoc r o b n else if op = 3 then okLoc r o b n else if op = 4 then okPut r o b
  else if op = 5 then okLoc r o b n else if op = 6 then okFen r o b n else if op = 7 then okNum r o b
  else if op = 8 then okLab r o b n else if op = 9 then okLab r o b n else if op = 10 then okLab r o b n else if op = 11 then okLab r o b n else false
def rightL (l : Ln) : Bool := right l.op l.reg l.loc l.label l.n

def zero : Ln := ⟨0, [], [], [], 0⟩
end Go.Proofs.Ytbgjamoflbdhoaa.OpsM
namespace Go.Proofs.Ytbgjamoflbdhoaa
open Go.RowKit
set_option linter.unusedVariables false
open WordM (L)

/-- A text as a value. -/
def sv (l : L) : Value := .string ⟨l.toArray⟩
/-- What a slice owns it owns on, while nothing below its block's bound turns. -/
theorem own_below {base e size n : Nat} {w w' : World} {v : Value} {xs : List Value} (h : w.ownsRow base e size v n xs) (hb : Below w.heap.size w w') : w'.ownsRow base e size v n xs :=
  h.kept (row := none) ⟨hb.os, hb.tape, hb.output, hb.size, fun k hk _ => hb.block k hk⟩ (by
    rcases h.2 with ⟨rfl, _⟩ | ⟨g, cap, cur, rfl, _⟩
    · exact .inl rfl
    · right; simp [Value.ownBlock])
theorem own_base {base base' e size n : Nat} {w : World} {v : Value} {xs : List Value} (h : w.ownsRow base e size v n xs) (hb : base' ≤ base) : w.ownsRow base' e size v n xs := by
  obtain ⟨h0, h⟩ := h
  refine ⟨h0, ?_⟩
  rcases h with h | ⟨g, cap, cur, h1, h2, h3⟩
  · exact .inl h
  · exact .inr ⟨g, cap, cur, h1, by omega, h3⟩

/-- Behind an append onto what the call itself made: all that lay below stays. -/
theorem below_append {B base e size n : Nat} {W0 W w1 : World} {v : Value} {xs : List Value} (hB : Below B W0 W) (hown : W.ownsRow base e size v n xs) (hbb : B ≤ base) (hs : B ≤ W.heap.size) (hg : W.grownBy w1 v.ownBlock) : Below B W0 w1 := by
  refine hB.grown hg hs fun j ej => ?_
  have := hown.lt j ej
  omega
end Go.Proofs.Ytbgjamoflbdhoaa
namespace Go.Proofs.Ytbgjamoflbdhoaa
open Go.RowKit
set_option linter.unusedVariables false
set_option linter.unusedSimpArgs false
open WordM (L)

end Go.Proofs.Ytbgjamoflbdhoaa
namespace Go.Proofs.Ytbgjamoflbdhoaa.AtomM
open WordM (L)
open OpsM (regB)
set_option linter.unusedVariables false

structure At where
  t : Int
  nm : L
  n : Int
theorem At.same {a b : At} (h0 : a.t = b.t) (h1 : a.nm = b.nm) (h2 : a.n = b.n) : a = b := by cases a; cases b; simp_all

def asked (t : Int) (nm : L) : Bool := if t = -1 then WordM.nameB nm else (decide (0 ≤ t) && (decide (t < 3) && regB nm))
def before (c : UInt8) (l : L) : L := l.takeWhile (· != c)
def zero : At := ⟨0, [], 0⟩
def askedA (a : At) : Bool := asked a.t a.nm
end Go.Proofs.Ytbgjamoflbdhoaa.AtomM
namespace Go.Proofs.Ytbgjamoflbdhoaa
open Go.RowKit
set_option linter.unusedVariables false
set_option linter.unusedSimpArgs false
open WordM (L)

end Go.Proofs.Ytbgjamoflbdhoaa
namespace Go.Proofs.Ytbgjamoflbdhoaa
open Go.RowKit
set_option linter.unusedVariables false
set_option linter.unusedSimpArgs false
open WordM (L)

theorem kc {W w' : World} {g i : Nat} {v : Value} (hB : Below W.heap.size W w') (h : W.cell? ⟨g, i, none⟩ = some v) : w'.cell? ⟨g, i, none⟩ = some v := (hB.cell (p := ⟨g, i, none⟩) (lt_of_cell h)).trans h
def LnBox (w : World) (g : Nat) (op : Int) (r o b : ByteArray) (n : Int) : Prop :=
  w.cell? ⟨g, 0, none⟩ = some (.int .i64 op) ∧ w.cell? ⟨g, 1, none⟩ = some (.string r) ∧ w.cell? ⟨g, 2, none⟩ = some (.string o) ∧ w.cell? ⟨g, 3, none⟩ = some (.string b) ∧ w.cell? ⟨g, 4, none⟩ = some (.int .i64 n)
def AtBox (w : World) (g : Nat) (t : Int) (nm : ByteArray) (n : Int) : Prop :=
  w.cell? ⟨g, 0, none⟩ = some (.int .i64 t) ∧ w.cell? ⟨g, 1, none⟩ = some (.string nm) ∧ w.cell? ⟨g, 2, none⟩ = some (.int .i64 n)
theorem LnBox.below {w w' : World} {g : Nat} {op n : Int} {r o b : ByteArray} (h : LnBox w g op r o b n) (hB : Below w.heap.size w w') : LnBox w' g op r o b n := by
  obtain ⟨h0, h1, h2, h3, h4⟩ := h
  exact ⟨kc hB h0, kc hB h1, kc hB h2, kc hB h3, kc hB h4⟩
theorem AtBox.below {w w' : World} {g : Nat} {t n : Int} {nm : ByteArray} (h : AtBox w g t nm n) (hB : Below w.heap.size w w') : AtBox w' g t nm n := by
  obtain ⟨h0, h1, h2⟩ := h
  exact ⟨kc hB h0, kc hB h1, kc hB h2⟩
theorem LnBox.alloc {w : World} {g : Nat} {op n : Int} {r o b : ByteArray} (h : LnBox w g op r o b n) (x : Obj) : LnBox (w.alloc x) g op r o b n := h.below ((Below.refl _ _).alloc (Nat.le_refl _) _)
theorem AtBox.alloc {w : World} {g : Nat} {t n : Int} {nm : ByteArray} (h : AtBox w g t nm n) (x : Obj) : AtBox (w.alloc x) g t nm n := h.below ((Below.refl _ _).alloc (Nat.le_refl _) _)
theorem LnBox.new (w : World) (op n : Int) (r o b : ByteArray) (T : TypeId) : LnBox (w.alloc (.cells #[.int .i64 op, .string r, .string o, .string b, .int .i64 n] T)) w.heap.size op r o b n := by
  refine ⟨?_, ?_, ?_, ?_, ?_⟩ <;> (rw [World.cell?_alloc_at _ _ _ _ rfl]; rfl)
theorem AtBox.new (w : World) (t n : Int) (nm : ByteArray) (T : TypeId) : AtBox (w.alloc (.cells #[.int .i64 t, .string nm, .int .i64 n] T)) w.heap.size t nm n := by
  refine ⟨?_, ?_, ?_⟩ <;> (rw [World.cell?_alloc_at _ _ _ _ rfl]; rfl)

theorem below_al {w a : World} (h : Below w.heap.size w a) (o : Obj) : Below w.heap.size w (a.alloc o) := h.alloc h.size o
theorem LnBox.at {w : World} {g : Nat} (hg : g = w.heap.size) (op n : Int) (r o b : ByteArray) (T : TypeId) : LnBox (w.alloc (.cells #[.int .i64 op, .string r, .string o, .string b, .int .i64 n] T)) g op r o b n := by
  subst hg; exact LnBox.new w op n r o b T
theorem AtBox.at {w : World} {g : Nat} (hg : g = w.heap.size) (t n : Int) (nm : ByteArray) (T : TypeId) : AtBox (w.alloc (.cells #[.int .i64 t, .string nm, .int .i64 n] T)) g t nm n := by
  subst hg; exact AtBox.new w t n nm T
end Go.Proofs.Ytbgjamoflbdhoaa
