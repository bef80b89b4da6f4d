/-
  PLAIN MATHEMATICS OF NAMES: which texts are registers, keys and names. It imports nothing of the program.
  names and registers of package word, over any world.
  PLAIN MATHEMATICS OF LAYER 3: lines and atoms, their words, and what words are.
  SLICES OF STRINGS: what it says that a value is a slice whose cells are given texts; what a call says that hands one back. Of no function of the program.
  WHICH LINES ARE RIGHT: the kinds' own tests, and which kind a line is of, over any world that holds the registers.
  PLAIN MATHEMATICS OF LAYER 3: atoms, their words, and what words are.
  ATOMS as values; ops.Asked, over any world that holds the registers.
  BOXES OF LINES AND ATOMS: a struct's cells in a block, kept behind calls that make memory alone.
-/
import Derived.Test.YtbffjhdocicfoaaK00
import Derived.Test.YtbffjhdocicfoaaRows
import Derived.WalkKit
import Derived.Maps.AppendAt
import Derived.RangeFuncBox
import Derived.Lib.Hide
import Derived.Deep.QuietTactic
import Derived.Lib.Strings
import Derived.StillTailTactics
import Derived.Deep.RegionHeld3
set_option linter.unusedVariables false
set_option linter.unusedSimpArgs false
namespace Go.Proofs.Ytbffjhdocicfoaa.WordM

def letterB (b : UInt8) : Bool := decide (97 ≤ b.toNat) && decide (b.toNat ≤ 122)
def digitB (b : UInt8) : Bool := decide (48 ≤ b.toNat) && decide (b.toNat ≤ 57)
def alnum (b : UInt8) : Bool := letterB b || digitB b
def speltB (l : L) : Bool := decide (l ≠ []) && decide (l.length ≤ 8) && letterB (l.headD 0) && l.all alnum
def regL (n : Nat) : L := match n with | 0 => [101, 97, 120] | 1 => [101, 98, 120] | 2 => [101, 99, 120] | 3 => [101, 100, 120] | _ => []
def regNo (l : L) : Int := if l = regL 0 then 0 else if l = regL 1 then 1 else if l = regL 2 then 2 else if l = regL 3 then 3 else -1
def keys : List L := [[120, 56, 54], [105, 110, 105, 116], [116, 104, 114, 101, 97, 100], [109, 111, 118], [120, 99, 104, 103], [109, 102, 101, 110, 99, 101], [99, 109, 112], [106, 109, 112], [106, 101], [106, 110, 101], [101, 120, 105, 115, 116, 115], [102, 111, 114, 97, 108, 108]]
def keyB (l : L) : Bool := decide (l ∈ keys)
def nameB (l : L) : Bool := speltB l && decide (regNo l < 0) && !keyB l

end Go.Proofs.Ytbffjhdocicfoaa.WordM
namespace Go.Proofs.Ytbffjhdocicfoaa
open Go.RowKit
open WordM (L)
set_option linter.unusedVariables false
end Go.Proofs.Ytbffjhdocicfoaa
namespace Go.Proofs.Ytbffjhdocicfoaa.OpsM
open WordM (L)
set_option linter.unusedVariables false

structure Ln where
  op : Int
  reg : L
  loc : L
  label : L
  n : Int

def kmov : L := [109, 111, 118]
def kxchg : L := [120, 99, 104, 103]
def kmfence : L := [109, 102, 101, 110, 99, 101]
def kcmp : L := [99, 109, 112]
def kjmp : L := [106, 109, 112]
def kje : L := [106, 101]
def kjne : L := [106, 110, 101]
def brk (o : L) : L := 91 :: (o ++ [93])
def col (b : L) : L := b ++ [58]
def regB (r : L) : Bool := decide (0 ≤ WordM.regNo r)
def emp (r : L) : Bool := decide (r = [])
def nil0 (n : Int) : Bool := decide (n = 0)

/-- What the kinds' own tests say. -/
def okNum (r o b : L) : Bool := regB r && (emp o && emp b)
def okLoc (r o b : L) (n : Int) : Bool := regB r && (WordM.nameB o && (emp b && nil0 n))
def okLab (r o b : L) (n : Int) : Bool := WordM.nameB b && (emp r && (emp o && nil0 n))
def okPut (r o b : L) : Bool := WordM.nameB o && (emp r && emp b)
def okFen (r o b : L) (n : Int) : Bool := emp r && (emp o && (emp b && nil0 n))
def right (op : Int) (r o b : L) (n : Int) : Bool :=
  if op = 1 then okNum r o b else if op = 2 then okLoc r o b n else if op = 3 then okLoc r o b n else if op = 4 then okPut r o b
  else if op = 5 then okLoc r o b n else if op = 6 then okFen r o b n else if op = 7 then okNum r o b
  else if op = 8 then okLab r o b n else if op = 9 then okLab r o b n else if op = 10 then okLab r o b n else if op = 11 then okLab r o b n else false
def rightL (l : Ln) : Bool := right l.op l.reg l.loc l.label l.n

def wordsR (op : Int) (r o b : L) (n : Int) : List L :=
  if op = 1 then [kmov, r, NumM.text n] else if op = 2 then [kmov, r, brk o] else if op = 3 then [kmov, brk o, r] else if op = 4 then [kmov, brk o, NumM.text n]
  else if op = 5 then [kxchg, brk o, r] else if op = 6 then [kmfence] else if op = 7 then [kcmp, r, NumM.text n]
  else if op = 8 then [kjmp, b] else if op = 9 then [kje, b] else if op = 10 then [kjne, b] else [col b]
def words (op : Int) (r o b : L) (n : Int) : List L := if right op r o b n then wordsR op r o b n else []
def wordsL (l : Ln) : List L := words l.op l.reg l.loc l.label l.n

/-- A suffix, or a prefix, of one byte, taken off. -/
def offEnd (c : UInt8) (s : L) : L := if s.getLast? = some c then s.dropLast else s
def offHead (c : UInt8) (s : L) : L := if s.head? = some c then s.tail else s
def inside (s : L) : L := offEnd 93 (offHead 91 s)

def zero : Ln := ⟨0, [], [], [], 0⟩
def moved (to fr : L) : Ln :=
  if (NumM.get fr).2 then (if regB to then ⟨1, to, [], [], (NumM.get fr).1⟩ else ⟨4, [], inside to, [], (NumM.get fr).1⟩)
  else if regB to then ⟨2, to, inside fr, [], 0⟩ else ⟨3, fr, inside to, [], 0⟩
def worked (f to fr : L) : Ln :=
  if f = kmov then moved to fr else if f = kxchg then ⟨5, fr, inside to, [], 0⟩ else if f = kcmp then ⟨7, to, [], [], (NumM.get fr).1⟩ else zero
def jumped (f to : L) : Ln := if f = kjmp then ⟨8, [], [], to, 0⟩ else if f = kje then ⟨9, [], [], to, 0⟩ else if f = kjne then ⟨10, [], [], to, 0⟩ else zero
def alone (s : L) : Ln := if s = kmfence then ⟨6, [], [], [], 0⟩ else ⟨11, [], [], offEnd 58 s, 0⟩
def made : List L → Ln
  | [a] => alone a
  | [a, b] => jumped a b
  | [a, b, c] => worked a b c
  | _ => zero
def get (w : List L) : Ln × Bool := if rightL (made w) && decide (wordsL (made w) = w) then (made w, true) else (zero, false)

end Go.Proofs.Ytbffjhdocicfoaa.OpsM
namespace Go.Proofs.Ytbffjhdocicfoaa
open Go.RowKit
set_option linter.unusedVariables false
open WordM (L)

/-- A text as a value. -/
def sv (l : L) : Value := .string ⟨l.toArray⟩
/-- What a slice owns it owns on, while nothing below its block's bound turns. -/
theorem own_below {base e size n : Nat} {w w' : World} {v : Value} {xs : List Value} (h : w.ownsRow base e size v n xs) (hb : Below w.heap.size w w') : w'.ownsRow base e size v n xs :=
  h.kept (row := none) ⟨hb.os, hb.tape, hb.output, hb.size, fun k hk _ => hb.block k hk⟩ (by
    rcases h.2 with ⟨rfl, _⟩ | ⟨g, cap, cur, rfl, _⟩
    · exact .inl rfl
    · right; simp [Value.ownBlock])
theorem own_base {base base' e size n : Nat} {w : World} {v : Value} {xs : List Value} (h : w.ownsRow base e size v n xs) (hb : base' ≤ base) : w.ownsRow base' e size v n xs := by
  obtain ⟨h0, h⟩ := h
  refine ⟨h0, ?_⟩
  rcases h with h | ⟨g, cap, cur, h1, h2, h3⟩
  · exact .inl h
  · exact .inr ⟨g, cap, cur, h1, by omega, h3⟩

/-- Behind an append onto what the call itself made: all that lay below stays. -/
theorem below_append {B base e size n : Nat} {W0 W w1 : World} {v : Value} {xs : List Value} (hB : Below B W0 W) (hown : W.ownsRow base e size v n xs) (hbb : B ≤ base) (hs : B ≤ W.heap.size) (hg : W.grownBy w1 v.ownBlock) : Below B W0 w1 := by
  refine hB.grown hg hs fun j ej => ?_
  have := hown.lt j ej
  omega
end Go.Proofs.Ytbffjhdocicfoaa
namespace Go.Proofs.Ytbffjhdocicfoaa
open Go.RowKit
set_option linter.unusedVariables false
set_option linter.unusedSimpArgs false
open WordM (L)

end Go.Proofs.Ytbffjhdocicfoaa
namespace Go.Proofs.Ytbffjhdocicfoaa.AtomM
open WordM (L)
open OpsM (regB)
set_option linter.unusedVariables false

structure At where
  t : Int
  nm : L
  n : Int
def asked (t : Int) (nm : L) : Bool := if t = -1 then WordM.nameB nm else (decide (0 ≤ t) && (decide (t < 3) && regB nm))
def before (c : UInt8) (l : L) : L := l.takeWhile (· != c)
def zero : At := ⟨0, [], 0⟩
def askedA (a : At) : Bool := asked a.t a.nm
end Go.Proofs.Ytbffjhdocicfoaa.AtomM
namespace Go.Proofs.Ytbffjhdocicfoaa
open Go.RowKit
set_option linter.unusedVariables false
set_option linter.unusedSimpArgs false
open WordM (L)

end Go.Proofs.Ytbffjhdocicfoaa
namespace Go.Proofs.Ytbffjhdocicfoaa
open Go.RowKit
set_option linter.unusedVariables false
set_option linter.unusedSimpArgs false
open WordM (L)

theorem kc {W w' : World} {g i : Nat} {v : Value} (hB : Below W.heap.size W w') (h : W.cell? ⟨g, i, none⟩ = some v) : w'.cell? ⟨g, i, none⟩ = some v := (hB.cell (p := ⟨g, i, none⟩) (lt_of_cell h)).trans h
theorem below_al {w a : World} (h : Below w.heap.size w a) (o : Obj) : Below w.heap.size w (a.alloc o) := h.alloc h.size o
end Go.Proofs.Ytbffjhdocicfoaa
