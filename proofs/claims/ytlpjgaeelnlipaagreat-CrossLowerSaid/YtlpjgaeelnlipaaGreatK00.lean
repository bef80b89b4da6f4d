/-
  A LAW IS SHUT IN ONE STEP: where the call returned true, and below the heap's old size nothing has turned, what the row asks behind the call holds, whatever the types of the arguments.
  PLAIN MATHEMATICS OF TEXTS: what lines and words are, over lists of bytes. It imports nothing of the program.
  PLAIN MATHEMATICS OF LAYER 1: decimal texts as lists of bytes, and the number that the bytes of a text make, wrapped round to 64 bits.
  SMALL FACTS that many texts of the seat use. Of no function of the program.
  PLAIN MATHEMATICS OF NAMES: which texts are registers, keys and names. It imports nothing of the program.
  names and registers of package word, over any world.
  PLAIN MATHEMATICS OF LAYER 3: lines and atoms, their words, and what words are.
  SLICES OF STRINGS: what it says that a value is a slice whose cells are given texts; what a call says that hands one back. Of no function of the program.
  WHICH LINES ARE RIGHT: the kinds' own tests, and which kind a line is of, over any world that holds the registers.
  PLAIN MATHEMATICS OF LAYER 3: atoms, their words, and what words are.
  SMALL FACTS on boxes: a struct's memory behind calls that make memory alone. Of no function of the program.
  ATOMS as values; ops.Asked, over any world that holds the registers.
-/
import Derived.Carry
import Derived.ProofKit
import Derived.Lib.Strings
import Derived.Lib.Bytealg
import Derived.IntWalk
import Derived.Test.YtlpjgaeelnlipaaGreatRows
import Derived.WalkKit
import Derived.WalkSpells
import Derived.WalkLawsBesides
import Derived.Lib.Hide
import Derived.Laws.BytesArg
import Derived.Laws.Concat
import Derived.OpenShut
import Derived.Deep.QuietTactic
import Derived.BigQuiet
import Derived.LoopTactic
import Derived.RegionTactic
import Derived.Maps.AppendAt
import Derived.RangeFuncBox
import Derived.StillTailTactics
import Derived.Deep.RegionHeld3
set_option linter.unusedVariables false
set_option linter.unusedSimpArgs false
namespace Go.Proofs.YtlpjgaeelnlipaaGreat
open Go.ChangeShapes Go.WideShapes Go.ChangeAt Go.RowKit

theorem args_below {H : Type} {enc : TypeId × Value → H} {P : Program} (hl : laidOutB P = true) {W W' : World} (hb : Below W.heap.size W W') :
    ∀ {ts : List TypeId} {vs : List Value} {ds : List (DataW H)} {ps : List MemPlace}, (ts.all fun t => P.readableRec t && decide (t < P.types.size)) = true → (∀ x ∈ ps, x.block < W.heap.size) →
      DataW.TrodAll enc P W 0 (fun _ => true) true ts vs ds ps → DataW.TrodAll enc P W' 0 (fun b => decide (b < W.heap.size)) true ts vs ds ps
  | [], [], [], _, _, _, h => h
  | t :: ts, v :: vs, d :: ds, ps, hr, hlt, h => by
    obtain ⟨p, q, h1, h2, e⟩ := h
    subst e
    simp only [List.all_cons, Bool.and_eq_true, decide_eq_true_eq] at hr
    exact ⟨p, q, Below.trod hl hr.1.1 hr.1.2 h1 hb (fun x hx => hlt x (List.mem_append_left _ hx)), args_below hl hb hr.2 (fun x hx => hlt x (List.mem_append_right _ hx)) h2, rfl⟩
  | [], [], _ :: _, _, _, _, h => h.elim
  | [], _ :: _, _, _, _, _, h => h.elim
  | _ :: _, [], _, _, _, _, h => h.elim
  | _ :: _, _ :: _, [], _, _, _, h => h.elim

theorem post_law {H : Type} {enc : TypeId × Value → H} {P : Program} (hl : laidOutB P = true) {f : Func} {s : ChangeSpec} {W W' : World} {args : Array Value} {ds gs : List (DataW H)} {before : List MemPlace} {tb : TypeId}
    (hsv : s.vars = []) (hrt : f.resultTypes = #[tb]) (htb : P.underlying tb = some .bool)
    (hps : (f.params.toList.all fun t => P.readableRec t && decide (t < P.types.size)) = true)
    (hW : DataW.Whole enc P f.params.toList s.vars false W args.toList ds gs before)
    (hfn : ∀ gs : List (DataW H), gs = [] → s.fn H (ds ++ gs) = { results := [.lit (.bool true)], args := ds })
    (hB : Below W.heap.size W W') : s.post enc P f false true false false W args (.bool true) W' := by
  have hlt := hW.lt
  have hW2 := hW
  obtain ⟨p, q, hA, hV, e, _, _⟩ := hW
  rw [hsv] at hV
  have hg : gs = [] ∧ q = [] := by
    cases gs with
    | nil => exact ⟨rfl, hV⟩
    | cons _ _ => exact hV.elim
  obtain ⟨rfl, rfl⟩ := hg
  have hf := hfn [] rfl
  refine ⟨ds, [], before, [], p, [], hW2, ?_, ?_, ?_, hB.frame _, fun h => by cases h⟩
  · rw [hf, hrt]
    exact trodAll_mk1 (shut_bool htb true)
  · rw [hf]
    exact args_below hl hB hps (fun x hx => hlt x (by rw [e]; simp [hx])) hA
  · rw [hf, hsv]
    rfl

end Go.Proofs.YtlpjgaeelnlipaaGreat
namespace Go.Proofs.YtlpjgaeelnlipaaGreat.WordM
abbrev L := List UInt8

def consHd (b : UInt8) : List L → List L
  | [] => [[b]]
  | h :: t => (b :: h) :: t
/-- What stands between the bytes c, the last one too. -/
def split (c : UInt8) : L → List L
  | [] => [[]]
  | b :: l => if b = c then [] :: split c l else consHd b (split c l)
/-- The same, but for a last one that is empty. -/
def chunks (c : UInt8) : L → List L
  | [] => []
  | b :: l => if b = c then [] :: chunks c l else consHd b (chunks c l)
def full (l : L) : Bool := !l.isEmpty
def words (s : L) : List L := (chunks 32 s).filter full

end Go.Proofs.YtlpjgaeelnlipaaGreat.WordM
namespace Go.Proofs.YtlpjgaeelnlipaaGreat
open Go.RowKit
namespace NumM

/-- The digits of a number, by fuel. -/
def digsF : Nat → Nat → List UInt8
  | 0, _ => []
  | f + 1, n => if n ≤ 9 then [UInt8.ofNat (48 + n)] else digsF f (n / 10) ++ [UInt8.ofNat (48 + n % 10)]

def digs (n : Nat) : List UInt8 := digsF 20 n

/-- A number's text. -/
def text (n : Int) : List UInt8 := if n < 0 then 45 :: digs n.natAbs else digs n.natAbs

def inR (n : Int) : Prop := -9223372036854775808 ≤ n ∧ n ≤ 9223372036854775807

/-- One step of 'made'. -/
def mstep (n : Int) (c : UInt8) : Int := wrap64 (wrap64 (10 * n) + ((c.toNat : Int) - 48) % 256)

def madeD (l : List UInt8) : Int := l.foldl mstep 0

def made : List UInt8 → Int
  | [] => 0
  | c :: r => if c = 45 then wrap64 (-madeD r) else madeD (c :: r)

/-- The number of a text, and whether it is one's. -/
def get (l : List UInt8) : Int × Bool := if text (made l) = l then (made l, true) else (0, false)

end NumM
end Go.Proofs.YtlpjgaeelnlipaaGreat
namespace Go.Proofs.YtlpjgaeelnlipaaGreat
open Go.RowKit
open WordM (L)
theorem ret_int {k : IntKind} {a b : Int} (h : a = b) : Ending.returned (.int k a) = .returned (.int k b) := by rw [h]
/-- Frames' literals, in short (walks of regions by hand). -/
theorem pt8 : type_of% (And.intro @List.getElem_toArray.{0} (And.intro @List.getElem_cons_zero.{0} (And.intro @List.getElem_cons_succ.{0} (And.intro @Array.getInternal_eq_getElem.{0} (And.intro @List.setIfInBounds_toArray.{0} (And.intro @List.set_cons_zero.{0} @List.set_cons_succ.{0})))))) := ⟨@List.getElem_toArray, @List.getElem_cons_zero, @List.getElem_cons_succ, @Array.getInternal_eq_getElem, @List.setIfInBounds_toArray, @List.set_cons_zero, @List.set_cons_succ⟩
theorem chain {w a b : World} (h : Below w.heap.size w a) (k : Below a.heap.size a b) : Below w.heap.size w b := h.trans (k.mono h.size)
theorem below_drewN {B : Nat} {a w : World} (h : Below B a w) (n : Nat) : Below B a (w.drewN n) := ⟨h.os, h.tape, h.output, h.size, h.block⟩
end Go.Proofs.YtlpjgaeelnlipaaGreat
namespace Go.Proofs.YtlpjgaeelnlipaaGreat.WordM

def letterB (b : UInt8) : Bool := decide (97 ≤ b.toNat) && decide (b.toNat ≤ 122)
def digitB (b : UInt8) : Bool := decide (48 ≤ b.toNat) && decide (b.toNat ≤ 57)
def alnum (b : UInt8) : Bool := letterB b || digitB b
def speltB (l : L) : Bool := decide (l ≠ []) && decide (l.length ≤ 8) && letterB (l.headD 0) && l.all alnum
def regL (n : Nat) : L := match n with | 0 => [101, 97, 120] | 1 => [101, 98, 120] | 2 => [101, 99, 120] | 3 => [101, 100, 120] | _ => []
def regNo (l : L) : Int := if l = regL 0 then 0 else if l = regL 1 then 1 else if l = regL 2 then 2 else if l = regL 3 then 3 else -1
def keys : List L := [[120, 56, 54], [105, 110, 105, 116], [116, 104, 114, 101, 97, 100], [109, 111, 118], [120, 99, 104, 103], [109, 102, 101, 110, 99, 101], [99, 109, 112], [106, 109, 112], [106, 101], [106, 110, 101], [101, 120, 105, 115, 116, 115], [102, 111, 114, 97, 108, 108]]
def keyB (l : L) : Bool := decide (l ∈ keys)
def nameB (l : L) : Bool := speltB l && decide (regNo l < 0) && !keyB l

end Go.Proofs.YtlpjgaeelnlipaaGreat.WordM
namespace Go.Proofs.YtlpjgaeelnlipaaGreat
open Go.RowKit
open WordM (L)
end Go.Proofs.YtlpjgaeelnlipaaGreat
namespace Go.Proofs.YtlpjgaeelnlipaaGreat.OpsM
open WordM (L)

structure Ln where
  op : Int
  reg : L
  loc : L
  label : L
  n : Int

def kmov : L := [109, 111, 118]
def kxchg : L := [120, 99, 104, 103]
def kmfence : L := [109, 102, 101, 110, 99, 101]
def kcmp : L := [99, 109, 112]
def kjmp : L := [106, 109, 112]
def kje : L := [106, 101]
def kjne : L := [106, 110, 101]
def brk (o : L) : L := 91 :: (o ++ [93])
def col (b : L) : L := b ++ [58]
def regB (r : L) : Bool := decide (0 ≤ WordM.regNo r)
def emp (r : L) : Bool := decide (r = [])
def nil0 (n : Int) : Bool := decide (n = 0)

/-- What the kinds' own tests say. -/
def okNum (r o b : L) : Bool := regB r && (emp o && emp b)
def okLoc (r o b : L) (n : Int) : Bool := regB r && (WordM.nameB o && (emp b && nil0 n))
def okLab (r o b : L) (n : Int) : Bool := WordM.nameB b && (emp r && (emp o && nil0 n))
def okPut (r o b : L) : Bool := WordM.nameB o && (emp r && emp b)
def okFen (r o b : L) (n : Int) : Bool := emp r && (emp o && (emp b && nil0 n))
def right (op : Int) (r o b : L) (n : Int) : Bool :=
  if op = 1 then okNum r o b else if op = 2 then okLoc r o b n else if op = 3 then okLoc r o b n else if op = 4 then okPut r o b
  else if op = 5 then okLoc r o b n else if op = 6 then okFen r o b n else if op = 7 then okNum r o b
  else if op = 8 then okLab r o b n else if op = 9 then okLab r o b n else if op = 10 then okLab r o b n else if op = 11 then okLab r o b n else false
def rightL (l : Ln) : Bool := right l.op l.reg l.loc l.label l.n

def wordsR (op : Int) (r o b : L) (n : Int) : List L :=
  if op = 1 then [kmov, r, NumM.text n] else if op = 2 then [kmov, r, brk o] else if op = 3 then [kmov, brk o, r] else if op = 4 then [kmov, brk o, NumM.text n]
  else if op = 5 then [kxchg, brk o, r] else if op = 6 then [kmfence] else if op = 7 then [kcmp, r, NumM.text n]
  else if op = 8 then [kjmp, b] else if op = 9 then [kje, b] else if op = 10 then [kjne, b] else [col b]
def words (op : Int) (r o b : L) (n : Int) : List L := if right op r o b n then wordsR op r o b n else []
def wordsL (l : Ln) : List L := words l.op l.reg l.loc l.label l.n

/-- A suffix, or a prefix, of one byte, taken off. -/
def offEnd (c : UInt8) (s : L) : L := if s.getLast? = some c then s.dropLast else s
def offHead (c : UInt8) (s : L) : L := if s.head? = some c then s.tail else s
def inside (s : L) : L := offEnd 93 (offHead 91 s)

def zero : Ln := ⟨0, [], [], [], 0⟩
def moved (to fr : L) : Ln :=
  if (NumM.get fr).2 then (if regB to then ⟨1, to, [], [], (NumM.get fr).1⟩ else ⟨4, [], inside to, [], (NumM.get fr).1⟩)
  else if regB to then ⟨2, to, inside fr, [], 0⟩ else ⟨3, fr, inside to, [], 0⟩
def worked (f to fr : L) : Ln :=
  if f = kmov then moved to fr else if f = kxchg then ⟨5, fr, inside to, [], 0⟩ else if f = kcmp then ⟨7, to, [], [], (NumM.get fr).1⟩ else zero
def jumped (f to : L) : Ln := if f = kjmp then ⟨8, [], [], to, 0⟩ else if f = kje then ⟨9, [], [], to, 0⟩ else if f = kjne then ⟨10, [], [], to, 0⟩ else zero
def alone (s : L) : Ln := if s = kmfence then ⟨6, [], [], [], 0⟩ else ⟨11, [], [], offEnd 58 s, 0⟩
def made : List L → Ln
  | [a] => alone a
  | [a, b] => jumped a b
  | [a, b, c] => worked a b c
  | _ => zero
def get (w : List L) : Ln × Bool := if rightL (made w) && decide (wordsL (made w) = w) then (made w, true) else (zero, false)

end Go.Proofs.YtlpjgaeelnlipaaGreat.OpsM
namespace Go.Proofs.YtlpjgaeelnlipaaGreat
open Go.RowKit
open WordM (L)

/-- A text as a value. -/
def sv (l : L) : Value := .string ⟨l.toArray⟩
/-- What a slice owns it owns on, while nothing below its block's bound turns. -/
theorem own_below {base e size n : Nat} {w w' : World} {v : Value} {xs : List Value} (h : w.ownsRow base e size v n xs) (hb : Below w.heap.size w w') : w'.ownsRow base e size v n xs :=
  h.kept (row := none) ⟨hb.os, hb.tape, hb.output, hb.size, fun k hk _ => hb.block k hk⟩ (by
    rcases h.2 with ⟨rfl, _⟩ | ⟨g, cap, cur, rfl, _⟩
    · exact .inl rfl
    · right; simp [Value.ownBlock])
theorem own_base {base base' e size n : Nat} {w : World} {v : Value} {xs : List Value} (h : w.ownsRow base e size v n xs) (hb : base' ≤ base) : w.ownsRow base' e size v n xs := by
  obtain ⟨h0, h⟩ := h
  refine ⟨h0, ?_⟩
  rcases h with h | ⟨g, cap, cur, h1, h2, h3⟩
  · exact .inl h
  · exact .inr ⟨g, cap, cur, h1, by omega, h3⟩

/-- Behind an append onto what the call itself made: all that lay below stays. -/
theorem below_append {B base e size n : Nat} {W0 W w1 : World} {v : Value} {xs : List Value} (hB : Below B W0 W) (hown : W.ownsRow base e size v n xs) (hbb : B ≤ base) (hs : B ≤ W.heap.size) (hg : W.grownBy w1 v.ownBlock) : Below B W0 w1 := by
  refine hB.grown hg hs fun j ej => ?_
  have := hown.lt j ej
  omega
end Go.Proofs.YtlpjgaeelnlipaaGreat
namespace Go.Proofs.YtlpjgaeelnlipaaGreat
open Go.RowKit
open WordM (L)

end Go.Proofs.YtlpjgaeelnlipaaGreat
namespace Go.Proofs.YtlpjgaeelnlipaaGreat.AtomM
open WordM (L)
open OpsM (regB)

structure At where
  t : Int
  nm : L
  n : Int
def asked (t : Int) (nm : L) : Bool := if t = -1 then WordM.nameB nm else (decide (0 ≤ t) && (decide (t < 3) && regB nm))
def before (c : UInt8) (l : L) : L := l.takeWhile (· != c)
def zero : At := ⟨0, [], 0⟩
def askedA (a : At) : Bool := asked a.t a.nm
end Go.Proofs.YtlpjgaeelnlipaaGreat.AtomM
namespace Go.Proofs.YtlpjgaeelnlipaaGreat
open Go.RowKit
/-- What a box had when it was made it has behind calls that make memory alone. -/
theorem kept_box {w w1 : World} {cs : Array Value} {T : TypeId} (hB : Below (w.alloc (.cells cs T)).heap.size (w.alloc (.cells cs T)) w1) (i : Nat) {v : Value} (h : cs[i]? = some v) :
    w1.cell? ⟨w.heap.size, i, none⟩ = some v ∧ w1.frozen? ⟨w.heap.size, i, none⟩ = false := by
  refine ⟨(hB.cell (p := ⟨w.heap.size, i, none⟩) (by simp)).trans ?_, (hB.frozen (p := ⟨w.heap.size, i, none⟩) (by simp)).trans ?_⟩
  · rw [World.cell?_alloc_at _ _ _ _ rfl]; exact h
  · rw [World.frozen?_alloc_at _ _ _ _ rfl]
theorem lt_of_cell {W : World} {g i : Nat} {v : Value} (h : W.cell? ⟨g, i, none⟩ = some v) : g < W.heap.size := by
  rcases Nat.lt_or_ge g W.heap.size with k | k
  · exact k
  · simp [World.cell?, Array.getElem?_eq_none k] at h
end Go.Proofs.YtlpjgaeelnlipaaGreat
namespace Go.Proofs.YtlpjgaeelnlipaaGreat
open Go.RowKit
open WordM (L)

end Go.Proofs.YtlpjgaeelnlipaaGreat
