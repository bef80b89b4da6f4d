/-
  ROWS OF LINES in memory: what it says that a slice reads as lines; the small tests of package valid on one line.
  MAPS THAT COUNT NAMES: what it says that a map of the call's own holds, of each text, a number; valid.labels.
  PLAIN MATHEMATICS OF LAYER 4: what is wrong with a line of a thread.
  PLAIN MATHEMATICS OF LAYER 4: programs, and what is wrong with one first.
  PROGRAMS in memory: what it says that a value is a program, with its rows of cells, threads and atoms.
  ROWS OF LINES OF THE CALL's OWN: the cells of lines, one behind the other, and what they read as.
  APPEND AS ONE STEP OF A DRAWN REGION: a source that may be nil, onto a row of the call's own. Of no program.
  ROWS IN MEMORY, of elements of any number of cells: what it says that a slice reads as a row; rows of the call's own; copy over elements of more than one cell. Of no program.
-/
import Derived.Test.YtbffjhdocicfoaaK01
import Derived.Test.YtbffjhdocicfoaaK00
import Derived.Maps.Own
import Derived.Maps.OwnOps
import Derived.Maps.OwnSet
import Derived.Maps.Views
import Derived.Laws.AppendOwnNone
import Derived.Laws.OwnMore
import Derived.Deep.AppendLies
import Derived.WalkKit
import Derived.Laws.CopyRow
import Derived.Laws.CopyOwn
import Derived.Laws.IdiomCopy
import Derived.Deep.Fields
import Derived.SliceStrings
import Derived.ChangeSame
import Derived.OpenShut
import Derived.Maps.AppendAt
import Derived.RangeFuncBox
set_option linter.unusedVariables false
set_option linter.unusedSimpArgs false
namespace Go.Proofs.Ytbffjhdocicfoaa
open Go.RowKit
set_option linter.unusedVariables false
set_option linter.unusedSimpArgs false
open WordM (L)

end Go.Proofs.Ytbffjhdocicfoaa
namespace Go.Proofs.Ytbffjhdocicfoaa
open Go.RowKit Go.WideMaps Go.Maps
set_option linter.unusedVariables false
set_option linter.unusedSimpArgs false
open WordM (L)

theorem strKey : Keyed Try.prog 9 := string_keyed Try.underlying9
/-- How often a label stands in some lines. -/
def lcnt (ls : List OpsM.Ln) (s : L) : Nat := (ls.filter (fun l => decide (l.op = 11) && decide (l.label = s))).length
end Go.Proofs.Ytbffjhdocicfoaa
namespace Go.Proofs.Ytbffjhdocicfoaa.VM
open WordM (L)
open OpsM (Ln)
set_option linter.unusedVariables false

def insB (l : Ln) : Bool := !(l.op == 6) && !(l.op == 11)
def labB (l : Ln) : Bool := l.op == 11
def jmpB (l : Ln) : Bool := decide (8 ≤ l.op) && decide (l.op ≤ 10)
def cI (ls : List Ln) : Nat := (ls.filter insB).length
def cM (ls : List Ln) : Nat := (ls.filter labB).length
/-- Is the line right ahead of the k-th a fence? -/
def fenB (ls : List Ln) (k : Nat) : Bool := match k with | 0 => false | k + 1 => match ls[k]? with | some l => l.op == 6 | none => false
/-- What is wrong with the k-th line, x; 0, if nothing is. -/
def lineC (ls : List Ln) (k : Nat) (x : Ln) : Int :=
  if OpsM.rightL x = false then 11 else if x.op = 11 ∧ 0 < lcnt (ls.take k) x.label then 21 else if x.op = 6 ∧ fenB ls k = true then 23
  else if jmpB x = true ∧ lcnt (ls.drop (k + 1)) x.label = 0 then 22 else if (insB x = true ∧ 8 ≤ cI (ls.take k)) ∨ (x.op = 11 ∧ 8 ≤ cM (ls.take k)) then 5 else 0
end Go.Proofs.Ytbffjhdocicfoaa.VM
namespace Go.Proofs.Ytbffjhdocicfoaa.VM
open WordM (L)
open OpsM (Ln)
open AtomM (At)
set_option linter.unusedVariables false

structure Fl where
  name : L
  init : List (L × Int)
  ths : List (List Ln)
  cond : List At
  all : Bool

/-- The first place below n where g is not 0. -/
def firstAt (g : Nat → Int) : Nat → Option Nat
  | 0 => none
  | n + 1 => match firstAt g n with | some k => some k | none => if g n = 0 then none else some n
/-- What is wrong with the k-th cell; 0, if nothing is. -/
def cellC (cs : List (L × Int)) (k : Nat) : Int :=
  if WordM.nameB (cs.getD k ([], 0)).1 = false then 22 else if 0 < k ∧ (cs.getD k ([], 0)).1 ≤ (cs.getD (k - 1) ([], 0)).1 then 21 else 0
def cellsC (F : Fl) : Int := match firstAt (cellC F.init) F.init.length with | some k => cellC F.init k | none => if F.ths.length < 1 ∨ 3 < F.ths.length then 5 else 0
def frameC (F : Fl) : Int := if WordM.nameB F.name = false then 22 else cellsC F
def lnz : Ln := ⟨0, [], [], [], 0⟩
/-- What is wrong with the k-th line of a thread. -/
def lnC (ls : List Ln) (k : Nat) : Int := lineC ls k (ls.getD k lnz)
def thC (ls : List Ln) : Option Nat := firstAt (lnC ls) ls.length
def thG (ts : List (List Ln)) (i : Nat) : Int := if (thC (ts.getD i [])).isSome then 1 else 0
/-- The first wrong line of the first wrong thread: which thread, which line, what is wrong. -/
def lineF (ts : List (List Ln)) : Option (Nat × Nat × Int) :=
  match firstAt (thG ts) ts.length with | none => none | some i => match thC (ts.getD i []) with | none => none | some k => some (i, k, lnC (ts.getD i []) k)
/-- The same as three numbers; 0, 0 and 0, if there is none. -/
def lineT (ts : List (List Ln)) : Int × Int × Int := match lineF ts with | none => (0, 0, 0) | some (i, k, c) => ((i : Int), (k : Int), c)
/-- What is wrong with the k-th atom. -/
def atC (n : Nat) (am : List At) (k : Nat) : Int :=
  if 6 ≤ k then 5 else if AtomM.askedA (am.getD k AtomM.zero) = false then 1 else if (n : Int) ≤ (am.getD k AtomM.zero).t then 22 else 0
def atomT (n : Nat) (am : List At) : Int × Int × Int := match firstAt (atC n am) am.length with | none => (0, 0, 0) | some k => ((n : Int), (k : Int), atC n am k)
/-- A name is put among others, that rise. -/
def ins (s : L) : List L → List L
  | [] => [s]
  | x :: r => if s ≤ x then (if s = x then x :: r else s :: x :: r) else x :: ins s r
def put (l : List L) (s : L) : List L := if s = [] then l else ins s l
/-- The names of locations in lines, in threads, in atoms; all, one behind the other. -/
def lnames (ls : List Ln) : List L := (ls.map (·.loc)).filter (fun s => !decide (s = []))
def tnames : List (List Ln) → List L
  | [] => []
  | ls :: r => lnames ls ++ tnames r
def anames (am : List At) : List L := (am.filter (fun a => a.t == -1)).map (·.nm)
def names (F : Fl) : List L := F.init.map (·.1) ++ (tnames F.ths ++ anames F.cond)
def locs (F : Fl) : List L := (names F).foldl put []
def locC (F : Fl) : Int := if 4 < (locs F).length then 5 else 0
def chk (F : Fl) : Int × Int × Int :=
  if frameC F ≠ 0 then (-1, -1, frameC F) else if (lineT F.ths).2.2 ≠ 0 then lineT F.ths else if (atomT F.ths.length F.cond).2.2 ≠ 0 then atomT F.ths.length F.cond
  else if locC F ≠ 0 then (-1, -1, locC F) else (0, 0, 0)
def right (F : Fl) : Bool := (chk F).2.2 == 0
end Go.Proofs.Ytbffjhdocicfoaa.VM
namespace Go.Proofs.Ytbffjhdocicfoaa
open Go.RowKit
set_option linter.unusedVariables false
set_option linter.unusedSimpArgs false
open WordM (L)
open VM (Fl)

section
variable {B B' : Nat} {w w' : World} {v : Value}
end
/-- What a program must be for a machine to hold it. -/
structure FlOk (F : Fl) : Prop where
  name : F.name.length ≤ 100000
  init : ∀ c ∈ F.init, c.1.length ≤ 100000
  ths : ∀ ls ∈ F.ths, ls.length ≤ 100000 ∧ ∀ l ∈ ls, l.reg.length ≤ 100000 ∧ l.loc.length ≤ 100000 ∧ l.label.length ≤ 100000
  cond : ∀ a ∈ F.cond, a.nm.length ≤ 100000 ∧ NumM.inR a.t
  nums : F.init.length ≤ 100000 ∧ F.ths.length ≤ 100000 ∧ F.cond.length ≤ 100000
end Go.Proofs.Ytbffjhdocicfoaa
namespace Go.Proofs.Ytbffjhdocicfoaa
open Go.RowKit
set_option linter.unusedVariables false
set_option linter.unusedSimpArgs false
open WordM (L)
open OpsM (Ln)

/-- A nil slice has no room. -/
def NilZ (v : Value) : Prop := ∀ n c, v = .slice none n c → c = 0
end Go.Proofs.Ytbffjhdocicfoaa
namespace Go.Proofs.Ytbffjhdocicfoaa
open Go.RowKit
set_option linter.unusedVariables false
theorem step_append_src {P : Program} {w : World} {ops : Array Oper} {o : Oper} {a : Act} {K : Act → World → Prop} {Q : Exit → Act → World → Prop} {E : Prop} (hgd : o.guard = none) (s x : Operand) (t : TypeId)
    (ho : o.op = .call { callee := .builtin .append, args := #[s, x], argTypes := #[t, t] })
    (base : Nat) (e : TypeId) (i : TypeInfo) (z : Value) (size bytes : Nat) (ht : P.underlying t = some (.slice e)) (hi : P.info? e = some i) (hz : i.zero = some z)
    (hsize : i.size = size) (hby : i.bytes = bytes) (hzs : z.cells.size = size) (hsz : 0 < size)
    (v : Value) (n : Nat) (xs : List Value) (hs : a.eval s = v) (hown : w.ownsRow base e size v n xs)
    (A : Option Addr) (m c : Nat) (news : List Value) (hx : a.eval x = .slice A m c) (hl : news.length = m * size) (hnil : A = none → m = 0 ∧ c = 0) (hnews : ∀ ad, A = some ad → ∀ j u, news[j]? = some u → w.cell? (ad.add j) = some u) (h1 : ∀ u ∈ news, u.oneCell' = true)
    (h63 : n + m ≤ maxLen) (hbytes : (n + m) * bytes ≤ 140737488355328) (hbase : base ≤ w.heap.size)
    (h : ∀ v' w', w'.ownsRow base e size v' (n + m) (xs ++ news) → w.grownBy w' v.ownBlock → K (a.put o.dst v') w') :
    if Region.wanted o (yielded ops a.tmps) = true then Oper.wp P o a w K Q else E := by
  have hw : Region.wanted o (yielded ops a.tmps) = true := by simp [Region.wanted, hgd]
  rw [if_pos hw]
  cases A with
  | some ad => exact wp_append_own w s x t ho base e i z size bytes ht hi hz hsize hby hzs hsz v n xs hs hown ad m c news hx hl (hnews ad rfl) h1 h63 hbytes hbase (fun v' w' a b _ => h v' w' a b)
  | none =>
    obtain ⟨rfl, rfl⟩ := hnil rfl
    have : news = [] := List.eq_nil_of_length_eq_zero (by rw [hl]; simp)
    subst this
    have hr := run_append_owned_none (P := P) (w := w) base t o.type e i size ht hi v n xs hown
    unfold Oper.wp execOp
    simp only [ho, resolve, invoke, builtin, Sem.run_bind, Sem.run_pure, Result.andThen_ok, List.map_toArray, List.map_cons, List.map_nil, hs, hx, hr]
    exact h v w (by simpa using hown) ⟨rfl, rfl, rfl, Nat.le_refl _, fun _ _ _ => rfl⟩
theorem own_slice {w : World} {base : Nat} {e : TypeId} {size n : Nat} {v : Value} {xs : List Value} (h : w.ownsRow base e size v n xs) : ∃ A c, v = .slice A n c := by
  rcases h.2 with ⟨rfl, rfl⟩ | ⟨g, cap, cur, rfl, _⟩
  · exact ⟨_, _, rfl⟩
  · exact ⟨_, _, rfl⟩
end Go.Proofs.Ytbffjhdocicfoaa
namespace Go.Proofs.Ytbffjhdocicfoaa
open Go Go.ChangeShapes Go.WideShapes Go.RowKit Go.Deep
set_option linter.unusedVariables false
set_option linter.unusedSimpArgs false

section
variable {A : Type} {one : A → List Value} {s : Nat}
theorem fl_len (h : ∀ a, (one a).length = s) : ∀ l : List A, (l.flatMap one).length = l.length * s
  | [] => by simp
  | a :: r => by rw [List.flatMap_cons, List.length_append, h a, fl_len h r, List.length_cons, Nat.succ_mul, Nat.add_comm]
theorem fl_at (h : ∀ a, (one a).length = s) : ∀ (l : List A) (j i : Nat) (hj : j < l.length), i < s → (l.flatMap one)[j * s + i]? = (one l[j])[i]?
  | [], j, i, hj, _ => absurd hj (Nat.not_lt_zero j)
  | a :: r, 0, i, hj, hi => by rw [List.flatMap_cons, Nat.zero_mul, Nat.zero_add, List.getElem?_append_left (by rw [h a]; exact hi)]; rfl
  | a :: r, j + 1, i, hj, hi => by
    rw [List.flatMap_cons, List.getElem?_append_right (by rw [h a, Nat.succ_mul]; omega), h a, show (j + 1) * s + i - s = j * s + i by rw [Nat.succ_mul]; omega, fl_at h r j i (by simpa using hj) hi]; rfl
end
/-- The value v is a slice in a block below B that reads as the row xs; nil has no room. -/
def Rw {A : Type} (one : A → List Value) (s B : Nat) (w : World) (v : Value) (xs : List A) : Prop :=
  ∃ A c, v = .slice A xs.length c ∧ xs.length ≤ c ∧ c ≤ maxLen ∧ (A = none → xs.length = 0 ∧ c = 0) ∧
    (0 < xs.length → ∃ b f, A = some ⟨b, f, none⟩ ∧ b < B ∧ ∀ j u, (xs.flatMap one)[j]? = some u → w.cell? ⟨b, f + j, none⟩ = some u)
section
variable {A : Type} {one : A → List Value} {s : Nat}
theorem Rw.below {B : Nat} {w w' : World} {v : Value} {xs : List A} (h : Rw one s B w v xs) (hb : Below B w w') : Rw one s B w' v xs := by
  obtain ⟨A, c, e, h1, h2, h0, h3⟩ := h
  refine ⟨A, c, e, h1, h2, h0, fun k => ?_⟩
  obtain ⟨b, f, e2, h4, h5⟩ := h3 k
  exact ⟨b, f, e2, h4, fun j u hu => (hb.cell (p := ⟨b, f + j, none⟩) h4).trans (h5 j u hu)⟩
theorem Rw.more {B B' : Nat} {w : World} {v : Value} {xs : List A} (h : Rw one s B w v xs) (hb : B ≤ B') : Rw one s B' w v xs := by
  obtain ⟨A, c, e, h1, h2, h0, h3⟩ := h
  refine ⟨A, c, e, h1, h2, h0, fun k => ?_⟩
  obtain ⟨b, f, e2, h4, h5⟩ := h3 k
  exact ⟨b, f, e2, by omega, h5⟩
theorem Rw.own {w : World} {base B : Nat} {T : TypeId} {v : Value} {l : List A} (ho : w.ownsRow base T s v l.length (l.flatMap one)) (hB : w.heap.size ≤ B) : Rw one s B w v l := by
  rcases id ho.2 with ⟨rfl, h0⟩ | ⟨g, cap, cur, rfl, hbg, hg, hnc, hcm, hcs, htake⟩
  · exact ⟨none, 0, by rw [h0], by omega, by decide, fun _ => ⟨h0, rfl⟩, fun k => absurd k (by omega)⟩
  · refine ⟨_, cap, rfl, hnc, hcm, fun e => (by cases e), fun _ => ⟨g, 0, rfl, by have := (Array.getElem?_eq_some_iff.1 hg).1; omega, fun j u hu => ?_⟩⟩
    have hj : j < l.length * s := by have := (List.getElem?_eq_some_iff.1 hu).1; rw [ho.1] at this; exact this
    rw [Nat.zero_add, ho.cellAt j hj, hu]
end
theorem wpList_append_rw {P : Program} (w : World) {ops : Array Oper} {rest : List Oper} {o : Oper} {a : Act} {Q : Exit → Act → World → Prop} (hgd : o.guard = none) (s x : Operand) (t : TypeId)
    (ho : o.op = .call { callee := .builtin .append, args := #[s, x], argTypes := #[t, t] })
    (base : Nat) (e : TypeId) (i : TypeInfo) (z : Value) (size bytes : Nat) (ht : P.underlying t = some (.slice e)) (hi : P.info? e = some i) (hz : i.zero = some z)
    (hsize : i.size = size) (hby : i.bytes = bytes) (hzs : z.cells.size = size) (hsz : 0 < size)
    (v : Value) (n : Nat) (xs : List Value) (hs : a.eval s = v) (hown : w.ownsRow base e size v n xs)
    (A : Option Addr) (m c : Nat) (news : List Value) (hx : a.eval x = .slice A m c) (hl : news.length = m * size) (hnil : A = none → m = 0 ∧ c = 0) (hnews : ∀ ad, A = some ad → ∀ j u, news[j]? = some u → w.cell? (ad.add j) = some u) (h1 : ∀ u ∈ news, u.oneCell' = true)
    (h63 : n + m ≤ maxLen) (hbytes : (n + m) * bytes ≤ 140737488355328) (hbase : base ≤ w.heap.size)
    (h : ∀ v' w', w'.ownsRow base e size v' (n + m) (xs ++ news) → w.grownBy w' v.ownBlock → wpList P ops Q rest (a.put o.dst v') w') :
    wpList P ops Q (o :: rest) a w := by
  cases A with
  | some ad => exact wpList_append_own w hgd s x t ho base e i z size bytes ht hi hz hsize hby hzs hsz v n xs hs hown ad m c news hx hl (hnews ad rfl) h1 h63 hbytes hbase (fun v' w' a b _ => h v' w' a b)
  | none =>
    obtain ⟨rfl, rfl⟩ := hnil rfl
    have : news = [] := List.eq_nil_of_length_eq_zero (by rw [hl]; simp)
    subst this
    have hr := run_append_owned_none (P := P) (w := w) base t o.type e i size ht hi v n xs hown
    refine wpList_plain hgd fun K hK => ?_
    unfold Oper.wp execOp
    simp only [ho, resolve, invoke, builtin, Sem.run_bind, Sem.run_pure, Result.andThen_ok, List.map_toArray, List.map_cons, List.map_nil, hs, hx, hr]
    exact hK _ _ (h v w (by simpa using hown) ⟨rfl, rfl, rfl, Nat.le_refl _, fun _ _ _ => rfl⟩)
/-- copy over elements of any size, into the head of a row that is known whole. -/
theorem run_copy_s (P : Program) (w : World) (dT sT ty elem : TypeId) (g dLen dCap : Nat) (A : Option Addr) (sLen sCap s : Nat) (cur : Array Value) (t : TypeId) (cs : List Value)
    (hu : P.underlying dT = some (.slice elem)) (hs : (P.info? elem).map (·.size) = some s)
    (hg : w.heap[g]? = some (.cells cur t (0, 0))) (hn : cs.length = Nat.min sLen dLen * s)
    (hA : A = none → cs = []) (hsrc : ∀ ad, A = some ad → ∀ j v, cs[j]? = some v → w.cell? (ad.add j) = some v) (hfit : cs.length ≤ cur.size) (h1 : ∀ v ∈ cs, v.oneCell' = true) :
    (Builtin.copy_ #[dT, sT] ty #[.slice (some ⟨g, 0, none⟩) dLen dCap, .slice A sLen sCap]).run P w =
      .ok (goInt (Nat.min sLen dLen)) (w.setRow g (cs ++ cur.toList.drop cs.length).toArray) := by
  have hst := run_storeCells_at P g 0 t cs 0 cur w hg (by simpa using hfit) h1
  cases hq : P.info? elem with
  | none => simp [hq] at hs
  | some i =>
    have hi : i.size = s := by simpa [hq] using hs
    cases A with
    | some a =>
      have hl := run_loadCells_list (P := P) w a cs (hsrc a rfl)
      simp [Builtin.copy_, run_underlying hu, Builtin.lenOf, Builtin.firstCells, sizeOf, typeInfo, hq, hi, ← hn, hl, hst]
    | none =>
      obtain rfl := hA rfl
      have hz : 0 = Nat.min sLen dLen * s := by simpa using hn
      simp at hst
      simp [Builtin.copy_, run_underlying hu, Builtin.lenOf, Builtin.firstCells, sizeOf, typeInfo, hq, hi, ← hz, storeCells]
      exact (setRow_self w g cur t (0, 0) hg).symm
theorem wpList_copy_s {P : Program} {w : World} {ops : Array Oper} {rest : List Oper} {o : Oper} {a : Act} {Q : Exit → Act → World → Prop} (hgd : o.guard = none) (d s : Operand) (dT sT : TypeId)
    (ho : o.op = .call { callee := .builtin .copy, args := #[d, s], argTypes := #[dT, sT] }) (elem : TypeId) (hu : P.underlying dT = some (.slice elem)) (sz : Nat) (hsz : (P.info? elem).map (·.size) = some sz)
    (g dLen dCap : Nat) (A : Option Addr) (sLen sCap : Nat) (hd : a.eval d = .slice (some ⟨g, 0, none⟩) dLen dCap) (hs : a.eval s = .slice A sLen sCap)
    (cur : Array Value) (t : TypeId) (hg : w.heap[g]? = some (.cells cur t (0, 0))) (cs : List Value) (hn : cs.length = Nat.min sLen dLen * sz)
    (hA : A = none → cs = []) (hsrc : ∀ ad, A = some ad → ∀ j v, cs[j]? = some v → w.cell? (ad.add j) = some v) (hfit : cs.length ≤ cur.size) (h1 : ∀ v ∈ cs, v.oneCell' = true)
    (h : wpList P ops Q rest (a.put o.dst (goInt (Nat.min sLen dLen))) (w.setRow g (cs ++ cur.toList.drop cs.length).toArray)) : wpList P ops Q (o :: rest) a w := by
  refine wpList_plain hgd fun K hK => ?_
  have hrun := run_copy_s P w dT sT o.type elem g dLen dCap A sLen sCap sz cur t cs hu hsz hg hn hA hsrc hfit h1
  unfold Oper.wp
  simp [execOp, ho, resolve, invoke, builtin, hd, hs, hrun, Result.andThen]
  exact hK _ _ h
end Go.Proofs.Ytbffjhdocicfoaa
