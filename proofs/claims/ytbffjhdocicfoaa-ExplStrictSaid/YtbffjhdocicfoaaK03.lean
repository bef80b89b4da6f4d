/-
  ARGUMENTS THAT ARE LINES AND ATOMS, by value: what their cells hold.
  valid.frameFault: what is wrong with the name, the cells and how many threads there are.
  A THREAD'S READER, line by line: what it answers of a line that stands behind right ones, and what it holds then.
  valid.lineFault: the first wrong line of the first wrong thread.
  THE LAWS' Great: is a program too much? Where it is not, all is small.
  ARGUMENTS THAT ARE PROGRAMS: what their cells hold.
  WRITES ON THEIR WAY, as mathematics: the last one, what is viewed, what comes there.
  ROWS OF WRITES AND OF NUMBERS in memory, and what a law's arguments hold.
-/
import Derived.Test.YtbffjhdocicfoaaK01
import Derived.Deep.Fields
import Derived.SliceStrings
import Derived.Test.YtbffjhdocicfoaaK00
import Derived.ChangeSame
import Derived.OpenShut
import Derived.Test.YtbffjhdocicfoaaK02
set_option linter.unusedVariables false
set_option linter.unusedSimpArgs false
namespace Go.Proofs.Ytbffjhdocicfoaa
open Go Go.ChangeShapes Go.WideShapes Go.RowKit Go.Deep
set_option linter.unusedVariables false
set_option maxRecDepth 100000
set_option linter.unusedSimpArgs false

section
variable {H : Type} {enc : TypeId × Value → H} {P : Program} {w : World} {base : Nat} {spare : Nat → Bool} {held : Bool}
/-- A struct of one-cell fields, however many. -/
theorem open_fields {r : Reach} {b0 : Nat} {t : TypeId} {fs : Array Field} {v : Value} {d : DataW H} {p : List MemPlace} (hs : P.underlying t = some (.struct fs)) (hone : oneCellFields P fs = true) (hC : P.cellsOf t = fs.size)
    (hv : Value.okWide P w r b0 t v) (h : DataW.Trod enc P w base spare held t v d p) :
    ∃ cs : Array Value, v = .agg cs ∧ cs.size = fs.size ∧ ∀ (j : Nat) (f : Field), fs[j]? = some f → ∃ (x : Value) (y : DataW H × List MemPlace) (n : Nat), cs[j]? = some x ∧ DataW.trod enc P w base spare held n f.type [x] = some y := by
  obtain ⟨cs, rfl, hsz⟩ := okWide_struct hs hv
  obtain ⟨fuel, hf⟩ := h
  obtain ⟨xs, n, _, _, _, hlen, hg⟩ := DataW.trod_struct hs hf
  refine ⟨cs, rfl, hsz.trans hC, fun j f hj => ?_⟩
  obtain ⟨ho, hk⟩ := hone_of hone j f hj
  have hjl : j < fs.size := (Array.getElem?_eq_some_iff.1 hj).1
  have hjc : j < cs.size := by rw [hsz, hC]; exact hjl
  have h1 := hg j f hj
  rw [ho, hk] at h1
  have h2 : (((Value.agg cs).cells.toList).drop j).take 1 = [cs[j]] := by
    show (cs.toList.drop j).take 1 = _
    rw [List.drop_eq_getElem_cons (by simpa using hjc)]
    rfl
  have hx : xs[j]? = some (xs[j]'(by omega)) := List.getElem?_eq_getElem (by omega)
  rw [h2] at h1
  exact ⟨cs[j], xs[j]'(by omega), n, Array.getElem?_eq_getElem hjc, h1.trans hx⟩
end

theorem int_cell {H : Type} {enc : TypeId × Value → H} {P : Program} {w : World} {base : Nat} {spare : Nat → Bool} {held : Bool} {t : TypeId} {x : Value} {y : DataW H × List MemPlace} {n : Nat} (ht : P.underlying t = some (.int .i64))
    (h : DataW.trod enc P w base spare held n t [x] = some y) : ∃ k, x = .int .i64 k ∧ NumM.inR k := by
  obtain ⟨k, e, _, hw⟩ := DataW.trod_int ht h
  injection e with e _
  exact ⟨k, e, bounds_i64 hw⟩
theorem cell_spot {w : World} {a : Addr} {v : Value} (h : w.cell? a = some v) : a.spot = none := by
  unfold World.cell? at h
  cases hs : a.spot with
  | none => rfl
  | some q =>
    rw [hs] at h
    split at h <;> simp at h
end Go.Proofs.Ytbffjhdocicfoaa
namespace Go.Proofs.Ytbffjhdocicfoaa
open Go.RowKit
set_option linter.unusedVariables false
set_option linter.unusedSimpArgs false
open WordM (L)
open VM

end Go.Proofs.Ytbffjhdocicfoaa
namespace Go.Proofs.Ytbffjhdocicfoaa
open Go.RowKit Go.WideMaps Go.Maps
set_option linter.unusedVariables false
set_option linter.unusedSimpArgs false
open WordM (L)
open VM

end Go.Proofs.Ytbffjhdocicfoaa
namespace Go.Proofs.Ytbffjhdocicfoaa
open Go.RowKit Go.WideMaps Go.Maps
set_option linter.unusedVariables false
set_option linter.unusedSimpArgs false
open WordM (L)
open VM

end Go.Proofs.Ytbffjhdocicfoaa
namespace Go.Proofs.Ytbffjhdocicfoaa
open Go.RowKit
set_option linter.unusedVariables false
set_option linter.unusedSimpArgs false
open WordM (L)
open VM

structure Small (F : Fl) : Prop where
  n1 : F.ths.length ≤ 9
  n2 : F.init.length ≤ 60
  n3 : F.cond.length ≤ 60
  name : F.name.length ≤ 1000
  init : ∀ j (h : j < F.init.length), F.init[j].1.length ≤ 100
  cond : ∀ j (h : j < F.cond.length), F.cond[j].nm.length ≤ 100
  ths : ∀ j (h : j < F.ths.length), F.ths[j].length ≤ 100 ∧ ∀ l ∈ F.ths[j], l.reg.length ≤ 1000 ∧ l.loc.length ≤ 1000 ∧ l.label.length ≤ 1000
end Go.Proofs.Ytbffjhdocicfoaa
namespace Go.Proofs.Ytbffjhdocicfoaa
open Go Go.ChangeShapes Go.WideShapes Go.RowKit Go.Deep
set_option linter.unusedVariables false
set_option maxRecDepth 100000
set_option linter.unusedSimpArgs false
open WordM (L)
open VM

theorem list_of {α : Type} {P : Nat → α → Prop} : ∀ {n : Nat}, (∀ i, i < n → ∃ x, P i x) → ∃ xs : List α, xs.length = n ∧ ∀ i (h : i < xs.length), P i xs[i]
  | 0, _ => ⟨[], rfl, fun i h => absurd h (Nat.not_lt_zero i)⟩
  | n + 1, h => by
    obtain ⟨xs, hl, hx⟩ := list_of (fun i hi => h i (Nat.lt_succ_of_lt hi))
    obtain ⟨x, hx0⟩ := h n (Nat.lt_succ_self n)
    refine ⟨xs ++ [x], by simp [hl], fun i hi => ?_⟩
    by_cases e : i < xs.length
    · rw [List.getElem_append_left e]; exact hx i e
    · have e2 : i = xs.length := by simp at hi; omega
      subst e2
      rw [List.getElem_append_right (Nat.le_refl _)]
      simpa [hl] using hx0
section
variable {H : Type} {enc : TypeId × Value → H} {P : Program} {w : World} {base : Nat} {spare : Nat → Bool} {held : Bool}
/-- A row whose elements are what a test says of their cells. -/
theorem open_row {α : Type} {n : Nat} {t e : TypeId} {fuel : Nat} {v : Value} {x : DataW H × List MemPlace} (Pr : Nat → Nat → α → Prop) (ht : P.underlying t = some (.slice e)) (hn : P.cellsOf e = n) (hpos : 0 < n)
    (elem : ∀ (b off : Nat) (cs : List Value) (y : DataW H × List MemPlace) (k : Nat), cs.length = n → (∀ i, i < n → w.cell? ⟨b, off + i, none⟩ = cs[i]?) → DataW.trod enc P w base spare held k e cs = some y → ∃ a : α, Pr b off a)
    (h : DataW.trod enc P w base spare held fuel t [v] = some x) :
    ∃ (xs : List α) (A : Option Addr) (c : Nat), v = .slice A xs.length c ∧ xs.length ≤ c ∧ c ≤ maxLen ∧ (0 < xs.length → ∃ b f, A = some ⟨b, f, none⟩ ∧ b < w.heap.size ∧ ∀ j (h : j < xs.length), Pr b (f + j * n) xs[j]) ∧ (A = none → c = 0) := by
  rcases DataW.trod_slice ht h with ⟨e0, _⟩ | ⟨a, len, cap, elems, rest, k, _, e0, _, hb, hl, hm, hlen, hel, _, _⟩
  · injection e0 with e0 _
    exact ⟨[], none, 0, by rw [e0]; rfl, Nat.le_refl _, by unfold maxLen; omega, fun c => absurd c (by simp), fun _ => rfl⟩
  · injection e0 with e0 _
    subst e0
    by_cases hz : len = 0
    · subst hz
      exact ⟨[], some a, cap, rfl, hl, hm, fun c => absurd c (by simp), fun c => (by cases c)⟩
    have each : ∀ i, i < len → ∃ cs y, w.cells? base (a.add (i * n)) n = some cs ∧ DataW.trod enc P w base spare held k e cs = some y := by
      intro i hi
      have h1 := hel i hi
      rw [hn, List.getElem?_eq_getElem (by omega), Option.bind_eq_some_iff] at h1
      obtain ⟨cs, h2, h3⟩ := h1
      exact ⟨cs, _, h2, h3⟩
    obtain ⟨b, f, sp⟩ := a
    have hsp : sp = none ∧ b < w.heap.size := by
      obtain ⟨cs, y, h2, h3⟩ := each 0 (by omega)
      obtain ⟨_, hcl, hcell⟩ := World.cells?_some h2
      have h4 := hcell 0 (by omega)
      rw [List.getElem?_eq_getElem (by omega)] at h4
      have h5 := cell_spot h4
      simp [Addr.add] at h5
      subst h5
      refine ⟨rfl, ?_⟩
      simp [Addr.add] at h4
      exact lt_of_cell h4
    obtain ⟨rfl, hbl⟩ := hsp
    have each2 : ∀ i, i < len → ∃ a : α, Pr b (f + i * n) a := by
      intro i hi
      obtain ⟨cs, y, h2, h3⟩ := each i hi
      obtain ⟨_, hcl, hcell⟩ := World.cells?_some h2
      refine elem b (f + i * n) cs y k hcl (fun j hj => ?_) h3
      have := hcell j hj
      rw [Addr.add_lit, Addr.add_lit] at this
      exact this
    obtain ⟨xs, hxl, hxs⟩ := list_of each2
    exact ⟨xs, some ⟨b, f, none⟩, cap, by rw [hxl], by rw [hxl]; exact hl, hm, fun _ => ⟨b, f, rfl, hbl, hxs⟩, fun c => (by cases c)⟩
end
section
variable {H : Type} {enc : TypeId × Value → H} {w : World} {base : Nat} {spare : Nat → Bool} {held : Bool}
end
end Go.Proofs.Ytbffjhdocicfoaa
namespace Go.Proofs.Ytbffjhdocicfoaa
set_option linter.unusedVariables false
namespace BfM
structure Wr where
  loc : Int
  n : Int
deriving DecidableEq
/-- The number of the last write to a location. -/
def last : List Wr → Int → Option Int
  | [], _ => none
  | w :: r, l => match last r l with
    | some n => some n
    | none => if w.loc = l then some w.n else none
theorem last_snoc : ∀ (b : List Wr) (w : Wr) (l : Int), last (b ++ [w]) l = if w.loc = l then some w.n else last b l
  | [], w, l => by simp [last]
  | x :: r, w, l => by
    rw [List.cons_append, last, last_snoc r w l]
    by_cases h : w.loc = l
    · simp [h]
    · simp [h, last]
/-- Is a location one of so many places? -/
def plc (m : Nat) (l : Int) : Bool := decide (0 ≤ l ∧ l < m)
def view (b : List Wr) (m : List Int) (l : Int) : Option Int :=
  match last b l with
  | some n => some n
  | none => if plc m.length l then m[l.toNat]? else none
/-- What the locations are when one write came there. -/
def arr (m : List Int) (w : Wr) : List Int := m.set w.loc.toNat w.n
def all : List Wr → List Int → List Int
  | [], m => m
  | w :: r, m => if plc m.length w.loc then all r (arr m w) else m
theorem arr_len (m : List Int) (w : Wr) : (arr m w).length = m.length := by simp [arr]
theorem all_len : ∀ (b : List Wr) (m : List Int), (all b m).length = m.length
  | [], m => rfl
  | w :: r, m => by
    rw [all]
    split
    · rw [all_len, arr_len]
    · rfl
/-- All writes are to places. -/
def ok (m : Nat) (b : List Wr) : Prop := ∀ w ∈ b, plc m w.loc = true
theorem all_app : ∀ (b c : List Wr) (m : List Int), ok m.length b → all (b ++ c) m = all c (all b m)
  | [], c, m, _ => rfl
  | w :: r, c, m, h => by
    rw [List.cons_append, all, all, if_pos (h w List.mem_cons_self), if_pos (h w List.mem_cons_self)]
    refine all_app r c _ (fun x hx => ?_)
    rw [arr_len]; exact h x (List.mem_cons_of_mem _ hx)
theorem arr_at {m : List Int} {w : Wr} (hw : plc m.length w.loc = true) {l : Int} (hl : plc m.length l = true) : (arr m w)[l.toNat]? = if w.loc = l then some w.n else m[l.toNat]? := by
  unfold plc at hw hl
  rw [decide_eq_true_eq] at hw hl
  unfold arr
  rw [List.getElem?_set]
  by_cases e : w.loc = l
  · rw [e]; simp; omega
  · rw [if_neg e, if_neg (by omega)]
theorem all_view : ∀ (b : List Wr) (m : List Int) (l : Int), ok m.length b → plc m.length l = true → (all b m)[l.toNat]? = view b m l
  | [], m, l, _, hl => by simp [all, view, last, hl]
  | w :: r, m, l, h, hl => by
    have hw := h w List.mem_cons_self
    have hr : ok (arr m w).length r := fun x hx => by rw [arr_len]; exact h x (List.mem_cons_of_mem _ hx)
    rw [all, if_pos hw, all_view r _ l hr (by rw [arr_len]; exact hl), view, view, last]
    cases last r l with
    | some n => rfl
    | none =>
      simp only [arr_len, if_pos hl]
      rw [arr_at hw hl]
      by_cases e : w.loc = l <;> simp [e, hl]
end BfM
end Go.Proofs.Ytbffjhdocicfoaa
namespace Go.Proofs.Ytbffjhdocicfoaa
open Go Go.ChangeShapes Go.WideShapes Go.RowKit Go.Deep
set_option linter.unusedVariables false
set_option linter.unusedSimpArgs false
set_option maxRecDepth 100000
open BfM
def wrC (w : Wr) : List Value := [.int .i64 w.loc, .int .i64 w.n]
def nuC (n : Int) : List Value := [.int .i64 n]
theorem wrC_len (w : Wr) : (wrC w).length = 2 := rfl
theorem nuC_len (n : Int) : (nuC n).length = 1 := rfl
abbrev WrR (B : Nat) (w : World) (v : Value) (b : List Wr) : Prop := Rw wrC 2 B w v b
abbrev IntR (B : Nat) (w : World) (v : Value) (m : List Int) : Prop := Rw nuC 1 B w v m
abbrev OwnW (base : Nat) (w : World) (v : Value) (b : List Wr) : Prop := w.ownsRow base 135 2 v b.length (b.flatMap wrC)
abbrev OwnI (base : Nat) (w : World) (v : Value) (m : List Int) : Prop := w.ownsRow base 3 1 v m.length (m.flatMap nuC)
theorem wr_at {B : Nat} {w : World} {A : Option Addr} {c : Nat} {b : List Wr} (h : 0 < b.length → ∃ g f, A = some ⟨g, f, none⟩ ∧ g < B ∧ ∀ j u, (b.flatMap wrC)[j]? = some u → w.cell? ⟨g, f + j, none⟩ = some u) :
    0 < b.length → ∃ g f, A = some ⟨g, f, none⟩ ∧ g < B ∧ ∀ j (hj : j < b.length), w.cell? ⟨g, f + j * 2, none⟩ = some (.int .i64 b[j].loc) ∧ w.cell? ⟨g, f + j * 2 + 1, none⟩ = some (.int .i64 b[j].n) := by
  intro k
  obtain ⟨g, f, e, hg, hc⟩ := h k
  refine ⟨g, f, e, hg, fun j hj => ⟨?_, ?_⟩⟩
  · exact hc (j * 2) _ ((fl_at wrC_len b j 0 hj (by omega)).trans rfl)
  · exact hc (j * 2 + 1) _ ((fl_at wrC_len b j 1 hj (by omega)).trans rfl)
theorem nu_at {B : Nat} {w : World} {A : Option Addr} {c : Nat} {m : List Int} (h : 0 < m.length → ∃ g f, A = some ⟨g, f, none⟩ ∧ g < B ∧ ∀ j u, (m.flatMap nuC)[j]? = some u → w.cell? ⟨g, f + j, none⟩ = some u) :
    0 < m.length → ∃ g f, A = some ⟨g, f, none⟩ ∧ g < B ∧ ∀ j (hj : j < m.length), w.cell? ⟨g, f + j, none⟩ = some (.int .i64 m[j]) := by
  intro k
  obtain ⟨g, f, e, hg, hc⟩ := h k
  refine ⟨g, f, e, hg, fun j hj => ?_⟩
  have := hc (j * 1) _ ((fl_at nuC_len m j 0 hj (by omega)).trans rfl)
  rw [Nat.mul_one] at this; exact this
theorem one_w (b : List Wr) : ∀ u ∈ b.flatMap wrC, u.oneCell' = true := fun u hu => by
  obtain ⟨x, _, hx⟩ := List.mem_flatMap.1 hu
  simp only [wrC, List.mem_cons, List.not_mem_nil, or_false] at hx
  rcases hx with rfl | rfl <;> rfl
theorem one_nu (b : List Int) : ∀ u ∈ b.flatMap nuC, u.oneCell' = true := fun u hu => by
  obtain ⟨x, _, hx⟩ := List.mem_flatMap.1 hu
  simp only [nuC, List.mem_cons, List.not_mem_nil, or_false] at hx
  subst hx; rfl
/-- The cells of a source of append or copy. -/
theorem src_rw {A : Type} {one : A → List Value} {s B c : Nat} {w W : World} {Ad : Option Addr} {xs : List A} (h1 : ∀ a, (one a).length = s) (h0 : Ad = none → xs.length = 0 ∧ c = 0)
    (h : 0 < xs.length → ∃ g f, Ad = some ⟨g, f, none⟩ ∧ g < B ∧ ∀ j u, (xs.flatMap one)[j]? = some u → w.cell? ⟨g, f + j, none⟩ = some u) (hB : Below B w W) :
    ∀ ad, Ad = some ad → ∀ j u, (xs.flatMap one)[j]? = some u → W.cell? (ad.add j) = some u := by
  intro ad e j u hu
  have hp : 0 < xs.length := by
    rcases Nat.eq_zero_or_pos xs.length with k | k
    · rw [List.eq_nil_of_length_eq_zero k] at hu; cases hu
    · exact k
  obtain ⟨g, f, e2, hg, hc⟩ := h hp
  rw [e] at e2; injection e2 with e2; subst e2
  rw [Addr.add_lit]
  exact (hB.cell (p := ⟨g, f + j, none⟩) hg).trans (hc j u hu)
theorem info_nu : (Try.prog.info? 3).map (fun i => (i.zero, i.size, i.bytes)) = some (some (.int .i64 0), 1, 8) := by kernel_rfl
theorem info_wr : (Try.prog.info? 135).map (fun i => (i.zero, i.size, i.bytes)) = some (some (.agg #[.int .i64 0, .int .i64 0]), 2, 16) := by kernel_rfl
theorem info_parts {P : Program} {t : TypeId} {z : Value} {s b : Nat} (h : (P.info? t).map (fun i => (i.zero, i.size, i.bytes)) = some (some z, s, b)) : ∃ i, P.info? t = some i ∧ i.zero = some z ∧ i.size = s ∧ i.bytes = b := by
  obtain ⟨i, hi, e⟩ := Option.map_eq_some_iff.1 h
  injection e with e1 e2
  injection e2 with e2 e3
  exact ⟨i, hi, e1, e2, e3⟩
/-! What arguments hold. -/
section
variable {H : Type} {enc : TypeId × Value → H} {P : Program} {w : World} {base : Nat} {spare : Nat → Bool} {held : Bool}
end
def WrIn (w : Wr) : Prop := NumM.inR w.loc ∧ NumM.inR w.n
section
variable {H : Type} {enc : TypeId × Value → H} {w : World} {base : Nat} {spare : Nat → Bool} {held : Bool}
end
end Go.Proofs.Ytbffjhdocicfoaa
