/-
  THE LAWS' Great: is a program too much? Where it is not, all is small.
  ARGUMENTS THAT ARE PROGRAMS: what their cells hold.
  WRITES ON THEIR WAY, as mathematics: the last one, what is viewed, what comes there.
  ROWS OF WRITES AND OF NUMBERS in memory, and what a law's arguments hold.
  PLAIN MATHEMATICS OF LAYER 7: programs as plain steps.
  STATES, as mathematics: which are right for a code, the first one, what a step makes.
  STATES in memory, and as arguments.
  STATES OF THE CALL's OWN: their rows lie apart; what a store into one of them makes of the state.
  STATES, as mathematics, 2: a step of a right code keeps a right state right; where it goes.
  CODES in memory: what it says that a value is a code, with its rows of numbers and of steps; the table of what kinds of steps have.
  package code, its small functions: hasStep, count, among, zeroOr, rightStep.
  code.rightStep, rightThread, Right: may a code be so?
-/
import Derived.Test.YtbgjamoflbdhoaaK01
import Derived.Test.YtbgjamoflbdhoaaK00
set_option linter.unusedVariables false
set_option linter.unusedSimpArgs false
namespace Go.Proofs.Ytbgjamoflbdhoaa
open Go.RowKit
set_option linter.unusedVariables false
set_option linter.unusedSimpArgs false
open WordM (L)
open VM

structure Small (F : Fl) : Prop where
  n1 : F.ths.length ≤ 9
  n2 : F.init.length ≤ 60
  n3 : F.cond.length ≤ 60
  name : F.name.length ≤ 1000
  init : ∀ j (h : j < F.init.length), F.init[j].1.length ≤ 100
  cond : ∀ j (h : j < F.cond.length), F.cond[j].nm.length ≤ 100
  ths : ∀ j (h : j < F.ths.length), F.ths[j].length ≤ 100 ∧ ∀ l ∈ F.ths[j], l.reg.length ≤ 1000 ∧ l.loc.length ≤ 1000 ∧ l.label.length ≤ 1000
/-- The ints of a program are ints. -/
def IntsOk (F : Fl) : Prop := ∀ a ∈ F.cond, NumM.inR a.t
theorem Small.ok {F : Fl} (h : Small F) (hi : IntsOk F) : FlOk F := by
  refine ⟨by have := h.name; omega, fun c hc => ?_, fun ls hl => ?_, fun a ha => ⟨?_, hi a ha⟩, by have := h.n1; have := h.n2; have := h.n3; omega⟩
  · obtain ⟨j, hj, rfl⟩ := List.mem_iff_getElem.1 hc
    have := h.init j hj; omega
  · obtain ⟨j, hj, rfl⟩ := List.mem_iff_getElem.1 hl
    have := h.ths j hj
    exact ⟨by omega, fun l hl => by have := this.2 l hl; omega⟩
  · obtain ⟨j, hj, rfl⟩ := List.mem_iff_getElem.1 ha
    have := h.cond j hj; omega
end Go.Proofs.Ytbgjamoflbdhoaa
namespace Go.Proofs.Ytbgjamoflbdhoaa
open Go Go.ChangeShapes Go.WideShapes Go.RowKit Go.Deep
set_option linter.unusedVariables false
set_option maxRecDepth 100000
set_option linter.unusedSimpArgs false
open WordM (L)
open VM

theorem list_of {α : Type} {P : Nat → α → Prop} : ∀ {n : Nat}, (∀ i, i < n → ∃ x, P i x) → ∃ xs : List α, xs.length = n ∧ ∀ i (h : i < xs.length), P i xs[i]
  | 0, _ => ⟨[], rfl, fun i h => absurd h (Nat.not_lt_zero i)⟩
  | n + 1, h => by
    obtain ⟨xs, hl, hx⟩ := list_of (fun i hi => h i (Nat.lt_succ_of_lt hi))
    obtain ⟨x, hx0⟩ := h n (Nat.lt_succ_self n)
    refine ⟨xs ++ [x], by simp [hl], fun i hi => ?_⟩
    by_cases e : i < xs.length
    · rw [List.getElem_append_left e]; exact hx i e
    · have e2 : i = xs.length := by simp at hi; omega
      subst e2
      rw [List.getElem_append_right (Nat.le_refl _)]
      simpa [hl] using hx0
section
variable {H : Type} {enc : TypeId × Value → H} {P : Program} {w : World} {base : Nat} {spare : Nat → Bool} {held : Bool}
/-- A row whose elements are what a test says of their cells. -/
theorem open_row {α : Type} {n : Nat} {t e : TypeId} {fuel : Nat} {v : Value} {x : DataW H × List MemPlace} (Pr : Nat → Nat → α → Prop) (ht : P.underlying t = some (.slice e)) (hn : P.cellsOf e = n) (hpos : 0 < n)
    (elem : ∀ (b off : Nat) (cs : List Value) (y : DataW H × List MemPlace) (k : Nat), cs.length = n → (∀ i, i < n → w.cell? ⟨b, off + i, none⟩ = cs[i]?) → DataW.trod enc P w base spare held k e cs = some y → ∃ a : α, Pr b off a)
    (h : DataW.trod enc P w base spare held fuel t [v] = some x) :
    ∃ (xs : List α) (A : Option Addr) (c : Nat), v = .slice A xs.length c ∧ xs.length ≤ c ∧ c ≤ maxLen ∧ (0 < xs.length → ∃ b f, A = some ⟨b, f, none⟩ ∧ b < w.heap.size ∧ ∀ j (h : j < xs.length), Pr b (f + j * n) xs[j]) ∧ (A = none → c = 0) := by
  rcases DataW.trod_slice ht h with ⟨e0, _⟩ | ⟨a, len, cap, elems, rest, k, _, e0, _, hb, hl, hm, hlen, hel, _, _⟩
  · injection e0 with e0 _
    exact ⟨[], none, 0, by rw [e0]; rfl, Nat.le_refl _, by unfold maxLen; omega, fun c => absurd c (by simp), fun _ => rfl⟩
  · injection e0 with e0 _
    subst e0
    by_cases hz : len = 0
    · subst hz
      exact ⟨[], some a, cap, rfl, hl, hm, fun c => absurd c (by simp), fun c => (by cases c)⟩
    have each : ∀ i, i < len → ∃ cs y, w.cells? base (a.add (i * n)) n = some cs ∧ DataW.trod enc P w base spare held k e cs = some y := by
      intro i hi
      have h1 := hel i hi
      rw [hn, List.getElem?_eq_getElem (by omega), Option.bind_eq_some_iff] at h1
      obtain ⟨cs, h2, h3⟩ := h1
      exact ⟨cs, _, h2, h3⟩
    obtain ⟨b, f, sp⟩ := a
    have hsp : sp = none ∧ b < w.heap.size := by
      obtain ⟨cs, y, h2, h3⟩ := each 0 (by omega)
      obtain ⟨_, hcl, hcell⟩ := World.cells?_some h2
      have h4 := hcell 0 (by omega)
      rw [List.getElem?_eq_getElem (by omega)] at h4
      have h5 := cell_spot h4
      simp [Addr.add] at h5
      subst h5
      refine ⟨rfl, ?_⟩
      simp [Addr.add] at h4
      exact lt_of_cell h4
    obtain ⟨rfl, hbl⟩ := hsp
    have each2 : ∀ i, i < len → ∃ a : α, Pr b (f + i * n) a := by
      intro i hi
      obtain ⟨cs, y, h2, h3⟩ := each i hi
      obtain ⟨_, hcl, hcell⟩ := World.cells?_some h2
      refine elem b (f + i * n) cs y k hcl (fun j hj => ?_) h3
      have := hcell j hj
      rw [Addr.add_lit, Addr.add_lit] at this
      exact this
    obtain ⟨xs, hxl, hxs⟩ := list_of each2
    exact ⟨xs, some ⟨b, f, none⟩, cap, by rw [hxl], by rw [hxl]; exact hl, hm, fun _ => ⟨b, f, rfl, hbl, hxs⟩, fun c => (by cases c)⟩
/-- The cells of a struct of one-cell fields. -/
theorem open_cells {t : TypeId} {fs : Array Field} {cs : List Value} {x : DataW H × List MemPlace} {fuel : Nat} (hs : P.underlying t = some (.struct fs)) (hone : oneCellFields P fs = true)
    (h : DataW.trod enc P w base spare held fuel t cs = some x) (hC : cs.length = fs.size) :
    ∀ (j : Nat) (f : Field), fs[j]? = some f → ∃ (y : Value) (z : DataW H × List MemPlace) (n : Nat), cs[j]? = some y ∧ DataW.trod enc P w base spare held n f.type [y] = some z := by
  obtain ⟨xs, n, _, _, _, hlen, hg⟩ := DataW.trod_struct hs h
  intro j f hj
  obtain ⟨ho, hk⟩ := hone_of hone j f hj
  have hjl : j < fs.size := (Array.getElem?_eq_some_iff.1 hj).1
  have h1 := hg j f hj
  rw [ho, hk] at h1
  have h2 : (cs.drop j).take 1 = [cs[j]'(by omega)] := by
    rw [List.drop_eq_getElem_cons (by omega)]; rfl
  have hx : xs[j]? = some (xs[j]'(by omega)) := List.getElem?_eq_getElem (by omega)
  rw [h2] at h1
  exact ⟨_, _, n, List.getElem?_eq_getElem (by omega), h1.trans hx⟩
end
section
variable {H : Type} {enc : TypeId × Value → H} {w : World} {base : Nat} {spare : Nat → Bool} {held : Bool}
end
end Go.Proofs.Ytbgjamoflbdhoaa
namespace Go.Proofs.Ytbgjamoflbdhoaa
set_option linter.unusedVariables false
namespace BfM
structure Wr where
  loc : Int
  n : Int
deriving DecidableEq
/-- The number of the last write to a location. -/
def last : List Wr → Int → Option Int
  | [], _ => none
  | w :: r, l => match last r l with
    | some n => some n
    | none => if w.loc = l then some w.n else none
theorem last_snoc : ∀ (b : List Wr) (w : Wr) (l : Int), last (b ++ [w]) l = if w.loc = l then some w.n else last b l
  | [], w, l => by simp [last]
  | x :: r, w, l => by
    rw [List.cons_append, last, last_snoc r w l]
    by_cases h : w.loc = l
    · simp [h]
    · simp [h, last]
theorem last_hit {b : List Wr} {l : Int} {k : Nat} (hk : k < b.length) (h : last (b.take (k + 1)) l = last b l) (hl : b[k].loc = l) : last b l = some b[k].n := by
  rw [← h, List.take_succ_eq_append_getElem hk, last_snoc, if_pos hl]
theorem last_miss {b : List Wr} {l : Int} {k : Nat} (hk : k < b.length) (h : last (b.take (k + 1)) l = last b l) (hl : ¬ b[k].loc = l) : last (b.take k) l = last b l := by
  rw [← h, List.take_succ_eq_append_getElem hk, last_snoc, if_neg hl]
/-- Is a location one of so many places? -/
def plc (m : Nat) (l : Int) : Bool := decide (0 ≤ l ∧ l < m)
def view (b : List Wr) (m : List Int) (l : Int) : Option Int :=
  match last b l with
  | some n => some n
  | none => if plc m.length l then m[l.toNat]? else none
/-- What the locations are when one write came there. -/
def arr (m : List Int) (w : Wr) : List Int := m.set w.loc.toNat w.n
def all : List Wr → List Int → List Int
  | [], m => m
  | w :: r, m => if plc m.length w.loc then all r (arr m w) else m
theorem arr_len (m : List Int) (w : Wr) : (arr m w).length = m.length := by simp [arr]
theorem all_len : ∀ (b : List Wr) (m : List Int), (all b m).length = m.length
  | [], m => rfl
  | w :: r, m => by
    rw [all]
    split
    · rw [all_len, arr_len]
    · rfl
/-- All writes are to places. -/
def ok (m : Nat) (b : List Wr) : Prop := ∀ w ∈ b, plc m w.loc = true
theorem all_app : ∀ (b c : List Wr) (m : List Int), ok m.length b → all (b ++ c) m = all c (all b m)
  | [], c, m, _ => rfl
  | w :: r, c, m, h => by
    rw [List.cons_append, all, all, if_pos (h w List.mem_cons_self), if_pos (h w List.mem_cons_self)]
    refine all_app r c _ (fun x hx => ?_)
    rw [arr_len]; exact h x (List.mem_cons_of_mem _ hx)
theorem arr_at {m : List Int} {w : Wr} (hw : plc m.length w.loc = true) {l : Int} (hl : plc m.length l = true) : (arr m w)[l.toNat]? = if w.loc = l then some w.n else m[l.toNat]? := by
  unfold plc at hw hl
  rw [decide_eq_true_eq] at hw hl
  unfold arr
  rw [List.getElem?_set]
  by_cases e : w.loc = l
  · rw [e]; simp; omega
  · rw [if_neg e, if_neg (by omega)]
theorem all_view : ∀ (b : List Wr) (m : List Int) (l : Int), ok m.length b → plc m.length l = true → (all b m)[l.toNat]? = view b m l
  | [], m, l, _, hl => by simp [all, view, last, hl]
  | w :: r, m, l, h, hl => by
    have hw := h w List.mem_cons_self
    have hr : ok (arr m w).length r := fun x hx => by rw [arr_len]; exact h x (List.mem_cons_of_mem _ hx)
    rw [all, if_pos hw, all_view r _ l hr (by rw [arr_len]; exact hl), view, view, last]
    cases last r l with
    | some n => rfl
    | none =>
      simp only [arr_len, if_pos hl]
      rw [arr_at hw hl]
      by_cases e : w.loc = l <;> simp [e, hl]
end BfM
end Go.Proofs.Ytbgjamoflbdhoaa
namespace Go.Proofs.Ytbgjamoflbdhoaa
open Go Go.ChangeShapes Go.WideShapes Go.RowKit Go.Deep
set_option linter.unusedVariables false
set_option linter.unusedSimpArgs false
set_option maxRecDepth 100000
open BfM
def wrC (w : Wr) : List Value := [.int .i64 w.loc, .int .i64 w.n]
def nuC (n : Int) : List Value := [.int .i64 n]
theorem wrC_len (w : Wr) : (wrC w).length = 2 := rfl
theorem nuC_len (n : Int) : (nuC n).length = 1 := rfl
abbrev WrR (B : Nat) (w : World) (v : Value) (b : List Wr) : Prop := Rw wrC 2 B w v b
abbrev IntR (B : Nat) (w : World) (v : Value) (m : List Int) : Prop := Rw nuC 1 B w v m
abbrev OwnW (base : Nat) (w : World) (v : Value) (b : List Wr) : Prop := w.ownsRow base 78 2 v b.length (b.flatMap wrC)
abbrev OwnI (base : Nat) (w : World) (v : Value) (m : List Int) : Prop := w.ownsRow base 3 1 v m.length (m.flatMap nuC)
theorem wr_at {B : Nat} {w : World} {A : Option Addr} {c : Nat} {b : List Wr} (h : 0 < b.length → ∃ g f, A = some ⟨g, f, none⟩ ∧ g < B ∧ ∀ j u, (b.flatMap wrC)[j]? = some u → w.cell? ⟨g, f + j, none⟩ = some u) :
    0 < b.length → ∃ g f, A = some ⟨g, f, none⟩ ∧ g < B ∧ ∀ j (hj : j < b.length), w.cell? ⟨g, f + j * 2, none⟩ = some (.int .i64 b[j].loc) ∧ w.cell? ⟨g, f + j * 2 + 1, none⟩ = some (.int .i64 b[j].n) := by
  intro k
  obtain ⟨g, f, e, hg, hc⟩ := h k
  refine ⟨g, f, e, hg, fun j hj => ⟨?_, ?_⟩⟩
  · exact hc (j * 2) _ ((fl_at wrC_len b j 0 hj (by omega)).trans rfl)
  · exact hc (j * 2 + 1) _ ((fl_at wrC_len b j 1 hj (by omega)).trans rfl)
theorem nu_at {B : Nat} {w : World} {A : Option Addr} {c : Nat} {m : List Int} (h : 0 < m.length → ∃ g f, A = some ⟨g, f, none⟩ ∧ g < B ∧ ∀ j u, (m.flatMap nuC)[j]? = some u → w.cell? ⟨g, f + j, none⟩ = some u) :
    0 < m.length → ∃ g f, A = some ⟨g, f, none⟩ ∧ g < B ∧ ∀ j (hj : j < m.length), w.cell? ⟨g, f + j, none⟩ = some (.int .i64 m[j]) := by
  intro k
  obtain ⟨g, f, e, hg, hc⟩ := h k
  refine ⟨g, f, e, hg, fun j hj => ?_⟩
  have := hc (j * 1) _ ((fl_at nuC_len m j 0 hj (by omega)).trans rfl)
  rw [Nat.mul_one] at this; exact this
theorem one_w (b : List Wr) : ∀ u ∈ b.flatMap wrC, u.oneCell' = true := fun u hu => by
  obtain ⟨x, _, hx⟩ := List.mem_flatMap.1 hu
  simp only [wrC, List.mem_cons, List.not_mem_nil, or_false] at hx
  rcases hx with rfl | rfl <;> rfl
theorem one_nu (b : List Int) : ∀ u ∈ b.flatMap nuC, u.oneCell' = true := fun u hu => by
  obtain ⟨x, _, hx⟩ := List.mem_flatMap.1 hu
  simp only [nuC, List.mem_cons, List.not_mem_nil, or_false] at hx
  subst hx; rfl
/-- The cells of a source of append or copy. -/
theorem src_rw {A : Type} {one : A → List Value} {s B c : Nat} {w W : World} {Ad : Option Addr} {xs : List A} (h1 : ∀ a, (one a).length = s) (h0 : Ad = none → xs.length = 0 ∧ c = 0)
    (h : 0 < xs.length → ∃ g f, Ad = some ⟨g, f, none⟩ ∧ g < B ∧ ∀ j u, (xs.flatMap one)[j]? = some u → w.cell? ⟨g, f + j, none⟩ = some u) (hB : Below B w W) :
    ∀ ad, Ad = some ad → ∀ j u, (xs.flatMap one)[j]? = some u → W.cell? (ad.add j) = some u := by
  intro ad e j u hu
  have hp : 0 < xs.length := by
    rcases Nat.eq_zero_or_pos xs.length with k | k
    · rw [List.eq_nil_of_length_eq_zero k] at hu; cases hu
    · exact k
  obtain ⟨g, f, e2, hg, hc⟩ := h hp
  rw [e] at e2; injection e2 with e2; subst e2
  rw [Addr.add_lit]
  exact (hB.cell (p := ⟨g, f + j, none⟩) hg).trans (hc j u hu)
theorem info_nu : (Try.prog.info? 3).map (fun i => (i.zero, i.size, i.bytes)) = some (some (.int .i64 0), 1, 8) := by kernel_rfl
theorem info_wr : (Try.prog.info? 78).map (fun i => (i.zero, i.size, i.bytes)) = some (some (.agg #[.int .i64 0, .int .i64 0]), 2, 16) := by kernel_rfl
theorem info_parts {P : Program} {t : TypeId} {z : Value} {s b : Nat} (h : (P.info? t).map (fun i => (i.zero, i.size, i.bytes)) = some (some z, s, b)) : ∃ i, P.info? t = some i ∧ i.zero = some z ∧ i.size = s ∧ i.bytes = b := by
  obtain ⟨i, hi, e⟩ := Option.map_eq_some_iff.1 h
  injection e with e1 e2
  injection e2 with e2 e3
  exact ⟨i, hi, e1, e2, e3⟩
/-! What arguments hold. -/
section
variable {H : Type} {enc : TypeId × Value → H} {P : Program} {w : World} {base : Nat} {spare : Nat → Bool} {held : Bool}
/-- A row whose elements are what a test says of their cells. -/
theorem open_rw {α : Type} {one : α → List Value} {n : Nat} {t e : TypeId} {fuel : Nat} {v : Value} {x : DataW H × List MemPlace} (Pr : α → Prop) (hone : ∀ a, (one a).length = n) (ht : P.underlying t = some (.slice e)) (hn : P.cellsOf e = n) (hpos : 0 < n)
    (elem : ∀ (cs : List Value) (y : DataW H × List MemPlace) (k : Nat), cs.length = n → DataW.trod enc P w base spare held k e cs = some y → ∃ a : α, one a = cs ∧ Pr a)
    (h : DataW.trod enc P w base spare held fuel t [v] = some x) :
    ∃ xs : List α, Rw one n w.heap.size w v xs ∧ ∀ a ∈ xs, Pr a := by
  rcases DataW.trod_slice ht h with ⟨e0, _⟩ | ⟨a, len, cap, elems, rest, k, _, e0, _, hb, hl, hm, hlen, hel, _, _⟩
  · injection e0 with e0 _
    exact ⟨[], by rw [e0]; exact Rw.nil _ _, fun a ha => by cases ha⟩
  · injection e0 with e0 _
    subst e0
    by_cases hz : len = 0
    · subst hz
      exact ⟨[], ⟨some a, cap, rfl, hl, hm, fun c => (by cases c), fun c => absurd c (by simp)⟩, fun a ha => by cases ha⟩
    have each : ∀ i, i < len → ∃ cs y, w.cells? base (a.add (i * n)) n = some cs ∧ DataW.trod enc P w base spare held k e cs = some y := by
      intro i hi
      have h1 := hel i hi
      rw [hn, List.getElem?_eq_getElem (by omega), Option.bind_eq_some_iff] at h1
      obtain ⟨cs, h2, h3⟩ := h1
      exact ⟨cs, _, h2, h3⟩
    obtain ⟨b, f, sp⟩ := a
    have hsp : sp = none ∧ b < w.heap.size := by
      obtain ⟨cs, y, h2, h3⟩ := each 0 (by omega)
      obtain ⟨_, hcl, hcell⟩ := World.cells?_some h2
      have h4 := hcell 0 (by omega)
      rw [List.getElem?_eq_getElem (by omega)] at h4
      have h5 := cell_spot h4
      simp [Addr.add] at h5
      subst h5
      refine ⟨rfl, ?_⟩
      simp [Addr.add] at h4
      exact lt_of_cell h4
    obtain ⟨rfl, hbl⟩ := hsp
    have each2 : ∀ i, i < len → ∃ a : α, Pr a ∧ ∀ j, j < n → w.cell? ⟨b, f + i * n + j, none⟩ = (one a)[j]? := by
      intro i hi
      obtain ⟨cs, y, h2, h3⟩ := each i hi
      obtain ⟨_, hcl, hcell⟩ := World.cells?_some h2
      obtain ⟨a, ha, hp⟩ := elem cs y k hcl h3
      refine ⟨a, hp, fun j hj => ?_⟩
      have := hcell j hj
      rw [Addr.add_lit, Addr.add_lit] at this
      rw [ha]; exact this
    obtain ⟨xs, hxl, hxs⟩ := list_of each2
    refine ⟨xs, ⟨some ⟨b, f, none⟩, cap, by rw [hxl], by rw [hxl]; exact hl, hm, fun c => (by cases c), fun _ => ⟨b, f, rfl, hbl, fun q u hu => ?_⟩⟩, fun a ha => ?_⟩
    · have hq : q < xs.length * n := by rw [← fl_len hone]; exact (List.getElem?_eq_some_iff.1 hu).1
      have h1 : q / n < xs.length := (Nat.div_lt_iff_lt_mul hpos).2 hq
      have h2 : q % n < n := Nat.mod_lt _ hpos
      have e : q = q / n * n + q % n := by rw [Nat.mul_comm]; exact (Nat.div_add_mod q n).symm
      have e2 := (hxs (q / n) h1).2 (q % n) h2
      rw [← fl_at hone xs (q / n) (q % n) h1 h2, ← e, Nat.add_assoc, ← e, hu] at e2
      exact e2
    · obtain ⟨j, hj, rfl⟩ := List.mem_iff_getElem.1 ha
      exact (hxs j hj).1
end
def WrIn (w : Wr) : Prop := NumM.inR w.loc ∧ NumM.inR w.n
section
variable {H : Type} {enc : TypeId × Value → H} {w : World} {base : Nat} {spare : Nat → Bool} {held : Bool}
end
end Go.Proofs.Ytbgjamoflbdhoaa
namespace Go.Proofs.Ytbgjamoflbdhoaa.CodM
open WordM (L)
open OpsM (Ln)
open VM (Fl)
set_option linter.unusedVariables false
set_option linter.unusedSimpArgs false

/-- A step. -/
structure St where
  op : Int
  reg : Int
  loc : Int
  n : Int
  to : Int
theorem St.same {a b : St} (h0 : a.op = b.op) (h1 : a.reg = b.reg) (h2 : a.loc = b.loc) (h3 : a.n = b.n) (h4 : a.to = b.to) : a = b := by
  cases a; cases b; simp_all
/-- A code. -/
structure Pg where
  init : List Int
  ths : List (List St)
def hasS (x : Ln) : Bool := !(x.op == 11)
def cnt (ls : List Ln) : Nat := (ls.filter hasS).length
/-- The first place at which p holds; -1, if it does nowhere. -/
def posI {A : Type} (p : A → Bool) (l : List A) : Int := match l.findIdx? p with | some k => (k : Int) | none => -1
def pos0 {A : Type} (p : A → Bool) (l : List A) : Nat := (l.findIdx? p).getD 0
/-- Is x a label of that name? -/
def isLab (s : L) (x : Ln) : Bool := !(hasS x) && decide (x.label = s)
def regI (r : L) : Int := max (WordM.regNo r) 0
def locN (locs : List L) (s : L) : Nat := pos0 (fun x => decide (x = s)) locs
def toN (ls : List Ln) (s : L) : Nat := cnt (ls.take (pos0 (isLab s) ls))
def stp (ls : List Ln) (locs : List L) (x : Ln) : St := ⟨x.op, regI x.reg, (locN locs x.loc : Int), x.n, (toN ls x.label : Int)⟩
/-! Lines and steps. -/
/-! Right codes. -/
def hReg (o : Int) : Bool := decide (o = 1) || (decide (o = 2) || (decide (o = 3) || (decide (o = 5) || decide (o = 7))))
def hLoc (o : Int) : Bool := decide (o = 2) || (decide (o = 3) || (decide (o = 4) || decide (o = 5)))
def hNum (o : Int) : Bool := decide (o = 1) || (decide (o = 4) || decide (o = 7))
def hTo (o : Int) : Bool := decide (8 ≤ o)
def zOr (has : Bool) (n least most : Int) : Bool := if has then decide (least ≤ n) && decide (n ≤ most) else decide (n = 0)
def rightS (many : Nat) (len : Nat) (at' : Nat) (s : St) : Bool :=
  (decide (1 ≤ s.op) && decide (s.op ≤ 10)) && (zOr (hReg s.op) s.reg 0 3 && (zOr (hLoc s.op) s.loc 0 ((many : Int) - 1) && ((hNum s.op || decide (s.n = 0)) && zOr (hTo s.op) s.to ((at' : Int) + 1) (len : Int))))
def rightT (many : Nat) (ss : List St) : Bool := decide (ss.length ≤ 80) && (List.range ss.length).all fun k => match ss[k]? with | some s => rightS many ss.length k s | none => false
def rightP (p : Pg) : Bool := decide (p.init.length ≤ 4) && (decide (1 ≤ p.ths.length) && decide (p.ths.length ≤ 3)) && p.ths.all (rightT p.init.length)
theorem rightT_all {many : Nat} {ss : List St} (h : ss.length ≤ 80) (hall : ∀ k (hk : k < ss.length), rightS many ss.length k ss[k] = true) : rightT many ss = true := by
  unfold rightT
  simp only [Bool.and_eq_true, decide_eq_true_eq, List.all_eq_true, List.mem_range]
  exact ⟨h, fun k hk => by rw [List.getElem?_eq_getElem hk]; exact hall k hk⟩
theorem rightT_many {many : Nat} {ss : List St} (h : 80 < ss.length) : rightT many ss = false := by
  unfold rightT; simp; intro h2; omega
theorem rightT_no {many : Nat} {ss : List St} {k : Nat} (hk : k < ss.length) (h : rightS many ss.length k ss[k] = false) : rightT many ss = false := by
  unfold rightT
  rw [Bool.and_eq_false_iff]; right
  rw [List.all_eq_false]
  exact ⟨k, List.mem_range.2 hk, by rw [List.getElem?_eq_getElem hk]; simp [h]⟩
theorem rightT_at {many : Nat} {ss : List St} (h : rightT many ss = true) : ss.length ≤ 80 ∧ ∀ k (hk : k < ss.length), rightS many ss.length k ss[k] = true := by
  unfold rightT at h
  simp only [Bool.and_eq_true, decide_eq_true_eq, List.all_eq_true, List.mem_range] at h
  refine ⟨h.1, fun k hk => ?_⟩
  have := h.2 k hk
  rwa [List.getElem?_eq_getElem hk] at this
end Go.Proofs.Ytbgjamoflbdhoaa.CodM
namespace Go.Proofs.Ytbgjamoflbdhoaa
set_option linter.unusedVariables false
set_option linter.unusedSimpArgs false
namespace ScM
open CodM (St Pg)
open BfM (Wr plc)

/-- A thread. -/
structure Th where
  at' : Int
  regs : List Int
  eq : Bool
  buf : List Wr
/-- A state. -/
structure Sta where
  mem : List Int
  ths : List Th
/-- May a thread be so, where it has so many steps, and there are so many places? -/
structure OkTh (len places : Nat) (x : Th) : Prop where
  lo : 0 ≤ x.at'
  hi : x.at' ≤ len
  regs : x.regs.length = 4
  buf : ∀ w ∈ x.buf, plc places w.loc = true
/-- May a state be so? -/
structure OkSt (P : Pg) (s : Sta) : Prop where
  mem : s.mem.length = P.init.length
  ths : s.ths.length = P.ths.length
  th : ∀ t (h : t < s.ths.length) (h2 : t < P.ths.length), OkTh P.ths[t].length s.mem.length s.ths[t]
def begTh : Th := ⟨0, [0, 0, 0, 0], false, []⟩
def beg (P : Pg) : Sta := ⟨P.init, P.ths.map fun _ => begTh⟩
theorem beg_ok (P : Pg) : OkSt P (beg P) := by
  refine ⟨rfl, by simp [beg], fun t h h2 => ?_⟩
  have : (beg P).ths[t] = begTh := by simp [beg]
  rw [this]
  exact ⟨by decide, by show (0 : Int) ≤ _; omega, rfl, fun w hw => by cases hw⟩
/-- The step at which a thread is. -/
def atS (P : Pg) (s : Sta) (t : Int) : Option St :=
  if 0 ≤ t then
    match s.ths[t.toNat]?, P.ths[t.toNat]? with
    | some x, some ss => ss[x.at'.toNat]?
    | _, _ => none
  else none
def jumps (x : St) (eq : Bool) : Bool := decide (x.op = 8) || (decide (x.op = 9) && eq) || (decide (x.op = 10) && !eq)
/-- A number of a row; 0, where there is none. -/
def nth (l : List Int) (k : Int) : Int := l.getD k.toNat 0
/-- What a step makes of locations, and of its thread. -/
def stM (x : St) (m : List Int) (r : List Int) : List Int :=
  if x.op = 3 then m.set x.loc.toNat (nth r x.reg) else if x.op = 4 then m.set x.loc.toNat x.n else if x.op = 5 then m.set x.loc.toNat (nth r x.reg) else m
def stR (x : St) (m : List Int) (r : List Int) : List Int :=
  if x.op = 1 then r.set x.reg.toNat x.n else if x.op = 2 then r.set x.reg.toNat (nth m x.loc) else if x.op = 5 then r.set x.reg.toNat (nth m x.loc) else r
def stE (x : St) (r : List Int) (e : Bool) : Bool := if x.op = 7 then decide (nth r x.reg = x.n) else e
def stT (x : St) (m : List Int) (h : Th) : Th := ⟨if jumps x h.eq then x.to else h.at' + 1, stR x m h.regs, stE x h.regs h.eq, h.buf⟩
/-- The state behind a thread's step; as it is, where it can't be taken. -/
def stp (P : Pg) (s : Sta) (t : Int) : Sta :=
  match atS P s t, s.ths[t.toNat]? with
  | some x, some h => ⟨stM x s.mem h.regs, s.ths.set t.toNat (stT x s.mem h)⟩
  | _, _ => s
theorem stM_len (x : St) (m r : List Int) : (stM x m r).length = m.length := by
  unfold stM; split; · simp
  split; · simp
  split <;> simp
theorem stR_len (x : St) (m r : List Int) : (stR x m r).length = r.length := by
  unfold stR; split; · simp
  split; · simp
  split <;> simp
theorem atS_some {P : Pg} {s : Sta} {t : Int} {x : St} (h : atS P s t = some x) : ∃ k : Nat, t = k ∧ ∃ (h1 : k < s.ths.length) (h2 : k < P.ths.length) (h3 : s.ths[k].at'.toNat < P.ths[k].length), x = P.ths[k][s.ths[k].at'.toNat] := by
  unfold atS at h
  split at h
  · rename_i ht
    refine ⟨t.toNat, by omega, ?_⟩
    generalize t.toNat = k at *
    cases e1 : s.ths[k]? with
    | none => rw [e1] at h; cases h
    | some y =>
      cases e2 : P.ths[k]? with
      | none => rw [e1, e2] at h; cases h
      | some ss =>
        rw [e1, e2] at h
        obtain ⟨h1, rfl⟩ := List.getElem?_eq_some_iff.1 e1
        obtain ⟨h2, rfl⟩ := List.getElem?_eq_some_iff.1 e2
        obtain ⟨h3, h4⟩ := List.getElem?_eq_some_iff.1 h
        exact ⟨h1, h2, h3, h4.symm⟩
  · cases h
theorem atS_at {P : Pg} {s : Sta} {k : Nat} (h1 : k < s.ths.length) (h2 : k < P.ths.length) (h3 : s.ths[k].at'.toNat < P.ths[k].length) : atS P s k = some P.ths[k][s.ths[k].at'.toNat] := by
  unfold atS
  rw [if_pos (by omega)]
  simp [h1, h2, h3]
theorem atS_none {P : Pg} {s : Sta} {t : Int} (h : ¬ ∃ k : Nat, t = k ∧ ∃ (h1 : k < s.ths.length) (h2 : k < P.ths.length), s.ths[k].at'.toNat < P.ths[k].length) : atS P s t = none := by
  cases e : atS P s t with
  | none => rfl
  | some x =>
    obtain ⟨k, e1, h1, h2, h3, _⟩ := atS_some e
    exact absurd ⟨k, e1, h1, h2, h3⟩ h
end ScM
end Go.Proofs.Ytbgjamoflbdhoaa
namespace Go.Proofs.Ytbgjamoflbdhoaa
open Go Go.ChangeShapes Go.WideShapes Go.RowKit Go.Deep
set_option linter.unusedVariables false
set_option linter.unusedSimpArgs false
set_option maxRecDepth 100000
open BfM (Wr plc)
open ScM

/-- Four cells from f on of block b hold the thread t. -/
def TdAt (B : Nat) (w : World) (b f : Nat) (t : Th) : Prop :=
  ∃ vr vb, w.cell? ⟨b, f, none⟩ = some (.int .i64 t.at') ∧ w.cell? ⟨b, f + 1, none⟩ = some vr ∧ w.cell? ⟨b, f + 2, none⟩ = some (.bool t.eq) ∧ w.cell? ⟨b, f + 3, none⟩ = some vb ∧ IntR B w vr t.regs ∧ WrR B w vb t.buf
theorem TdAt.below {w w' : World} {B b f : Nat} {t : Th} (h : TdAt B w b f t) (hb : Below B w w') (hlt : b < B) : TdAt B w' b f t := by
  obtain ⟨vr, vb, h0, h1, h2, h3, h4, h5⟩ := h
  exact ⟨vr, vb, (hb.cell (p := ⟨b, f, none⟩) hlt).trans h0, (hb.cell (p := ⟨b, f + 1, none⟩) hlt).trans h1, (hb.cell (p := ⟨b, f + 2, none⟩) hlt).trans h2, (hb.cell (p := ⟨b, f + 3, none⟩) hlt).trans h3, h4.below hb, h5.below hb⟩
theorem TdAt.more {w : World} {B B' b f : Nat} {t : Th} (h : TdAt B w b f t) (hb : B ≤ B') : TdAt B' w b f t := by
  obtain ⟨vr, vb, h0, h1, h2, h3, h4, h5⟩ := h
  exact ⟨vr, vb, h0, h1, h2, h3, h4.more hb, h5.more hb⟩
/-- The value v is a slice that reads as the threads ts. -/
def ThR (B : Nat) (w : World) (v : Value) (ts : List Th) : Prop :=
  ∃ A c, v = .slice A ts.length c ∧ ts.length ≤ c ∧ c ≤ maxLen ∧ (A = none → ts.length = 0 ∧ c = 0) ∧
    (0 < ts.length → ∃ b f, A = some ⟨b, f, none⟩ ∧ b < B ∧ ∀ j (h : j < ts.length), TdAt B w b (f + j * 4) ts[j])
theorem ThR.below {B : Nat} {w w' : World} {v : Value} {xs : List Th} (h : ThR B w v xs) (hb : Below B w w') : ThR B w' v xs := by
  obtain ⟨A, c, e, h1, h2, h0, h3⟩ := h
  refine ⟨A, c, e, h1, h2, h0, fun k => ?_⟩
  obtain ⟨b, f, e2, h4, h5⟩ := h3 k
  exact ⟨b, f, e2, h4, fun j hj => (h5 j hj).below hb h4⟩
theorem ThR.more {B B' : Nat} {w : World} {v : Value} {xs : List Th} (h : ThR B w v xs) (hb : B ≤ B') : ThR B' w v xs := by
  obtain ⟨A, c, e, h1, h2, h0, h3⟩ := h
  refine ⟨A, c, e, h1, h2, h0, fun k => ?_⟩
  obtain ⟨b, f, e2, h4, h5⟩ := h3 k
  exact ⟨b, f, e2, by omega, fun j hj => (h5 j hj).more hb⟩
/-- What the two slices of a state hold. -/
def StaM (B : Nat) (w : World) (vm vt : Value) (s : Sta) : Prop := IntR B w vm s.mem ∧ ThR B w vt s.ths
theorem StaM.below {B : Nat} {w w' : World} {vm vt : Value} {s : Sta} (h : StaM B w vm vt s) (hb : Below B w w') : StaM B w' vm vt s := ⟨h.1.below hb, h.2.below hb⟩
theorem StaM.more {B B' : Nat} {w : World} {vm vt : Value} {s : Sta} (h : StaM B w vm vt s) (hb : B ≤ B') : StaM B' w vm vt s := ⟨h.1.more hb, h.2.more hb⟩
/-- The value v is the state s, its rows in blocks below B. -/
def StaV (B : Nat) (w : World) (v : Value) (s : Sta) : Prop := ∃ vm vt, v = .agg #[vm, vt] ∧ StaM B w vm vt s
theorem StaV.below {B : Nat} {w w' : World} {v : Value} {s : Sta} (h : StaV B w v s) (hb : Below B w w') : StaV B w' v s := by
  obtain ⟨a, b, e, h⟩ := h; exact ⟨a, b, e, h.below hb⟩
theorem StaV.more {B B' : Nat} {w : World} {v : Value} {s : Sta} (h : StaV B w v s) (hb : B ≤ B') : StaV B' w v s := by
  obtain ⟨a, b, e, h⟩ := h; exact ⟨a, b, e, h.more hb⟩
structure ThIn (t : Th) : Prop where
  at' : NumM.inR t.at'
  regs : ∀ n ∈ t.regs, NumM.inR n
  buf : ∀ w ∈ t.buf, WrIn w
/-- What is in range in a state. -/
structure StaIn (s : Sta) : Prop where
  mem : ∀ n ∈ s.mem, NumM.inR n
  ths : ∀ t ∈ s.ths, ThIn t
section
variable {H : Type} {enc : TypeId × Value → H} {w : World} {base : Nat} {spare : Nat → Bool} {held : Bool}
theorem bool_cell {P : Program} {t : TypeId} {x : Value} {y : DataW H × List MemPlace} {n : Nat} (ht : P.underlying t = some .bool)
    (h : DataW.trod enc P w base spare held n t [x] = some y) : ∃ b, x = .bool b := by
  obtain ⟨b, e, _⟩ := DataW.trod_bool ht h
  injection e with e _
  exact ⟨b, e⟩
end
end Go.Proofs.Ytbgjamoflbdhoaa
namespace Go.Proofs.Ytbgjamoflbdhoaa
open Go.RowKit
set_option linter.unusedVariables false
set_option linter.unusedSimpArgs false
open BfM (Wr plc)
open ScM

/-- A thread, and the values of its two rows. -/
structure TV where
  t : Th
  vr : Value
  vb : Value
def thC (p : TV) : List Value := [.int .i64 p.t.at', p.vr, .bool p.t.eq, p.vb]
theorem thC_len (p : TV) : (thC p).length = 4 := rfl
theorem flat_set4 : ∀ (ps : List TV) (k : Nat) (q : TV), k < ps.length →
    (((((ps.flatMap thC).set (k * 4) (.int .i64 q.t.at')).set (k * 4 + 1) q.vr).set (k * 4 + 2) (.bool q.t.eq)).set (k * 4 + 3) q.vb) = (ps.set k q).flatMap thC
  | [], k, q, h => absurd h (Nat.not_lt_zero k)
  | p :: r, 0, q, h => rfl
  | p :: r, k + 1, q, h => by
    have e : (k + 1) * 4 = k * 4 + 4 := by omega
    rw [e, List.set_cons_succ, List.flatMap_cons, List.flatMap_cons, ← flat_set4 r k q (by simpa using h)]
    show ((((((Value.int .i64 p.t.at') :: p.vr :: (.bool p.t.eq) :: p.vb :: r.flatMap thC).set (k * 4 + 4) _).set (k * 4 + 4 + 1) _).set (k * 4 + 4 + 2) _).set (k * 4 + 4 + 3) _) = (Value.int .i64 p.t.at') :: p.vr :: (.bool p.t.eq) :: p.vb :: (((((r.flatMap thC).set (k * 4) (.int .i64 q.t.at')).set (k * 4 + 1) q.vr).set (k * 4 + 2) (.bool q.t.eq)).set (k * 4 + 3) q.vb)
    simp only [show k * 4 + 4 + 1 = k * 4 + 1 + 4 by omega, show k * 4 + 4 + 2 = k * 4 + 2 + 4 by omega, show k * 4 + 4 + 3 = k * 4 + 3 + 4 by omega, List.set_cons_succ]
/-- Two values whose rows are not one. -/
def Ap (v u : Value) : Prop := ∀ g, v.ownBlock = some g → u.ownBlock ≠ some g
theorem ap_symm {v u : Value} (h : Ap v u) : Ap u v := fun g hu hv => h g hv hu
theorem own_unlike {b1 b2 T1 T2 s1 s2 n1 n2 : Nat} {w : World} {v u : Value} {xs ys : List Value} (hT : T1 ≠ T2) (h1 : w.ownsRow b1 T1 s1 v n1 xs) (h2 : w.ownsRow b2 T2 s2 u n2 ys) : Ap v u := by
  intro g e1 e2
  rcases h1.2 with ⟨rfl, _⟩ | ⟨g1, c1, cur1, rfl, _, hh1, _⟩
  · cases e1
  · rcases h2.2 with ⟨rfl, _⟩ | ⟨g2, c2, cur2, rfl, _, hh2, _⟩
    · cases e2
    · injection e1 with e1; injection e2 with e2
      have e1 : g1 = g := e1
      have e2 : g2 = g := e2
      subst e1; subst e2
      rw [hh1] at hh2; injection hh2 with hh2; injection hh2 with _ hh2
      exact hT hh2
theorem own_keep {b T s n g k : Nat} {w : World} {v : Value} {xs : List Value} (h : w.ownsRow b T s v n xs) (hv : v.ownBlock ≠ some g) (x : Value) : (w.setCell ⟨g, k, none⟩ x).ownsRow b T s v n xs :=
  ownsRow_setCell_other (a := ⟨g, k, none⟩) h (fun e => hv e) x
/-- The state s in rows of the call's own: those of the locations, of the threads, and theirs. -/
structure OwnSt (base : Nat) (w : World) (vm vt : Value) (s : Sta) (ps : List TV) : Prop where
  mem : OwnI base w vm s.mem
  ths : w.ownsRow base 55 4 vt s.ths.length (ps.flatMap thC)
  eq : ps.map (·.t) = s.ths
  each : ∀ p ∈ ps, OwnI base w p.vr p.t.regs ∧ OwnW base w p.vb p.t.buf ∧ Ap vm p.vr
  ap : (ps.map (·.vr)).Pairwise Ap
theorem OwnSt.len {base : Nat} {w : World} {vm vt : Value} {s : Sta} {ps : List TV} (h : OwnSt base w vm vt s ps) : ps.length = s.ths.length := by rw [← h.eq, List.length_map]
theorem OwnSt.below {base : Nat} {w w' : World} {vm vt : Value} {s : Sta} {ps : List TV} (h : OwnSt base w vm vt s ps) (hb : Below w.heap.size w w') : OwnSt base w' vm vt s ps :=
  ⟨own_below h.mem hb, own_below h.ths hb, h.eq, fun p hp => ⟨own_below (h.each p hp).1 hb, own_below (h.each p hp).2.1 hb, (h.each p hp).2.2⟩, h.ap⟩
/-- It reads as the state. -/
theorem OwnSt.read {base B : Nat} {w : World} {vm vt : Value} {s : Sta} {ps : List TV} (h : OwnSt base w vm vt s ps) (hB : w.heap.size ≤ B) : StaM B w vm vt s := by
  refine ⟨Rw.own h.mem hB, ?_⟩
  have hl := h.len
  have ho := h.ths
  rcases id ho.2 with ⟨e, h0⟩ | ⟨g, cap, cur, e, hbg, hg, hnc, hcm, hcs, htake⟩
  · exact ⟨none, 0, by rw [e, h0], by omega, by decide, fun _ => ⟨h0, rfl⟩, fun k => absurd k (by omega)⟩
  · subst e
    refine ⟨_, cap, rfl, hnc, hcm, fun e => (by cases e), fun _ => ⟨g, 0, rfl, by have := (Array.getElem?_eq_some_iff.1 hg).1; omega, fun j hj => ?_⟩⟩
    have hjp : j < ps.length := by omega
    have hc : ∀ i, i < 4 → w.cell? ⟨g, 0 + j * 4 + i, none⟩ = (thC ps[j])[i]? := fun i hi => by
      rw [Nat.zero_add, ho.cellAt (j * 4 + i) (by omega), fl_at thC_len ps j i hjp hi]
    have hte : s.ths[j] = ps[j].t := by
      have : (ps.map (·.t))[j]'(by simpa using hjp) = ps[j].t := by simp
      rw [← this]; congr 1; exact h.eq.symm
    obtain ⟨e1, e2, _⟩ := h.each _ (List.getElem_mem hjp)
    rw [hte]
    exact ⟨_, _, hc 0 (by decide), hc 1 (by decide), hc 2 (by decide), hc 3 (by decide), Rw.own e1 hB, Rw.own e2 hB⟩
theorem nuC_set : ∀ (m : List Int) (k : Nat) (x : Int), (m.flatMap nuC).set k (.int .i64 x) = (m.set k x).flatMap nuC
  | [], k, x => rfl
  | a :: r, 0, x => rfl
  | a :: r, k + 1, x => by
    rw [List.set_cons_succ, List.flatMap_cons, List.flatMap_cons]
    show (Value.int .i64 a :: r.flatMap nuC).set (k + 1) _ = Value.int .i64 a :: (r.set k x).flatMap nuC
    rw [List.set_cons_succ, nuC_set r k x]
theorem ownN_set {base g c n : Nat} {w : World} {m : List Int} (h : w.ownsRow base 3 1 (.slice (some ⟨g, 0, none⟩) n c) n (m.flatMap nuC)) (k : Nat) (x : Int) : (w.setCell ⟨g, k, none⟩ (.int .i64 x)).ownsRow base 3 1 (.slice (some ⟨g, 0, none⟩) n c) n ((m.set k x).flatMap nuC) := by
  have := (h.stored k (.int .i64 x)).1
  rw [nuC_set] at this; exact this
theorem neT : (3 : TypeId) ≠ 55 := by decide
theorem neW : (3 : TypeId) ≠ 78 := by decide
theorem neV : (78 : TypeId) ≠ 55 := by decide
/-- A store into the row of locations. -/
theorem OwnSt.setM {base g c : Nat} {w : World} {vt : Value} {s : Sta} {ps : List TV} (h : OwnSt base w (.slice (some ⟨g, 0, none⟩) s.mem.length c) vt s ps) (k : Nat) (x : Int) :
    OwnSt base (w.setCell ⟨g, k, none⟩ (.int .i64 x)) (.slice (some ⟨g, 0, none⟩) s.mem.length c) vt ⟨s.mem.set k x, s.ths⟩ ps := by
  have hg : (Value.slice (some ⟨g, 0, none⟩) s.mem.length c).ownBlock = some g := rfl
  refine ⟨?_, own_keep h.ths (own_unlike neT h.mem h.ths g hg) _, h.eq, fun p hp => ?_, h.ap⟩
  · have := ownN_set h.mem k x
    unfold OwnI
    rw [List.length_set]
    exact this
  · obtain ⟨e1, e2, e3⟩ := h.each p hp
    exact ⟨own_keep e1 (e3 g hg) _, own_keep e2 (own_unlike neW h.mem e2 g hg) _, e3⟩
theorem map_vr_set {ps : List TV} {t : Nat} (ht : t < ps.length) (q : TV) (hq : q.vr = ps[t].vr) : (ps.set t q).map (·.vr) = ps.map (·.vr) := by
  rw [List.map_set, hq]
  have : ps[t].vr = (ps.map (·.vr))[t]'(by simpa using ht) := by simp
  rw [this, List.set_getElem_self]
theorem OwnSt.apart {base : Nat} {w : World} {vm vt : Value} {s : Sta} {ps : List TV} (h : OwnSt base w vm vt s ps) {i j : Nat} (hi : i < ps.length) (hj : j < ps.length) (hne : i ≠ j) : Ap ps[i].vr ps[j].vr := by
  have hp := List.pairwise_iff_getElem.1 h.ap
  rcases Nat.lt_or_ge i j with k | k
  · have := hp i j (by simpa using hi) (by simpa using hj) k
    simpa using this
  · have := hp j i (by simpa using hj) (by simpa using hi) (by omega)
    exact ap_symm (by simpa using this)
/-- A store into a thread's row of registers. -/
theorem OwnSt.setR {base g n c t : Nat} {w : World} {vm vt : Value} {s : Sta} {ps : List TV} (h : OwnSt base w vm vt s ps) (ht : t < ps.length) (hv : ps[t].vr = .slice (some ⟨g, 0, none⟩) n c) (k : Nat) (x : Int) (q : TV)
    (hq : q = ⟨{ ps[t].t with regs := ps[t].t.regs.set k x }, ps[t].vr, ps[t].vb⟩) :
    OwnSt base (w.setCell ⟨g, k, none⟩ (.int .i64 x)) vm vt ⟨s.mem, s.ths.set t q.t⟩ (ps.set t q) := by
  have hg : ps[t].vr.ownBlock = some g := by rw [hv]; rfl
  obtain ⟨e1, e2, e3⟩ := h.each _ (List.getElem_mem ht)
  refine ⟨own_keep h.mem (fun e => e3 g e hg) _, ?_, by rw [List.map_set, h.eq], fun p hp => ?_, ?_⟩
  · have hfl : (ps.set t q).flatMap thC = ps.flatMap thC := by
      rw [List.flatMap_def, List.flatMap_def, List.map_set]
      congr 1
      have : thC q = (ps.map thC)[t]'(by simpa using ht) := by rw [hq]; simp [thC]
      rw [this, List.set_getElem_self]
    rw [hfl, List.length_set]
    exact own_keep h.ths (own_unlike neT e1 h.ths g hg) _
  · obtain ⟨j, hj, rfl⟩ := List.mem_iff_getElem.1 hp
    have hj' : j < ps.length := by simpa using hj
    rw [List.getElem_set]
    by_cases e : t = j
    · rw [if_pos e]
      subst hq
      refine ⟨?_, own_keep e2 (own_unlike neW e1 e2 g hg) _, e3⟩
      have hn : n = ps[t].t.regs.length := by
        have := own_slice e1
        obtain ⟨A, c', e'⟩ := this
        rw [hv] at e'; injection e' with _ e' _
      have e1' := e1
      unfold OwnI at e1' ⊢
      rw [hv, ← hn] at e1'
      have := ownN_set e1' k x
      rw [hv]
      simp only [List.length_set]
      rw [← hn]; exact this
    · rw [if_neg e]
      obtain ⟨d1, d2, d3⟩ := h.each _ (List.getElem_mem hj')
      exact ⟨own_keep d1 (fun e' => (h.apart ht hj' e) g hg e') _, own_keep d2 (own_unlike neW e1 d2 g hg) _, d3⟩
  · rw [map_vr_set ht q (by rw [hq])]; exact h.ap
/-- A store into the row of threads: where one is, and what it compared. -/
theorem OwnSt.setT {base g n c k : Nat} {w : World} {vm : Value} {s : Sta} {ps : List TV} (h : OwnSt base w vm (.slice (some ⟨g, 0, none⟩) n c) s ps) (hk : k < ps.length) (q : TV)
    (h1 : q.vr = ps[k].vr) (h2 : q.vb = ps[k].vb) (h3 : q.t.regs = ps[k].t.regs) (h4 : q.t.buf = ps[k].t.buf) :
    OwnSt base ((((w.setCell ⟨g, k * 4, none⟩ (.int .i64 q.t.at')).setCell ⟨g, k * 4 + 1, none⟩ q.vr).setCell ⟨g, k * 4 + 2, none⟩ (.bool q.t.eq)).setCell ⟨g, k * 4 + 3, none⟩ q.vb) vm (.slice (some ⟨g, 0, none⟩) n c) ⟨s.mem, s.ths.set k q.t⟩ (ps.set k q) := by
  have hg : (Value.slice (some ⟨g, 0, none⟩) n c).ownBlock = some g := rfl
  have hn : n = s.ths.length := by
    obtain ⟨A, c', e'⟩ := own_slice h.ths
    injection e' with _ e' _
  obtain ⟨w4, hw4⟩ : ∃ W, W = ((((w.setCell ⟨g, k * 4, none⟩ (.int .i64 q.t.at')).setCell ⟨g, k * 4 + 1, none⟩ q.vr).setCell ⟨g, k * 4 + 2, none⟩ (.bool q.t.eq)).setCell ⟨g, k * 4 + 3, none⟩ q.vb) := ⟨_, rfl⟩
  have hno : ∀ {b T s' n' : Nat} {v : Value} {xs : List Value}, w.ownsRow b T s' v n' xs → v.ownBlock ≠ some g → w4.ownsRow b T s' v n' xs :=
    fun hh hv => by rw [hw4]; exact own_keep (own_keep (own_keep (own_keep hh hv _) hv _) hv _) hv _
  have hT : w4.ownsRow base 55 4 (.slice (some ⟨g, 0, none⟩) n c) n ((ps.set k q).flatMap thC) := by
    have e := h.ths
    rw [← hn] at e
    have := ((((e.stored (k * 4) (.int .i64 q.t.at')).1.stored (k * 4 + 1) q.vr).1.stored (k * 4 + 2) (.bool q.t.eq)).1.stored (k * 4 + 3) q.vb).1
    rw [flat_set4 ps k q hk] at this
    rw [hw4]; exact this
  rw [← hw4]
  clear hw4
  refine ⟨hno h.mem (fun e => own_unlike neT h.mem h.ths g e hg), by rw [List.length_set, ← hn]; exact hT, by rw [List.map_set, h.eq], fun p hp => ?_, by rw [map_vr_set hk q h1]; exact h.ap⟩
  obtain ⟨j, hj, rfl⟩ := List.mem_iff_getElem.1 hp
  have hj' : j < ps.length := by simpa using hj
  rw [List.getElem_set]
  by_cases e : k = j
  · rw [if_pos e]
    obtain ⟨d1, d2, d3⟩ := h.each _ (List.getElem_mem hk)
    rw [h1, h2, h3, h4]
    exact ⟨hno d1 (fun e' => own_unlike neT d1 h.ths g e' hg), hno d2 (fun e' => own_unlike neV d2 h.ths g e' hg), d3⟩
  · rw [if_neg e]
    obtain ⟨d1, d2, d3⟩ := h.each _ (List.getElem_mem hj')
    exact ⟨hno d1 (fun e' => own_unlike neT d1 h.ths g e' hg), hno d2 (fun e' => own_unlike neV d2 h.ths g e' hg), d3⟩
end Go.Proofs.Ytbgjamoflbdhoaa
namespace Go.Proofs.Ytbgjamoflbdhoaa
set_option linter.unusedVariables false
set_option linter.unusedSimpArgs false
namespace ScM
open CodM (St Pg rightP hReg hLoc hTo)
open BfM (Wr plc)

/-- What a right code's step has. -/
structure StP (places len k : Nat) (s : St) : Prop where
  op : 1 ≤ s.op ∧ s.op ≤ 10
  reg : hReg s.op = true → 0 ≤ s.reg ∧ s.reg ≤ 3
  loc : hLoc s.op = true → 0 ≤ s.loc ∧ s.loc < places
  to : 8 ≤ s.op → (k : Int) + 1 ≤ s.to ∧ s.to ≤ len
theorem stp_of {P : Pg} (h : rightP P = true) {t k : Nat} (ht : t < P.ths.length) (hk : k < P.ths[t].length) : StP P.init.length P.ths[t].length k P.ths[t][k] := by
  unfold rightP at h
  simp only [Bool.and_eq_true, List.all_eq_true] at h
  have h1 := (CodM.rightT_at (h.2 _ (List.getElem_mem ht))).2 k hk
  unfold CodM.rightS CodM.zOr at h1
  simp only [Bool.and_eq_true, decide_eq_true_eq] at h1
  obtain ⟨⟨h2, h3⟩, h4, h5, -, h6⟩ := h1
  refine ⟨⟨h2, h3⟩, fun e => ?_, fun e => ?_, fun e => ?_⟩
  · rw [e] at h4; simp only [if_true, Bool.and_eq_true, decide_eq_true_eq] at h4; exact h4
  · rw [e] at h5; simp only [if_true, Bool.and_eq_true, decide_eq_true_eq] at h5; omega
  · have e' : hTo (P.ths[t][k]).op = true := decide_eq_true e
    rw [e'] at h6; simp only [if_true, Bool.and_eq_true, decide_eq_true_eq] at h6; exact h6
theorem right_ths {P : Pg} (h : rightP P = true) : P.init.length ≤ 4 ∧ 1 ≤ P.ths.length ∧ P.ths.length ≤ 3 ∧ ∀ t (ht : t < P.ths.length), P.ths[t].length ≤ 80 := by
  unfold rightP at h
  simp only [Bool.and_eq_true, List.all_eq_true, decide_eq_true_eq] at h
  obtain ⟨⟨h1, h2, h3⟩, h4⟩ := h
  exact ⟨h1, h2, h3, fun t ht => (CodM.rightT_at (h4 _ (List.getElem_mem ht))).1⟩
theorem jumps_op {x : St} {e : Bool} (h : jumps x e = true) : 8 ≤ x.op := by
  unfold jumps at h
  simp only [Bool.or_eq_true, Bool.and_eq_true, decide_eq_true_eq] at h
  omega
/-- Where a step goes. -/
theorem goes {P : Pg} (hr : rightP P = true) {s : Sta} (ho : OkSt P s) {k : Nat} (h1 : k < s.ths.length) (h2 : k < P.ths.length) (h3 : s.ths[k].at'.toNat < P.ths[k].length) :
    s.ths[k].at' < (stT P.ths[k][s.ths[k].at'.toNat] s.mem s.ths[k]).at' ∧ (stT P.ths[k][s.ths[k].at'.toNat] s.mem s.ths[k]).at' ≤ P.ths[k].length := by
  have hp := stp_of hr h2 h3
  have ht := ho.th k h1 h2
  have lo := ht.lo
  have hi := ht.hi
  unfold stT
  simp only []
  split
  · rename_i hj
    obtain ⟨a, b⟩ := hp.to (jumps_op hj)
    constructor
    · omega
    · exact b
  · constructor <;> omega
theorem stp_at {P : Pg} {s : Sta} {k : Nat} (h1 : k < s.ths.length) (h2 : k < P.ths.length) (h3 : s.ths[k].at'.toNat < P.ths[k].length) :
    stp P s k = ⟨stM P.ths[k][s.ths[k].at'.toNat] s.mem s.ths[k].regs, s.ths.set k (stT P.ths[k][s.ths[k].at'.toNat] s.mem s.ths[k])⟩ := by
  unfold stp
  rw [atS_at h1 h2 h3]
  simp [h1]
theorem stp_no {P : Pg} {s : Sta} {t : Int} (h : atS P s t = none) : stp P s t = s := by
  unfold stp; rw [h]
theorem stp_len (P : Pg) (s : Sta) (t : Int) : (stp P s t).mem.length = s.mem.length ∧ (stp P s t).ths.length = s.ths.length := by
  unfold stp
  split
  · exact ⟨stM_len _ _ _, by simp⟩
  · exact ⟨rfl, rfl⟩
/-- A right state stays right. -/
theorem stp_ok {P : Pg} (hr : rightP P = true) {s : Sta} (ho : OkSt P s) (t : Int) : OkSt P (stp P s t) := by
  cases e : atS P s t with
  | none => rw [stp_no e]; exact ho
  | some x =>
    obtain ⟨k, rfl, h1, h2, h3, rfl⟩ := atS_some e
    have hg := goes hr ho h1 h2 h3
    obtain ⟨hl1, hl2⟩ := stp_len P s k
    refine ⟨hl1.trans ho.mem, hl2.trans ho.ths, fun u h h' => ?_⟩
    rw [hl1]
    have hu : u < s.ths.length := by omega
    simp only [stp_at h1 h2 h3, List.getElem_set]
    by_cases c : k = u
    · subst c
      rw [if_pos rfl]
      have hk := ho.th k h1 h2
      exact ⟨by have := hk.lo; omega, hg.2, (stR_len _ _ _).trans hk.regs, hk.buf⟩
    · rw [if_neg c]
      exact ho.th u hu h'
/-- The steps that are left, of all threads. -/
def left (P : Pg) (s : Sta) : Nat := (List.range P.ths.length).foldl (fun a t => a + ((P.ths.getD t []).length - (s.ths.getD t begTh).at'.toNat)) 0
end ScM
end Go.Proofs.Ytbgjamoflbdhoaa
namespace Go.Proofs.Ytbgjamoflbdhoaa
open Go.RowKit
set_option linter.unusedVariables false
set_option linter.unusedSimpArgs false
open WordM (L)
open CodM (St Pg)

/-- Five cells from f on of block b hold the step s. -/
def StAt (w : World) (b f : Nat) (s : St) : Prop :=
  w.cell? ⟨b, f, none⟩ = some (.int .i64 s.op) ∧ w.cell? ⟨b, f + 1, none⟩ = some (.int .i64 s.reg) ∧ w.cell? ⟨b, f + 2, none⟩ = some (.int .i64 s.loc) ∧
    w.cell? ⟨b, f + 3, none⟩ = some (.int .i64 s.n) ∧ w.cell? ⟨b, f + 4, none⟩ = some (.int .i64 s.to)
theorem StAt.below {w w' : World} {B b f : Nat} {s : St} (h : StAt w b f s) (hb : Below B w w') (hlt : b < B) : StAt w' b f s :=
  ⟨(hb.cell (p := ⟨b, f, none⟩) hlt).trans h.1, (hb.cell (p := ⟨b, f + 1, none⟩) hlt).trans h.2.1, (hb.cell (p := ⟨b, f + 2, none⟩) hlt).trans h.2.2.1, (hb.cell (p := ⟨b, f + 3, none⟩) hlt).trans h.2.2.2.1, (hb.cell (p := ⟨b, f + 4, none⟩) hlt).trans h.2.2.2.2⟩
/-- One cell holds a number. -/
def IntAt (w : World) (b f : Nat) (n : Int) : Prop := w.cell? ⟨b, f, none⟩ = some (.int .i64 n)
theorem IntAt.below {w w' : World} {B b f : Nat} {n : Int} (h : IntAt w b f n) (hb : Below B w w') (hlt : b < B) : IntAt w' b f n := (hb.cell (p := ⟨b, f, none⟩) hlt).trans h
def Sts (B : Nat) (w : World) (v : Value) (xs : List St) : Prop :=
  ∃ A c, v = .slice A xs.length c ∧ xs.length ≤ c ∧ c ≤ maxLen ∧
    (0 < xs.length → ∃ b f, A = some ⟨b, f, none⟩ ∧ b < B ∧ ∀ j (h : j < xs.length), StAt w b (f + j * 5) xs[j])
theorem Sts.below {B : Nat} {w w' : World} {v : Value} {xs : List St} (h : Sts B w v xs) (hb : Below B w w') : Sts B w' v xs := by
  obtain ⟨A, c, e, h1, h2, h3⟩ := h
  refine ⟨A, c, e, h1, h2, fun k => ?_⟩
  obtain ⟨b, f, e2, h4, h5⟩ := h3 k
  exact ⟨b, f, e2, h4, fun j hj => (h5 j hj).below hb h4⟩
theorem Sts.more {B B' : Nat} {w : World} {v : Value} {xs : List St} (h : Sts B w v xs) (hb : B ≤ B') : Sts B' w v xs := by
  obtain ⟨A, c, e, h1, h2, h3⟩ := h
  refine ⟨A, c, e, h1, h2, fun k => ?_⟩
  obtain ⟨b, f, e2, h4, h5⟩ := h3 k
  exact ⟨b, f, e2, by omega, h5⟩
/-- One cell holds a row of steps. -/
def SsAt (B : Nat) (w : World) (b f : Nat) (ss : List St) : Prop := ∃ v, w.cell? ⟨b, f, none⟩ = some v ∧ Sts B w v ss
theorem SsAt.below {w w' : World} {B b f : Nat} {ss : List St} (h : SsAt B w b f ss) (hb : Below B w w') (hlt : b < B) : SsAt B w' b f ss := by
  obtain ⟨v, h1, h2⟩ := h
  exact ⟨v, (hb.cell (p := ⟨b, f, none⟩) hlt).trans h1, h2.below hb⟩
theorem SsAt.more {w : World} {B B' b f : Nat} {ss : List St} (h : SsAt B w b f ss) (hb : B ≤ B') : SsAt B' w b f ss := by
  obtain ⟨v, h1, h2⟩ := h
  exact ⟨v, h1, h2.more hb⟩
def Sss (B : Nat) (w : World) (v : Value) (xs : List (List St)) : Prop :=
  ∃ A c, v = .slice A xs.length c ∧ xs.length ≤ c ∧ c ≤ maxLen ∧
    (0 < xs.length → ∃ b f, A = some ⟨b, f, none⟩ ∧ b < B ∧ ∀ j (h : j < xs.length), SsAt B w b (f + j) xs[j])
theorem Sss.below {B : Nat} {w w' : World} {v : Value} {xs : List (List St)} (h : Sss B w v xs) (hb : Below B w w') : Sss B w' v xs := by
  obtain ⟨A, c, e, h1, h2, h3⟩ := h
  refine ⟨A, c, e, h1, h2, fun k => ?_⟩
  obtain ⟨b, f, e2, h4, h5⟩ := h3 k
  exact ⟨b, f, e2, h4, fun j hj => (h5 j hj).below hb h4⟩
theorem Sss.more {B B' : Nat} {w : World} {v : Value} {xs : List (List St)} (h : Sss B w v xs) (hb : B ≤ B') : Sss B' w v xs := by
  obtain ⟨A, c, e, h1, h2, h3⟩ := h
  refine ⟨A, c, e, h1, h2, fun k => ?_⟩
  obtain ⟨b, f, e2, h4, h5⟩ := h3 k
  exact ⟨b, f, e2, by omega, fun j hj => (h5 j hj).more hb⟩
def Ints (B : Nat) (w : World) (v : Value) (xs : List Int) : Prop :=
  ∃ A c, v = .slice A xs.length c ∧ xs.length ≤ c ∧ c ≤ maxLen ∧
    (0 < xs.length → ∃ b f, A = some ⟨b, f, none⟩ ∧ b < B ∧ ∀ j (h : j < xs.length), IntAt w b (f + j) xs[j])
theorem Ints.below {B : Nat} {w w' : World} {v : Value} {xs : List Int} (h : Ints B w v xs) (hb : Below B w w') : Ints B w' v xs := by
  obtain ⟨A, c, e, h1, h2, h3⟩ := h
  refine ⟨A, c, e, h1, h2, fun k => ?_⟩
  obtain ⟨b, f, e2, h4, h5⟩ := h3 k
  exact ⟨b, f, e2, h4, fun j hj => (h5 j hj).below hb h4⟩
theorem Ints.more {B B' : Nat} {w : World} {v : Value} {xs : List Int} (h : Ints B w v xs) (hb : B ≤ B') : Ints B' w v xs := by
  obtain ⟨A, c, e, h1, h2, h3⟩ := h
  refine ⟨A, c, e, h1, h2, fun k => ?_⟩
  obtain ⟨b, f, e2, h4, h5⟩ := h3 k
  exact ⟨b, f, e2, by omega, h5⟩
/-- What the two slices of a code hold. -/
def PgM (B : Nat) (w : World) (vi vt : Value) (P : Pg) : Prop := Ints B w vi P.init ∧ Sss B w vt P.ths
theorem PgM.below {B : Nat} {w w' : World} {vi vt : Value} {P : Pg} (h : PgM B w vi vt P) (hb : Below B w w') : PgM B w' vi vt P := ⟨h.1.below hb, h.2.below hb⟩
theorem PgM.more {B B' : Nat} {w : World} {vi vt : Value} {P : Pg} (h : PgM B w vi vt P) (hb : B ≤ B') : PgM B' w vi vt P := ⟨h.1.more hb, h.2.more hb⟩
/-- The value v is the code P, its slices in blocks below B. -/
def PgV (B : Nat) (w : World) (v : Value) (P : Pg) : Prop := ∃ vi vt, v = .agg #[vi, vt] ∧ PgM B w vi vt P
theorem PgV.below {B : Nat} {w w' : World} {v : Value} {P : Pg} (h : PgV B w v P) (hb : Below B w w') : PgV B w' v P := by
  obtain ⟨a, b, e, h⟩ := h; exact ⟨a, b, e, h.below hb⟩
theorem PgV.more {B B' : Nat} {w : World} {v : Value} {P : Pg} (h : PgV B w v P) (hb : B ≤ B') : PgV B' w v P := by
  obtain ⟨a, b, e, h⟩ := h; exact ⟨a, b, e, h.more hb⟩
/-! The cells of rows, as values. -/
/-! The table of what kinds of steps have. -/
end Go.Proofs.Ytbgjamoflbdhoaa
namespace Go.Proofs.Ytbgjamoflbdhoaa
open Go.RowKit
set_option linter.unusedVariables false
set_option linter.unusedSimpArgs false
open WordM (L)
open CodM (St Pg hasS cnt zOr hReg hLoc hNum hTo)

theorem ret_boolc {a b : Bool} (h : a = b) : Ending.returned (.bool a) = .returned (.bool b) := by rw [h]
end Go.Proofs.Ytbgjamoflbdhoaa
namespace Go.Proofs.Ytbgjamoflbdhoaa
open Go.RowKit
set_option linter.unusedVariables false
set_option linter.unusedSimpArgs false
open WordM (L)
open CodM (St Pg hasS cnt zOr hReg hLoc hNum hTo rightS rightT rightP)

def rS (op reg loc n to locs next fin : Int) : Bool :=
  (decide (1 ≤ op) && decide (op ≤ 10)) && (zOr (hReg op) reg 0 3 && (zOr (hLoc op) loc 0 (locs - 1) && ((hNum op || decide (n = 0)) && zOr (hTo op) to next fin)))
theorem rS_right (many len k : Nat) (s : St) : rightS many len k s = rS s.op s.reg s.loc s.n s.to many ((k : Int) + 1) len := rfl
abbrev stv (op reg loc n to : Int) : Value := .agg #[.int .i64 op, .int .i64 reg, .int .i64 loc, .int .i64 n, .int .i64 to]
end Go.Proofs.Ytbgjamoflbdhoaa
