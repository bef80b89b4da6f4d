/-
  PROGRAMS in memory: what it says that a value is a program, with its rows of cells, threads and atoms.
-/
import Derived.Test.YtodpajnpnobfmaaLns
import Derived.Test.YtodpajnpnobfmaaFM
import Derived.Test.YtodpajnpnobfmaaBox
namespace Go.Proofs.Ytodpajnpnobfmaa
open Go.RowKit
set_option linter.unusedVariables false
set_option linter.unusedSimpArgs false
open WordM (L)
open VM (Fl)

/-- Two cells from f on of block b hold a location's cell. -/
def ClAt (w : World) (b f : Nat) (c : L × Int) : Prop :=
  w.cell? ⟨b, f, none⟩ = some (.string ⟨c.1.toArray⟩) ∧ w.cell? ⟨b, f + 1, none⟩ = some (.int .i64 c.2)
/-- Three cells from f on hold an atom. -/
def AmAt (w : World) (b f : Nat) (a : AtomM.At) : Prop :=
  w.cell? ⟨b, f, none⟩ = some (.int .i64 a.t) ∧ w.cell? ⟨b, f + 1, none⟩ = some (.string ⟨a.nm.toArray⟩) ∧ w.cell? ⟨b, f + 2, none⟩ = some (.int .i64 a.n)
/-- One cell holds a thread. -/
def ThAt (B : Nat) (w : World) (b f : Nat) (ls : List OpsM.Ln) : Prop := ∃ v, w.cell? ⟨b, f, none⟩ = some v ∧ Lns B w v ls
theorem ClAt.below {w w' : World} {B b f : Nat} {c : L × Int} (h : ClAt w b f c) (hb : Below B w w') (hlt : b < B) : ClAt w' b f c :=
  ⟨(hb.cell (p := ⟨b, f, none⟩) hlt).trans h.1, (hb.cell (p := ⟨b, f + 1, none⟩) hlt).trans h.2⟩
theorem AmAt.below {w w' : World} {B b f : Nat} {a : AtomM.At} (h : AmAt w b f a) (hb : Below B w w') (hlt : b < B) : AmAt w' b f a :=
  ⟨(hb.cell (p := ⟨b, f, none⟩) hlt).trans h.1, (hb.cell (p := ⟨b, f + 1, none⟩) hlt).trans h.2.1, (hb.cell (p := ⟨b, f + 2, none⟩) hlt).trans h.2.2⟩
theorem ThAt.below {w w' : World} {B b f : Nat} {ls : List OpsM.Ln} (h : ThAt B w b f ls) (hb : Below B w w') (hlt : b < B) : ThAt B w' b f ls := by
  obtain ⟨v, h1, h2⟩ := h
  exact ⟨v, (hb.cell (p := ⟨b, f, none⟩) hlt).trans h1, h2.below hb⟩
theorem ThAt.more {w : World} {B B' b f : Nat} {ls : List OpsM.Ln} (h : ThAt B w b f ls) (hb : B ≤ B') : ThAt B' w b f ls := by
  obtain ⟨v, h1, h2⟩ := h
  exact ⟨v, h1, h2.more hb⟩

def Cls (B : Nat) (w : World) (v : Value) (cs : List (L × Int)) : Prop :=
  ∃ A c, v = .slice A cs.length c ∧ cs.length ≤ c ∧ c ≤ maxLen ∧
    (0 < cs.length → ∃ b f, A = some ⟨b, f, none⟩ ∧ b < B ∧ ∀ j (h : j < cs.length), ClAt w b (f + j * 2) cs[j])
def Ths (B : Nat) (w : World) (v : Value) (ts : List (List OpsM.Ln)) : Prop :=
  ∃ A c, v = .slice A ts.length c ∧ ts.length ≤ c ∧ c ≤ maxLen ∧
    (0 < ts.length → ∃ b f, A = some ⟨b, f, none⟩ ∧ b < B ∧ ∀ j (h : j < ts.length), ThAt B w b (f + j) ts[j])
def Ams (B : Nat) (w : World) (v : Value) (am : List AtomM.At) : Prop :=
  ∃ A c, v = .slice A am.length c ∧ am.length ≤ c ∧ c ≤ maxLen ∧
    (0 < am.length → ∃ b f, A = some ⟨b, f, none⟩ ∧ b < B ∧ ∀ j (h : j < am.length), AmAt w b (f + j * 3) am[j])
section
variable {B B' : Nat} {w w' : World} {v : Value}
theorem Cls.below {cs : List (L × Int)} (h : Cls B w v cs) (hb : Below B w w') : Cls B w' v cs := by
  obtain ⟨A, c, e, h1, h2, h3⟩ := h
  refine ⟨A, c, e, h1, h2, fun k => ?_⟩
  obtain ⟨b, f, e2, h4, h5⟩ := h3 k
  exact ⟨b, f, e2, h4, fun j hj => (h5 j hj).below hb h4⟩
theorem Cls.more {cs : List (L × Int)} (h : Cls B w v cs) (hb : B ≤ B') : Cls B' w v cs := by
  obtain ⟨A, c, e, h1, h2, h3⟩ := h
  refine ⟨A, c, e, h1, h2, fun k => ?_⟩
  obtain ⟨b, f, e2, h4, h5⟩ := h3 k
  exact ⟨b, f, e2, by omega, h5⟩
theorem Ths.below {ts : List (List OpsM.Ln)} (h : Ths B w v ts) (hb : Below B w w') : Ths B w' v ts := by
  obtain ⟨A, c, e, h1, h2, h3⟩ := h
  refine ⟨A, c, e, h1, h2, fun k => ?_⟩
  obtain ⟨b, f, e2, h4, h5⟩ := h3 k
  exact ⟨b, f, e2, h4, fun j hj => (h5 j hj).below hb h4⟩
theorem Ths.more {ts : List (List OpsM.Ln)} (h : Ths B w v ts) (hb : B ≤ B') : Ths B' w v ts := by
  obtain ⟨A, c, e, h1, h2, h3⟩ := h
  refine ⟨A, c, e, h1, h2, fun k => ?_⟩
  obtain ⟨b, f, e2, h4, h5⟩ := h3 k
  exact ⟨b, f, e2, by omega, fun j hj => (h5 j hj).more hb⟩
theorem Ams.below {am : List AtomM.At} (h : Ams B w v am) (hb : Below B w w') : Ams B w' v am := by
  obtain ⟨A, c, e, h1, h2, h3⟩ := h
  refine ⟨A, c, e, h1, h2, fun k => ?_⟩
  obtain ⟨b, f, e2, h4, h5⟩ := h3 k
  exact ⟨b, f, e2, h4, fun j hj => (h5 j hj).below hb h4⟩
theorem Ams.more {am : List AtomM.At} (h : Ams B w v am) (hb : B ≤ B') : Ams B' w v am := by
  obtain ⟨A, c, e, h1, h2, h3⟩ := h
  refine ⟨A, c, e, h1, h2, fun k => ?_⟩
  obtain ⟨b, f, e2, h4, h5⟩ := h3 k
  exact ⟨b, f, e2, by omega, h5⟩
end
/-- A program as a value: its name, three slices, a bool. -/
def flv (nm : ByteArray) (vi vt vc : Value) (al : Bool) : Value := .agg #[.string nm, vi, vt, .bool al, vc]
/-- What the three slices hold. -/
def FlM (B : Nat) (w : World) (vi vt vc : Value) (F : Fl) : Prop := Cls B w vi F.init ∧ Ths B w vt F.ths ∧ Ams B w vc F.cond
theorem FlM.below {B : Nat} {w w' : World} {vi vt vc : Value} {F : Fl} (h : FlM B w vi vt vc F) (hb : Below B w w') : FlM B w' vi vt vc F := ⟨h.1.below hb, h.2.1.below hb, h.2.2.below hb⟩
theorem FlM.more {B B' : Nat} {w : World} {vi vt vc : Value} {F : Fl} (h : FlM B w vi vt vc F) (hb : B ≤ B') : FlM B' w vi vt vc F := ⟨h.1.more hb, h.2.1.more hb, h.2.2.more hb⟩
/-- The value v is the program F, its slices in blocks below B. -/
def FlV (B : Nat) (w : World) (v : Value) (F : Fl) : Prop := ∃ vi vt vc, v = flv ⟨F.name.toArray⟩ vi vt vc F.all ∧ FlM B w vi vt vc F
theorem FlV.below {B : Nat} {w w' : World} {v : Value} {F : Fl} (h : FlV B w v F) (hb : Below B w w') : FlV B w' v F := by
  obtain ⟨a, b, c, e, h⟩ := h; exact ⟨a, b, c, e, h.below hb⟩
theorem FlV.more {B B' : Nat} {w : World} {v : Value} {F : Fl} (h : FlV B w v F) (hb : B ≤ B') : FlV B' w v F := by
  obtain ⟨a, b, c, e, h⟩ := h; exact ⟨a, b, c, e, h.more hb⟩
/-- A program's box: five cells of a block. -/
def FlBox (w : World) (g : Nat) (nm : ByteArray) (vi vt vc : Value) (al : Bool) : Prop :=
  w.cell? ⟨g, 0, none⟩ = some (.string nm) ∧ w.cell? ⟨g, 1, none⟩ = some vi ∧ w.cell? ⟨g, 2, none⟩ = some vt ∧ w.cell? ⟨g, 3, none⟩ = some (.bool al) ∧ w.cell? ⟨g, 4, none⟩ = some vc
theorem FlBox.below {w w' : World} {g : Nat} {nm : ByteArray} {vi vt vc : Value} {al : Bool} (h : FlBox w g nm vi vt vc al) (hB : Below w.heap.size w w') : FlBox w' g nm vi vt vc al := by
  obtain ⟨h0, h1, h2, h3, h4⟩ := h
  exact ⟨kc hB h0, kc hB h1, kc hB h2, kc hB h3, kc hB h4⟩
theorem FlBox.at {w : World} {g : Nat} (hg : g = w.heap.size) (nm : ByteArray) (vi vt vc : Value) (al : Bool) (T : TypeId) : FlBox (w.alloc (.cells #[.string nm, vi, vt, .bool al, vc] T)) g nm vi vt vc al := by
  subst hg
  refine ⟨?_, ?_, ?_, ?_, ?_⟩ <;> (rw [World.cell?_alloc_at _ _ _ _ rfl]; rfl)
/-- What a program must be for a machine to hold it. -/
structure FlOk (F : Fl) : Prop where
  name : F.name.length ≤ 100000
  init : ∀ c ∈ F.init, c.1.length ≤ 100000
  ths : ∀ ls ∈ F.ths, ls.length ≤ 100000 ∧ ∀ l ∈ ls, l.reg.length ≤ 100000 ∧ l.loc.length ≤ 100000 ∧ l.label.length ≤ 100000
  cond : ∀ a ∈ F.cond, a.nm.length ≤ 100000 ∧ NumM.inR a.t
  nums : F.init.length ≤ 100000 ∧ F.ths.length ≤ 100000 ∧ F.cond.length ≤ 100000
end Go.Proofs.Ytodpajnpnobfmaa
