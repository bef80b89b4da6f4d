/-
  PLAIN MATHEMATICS OF LAYER 7: programs as plain steps.
  STATES, as mathematics: which are right for a code, the first one, what a step makes.
  STATES in memory, and as arguments.
  STATES OF THE CALL's OWN: their rows lie apart; what a store into one of them makes of the state.
  STATES, as mathematics, 2: a step of a right code keeps a right state right; where it goes.
  CODES in memory: what it says that a value is a code, with its rows of numbers and of steps; the table of what kinds of steps have.
  package code, its small functions: hasStep, count, among, zeroOr, rightStep.
  code.rightStep, rightThread, Right: may a code be so?
-/
import Derived.Test.YtbffjhdocicfoaaK02
import Derived.Test.YtbffjhdocicfoaaK03
set_option linter.unusedVariables false
set_option linter.unusedSimpArgs false
namespace Go.Proofs.Ytbffjhdocicfoaa.CodM
open WordM (L)
open OpsM (Ln)
open VM (Fl)
set_option linter.unusedVariables false
set_option linter.unusedSimpArgs false

/-- A step. -/
structure St where
  op : Int
  reg : Int
  loc : Int
  n : Int
  to : Int
/-- A code. -/
structure Pg where
  init : List Int
  ths : List (List St)
def hasS (x : Ln) : Bool := !(x.op == 11)
def cnt (ls : List Ln) : Nat := (ls.filter hasS).length
/-- The first place at which p holds; -1, if it does nowhere. -/
def posI {A : Type} (p : A → Bool) (l : List A) : Int := match l.findIdx? p with | some k => (k : Int) | none => -1
def pos0 {A : Type} (p : A → Bool) (l : List A) : Nat := (l.findIdx? p).getD 0
/-- Is x a label of that name? -/
def isLab (s : L) (x : Ln) : Bool := !(hasS x) && decide (x.label = s)
def regI (r : L) : Int := max (WordM.regNo r) 0
def locN (locs : List L) (s : L) : Nat := pos0 (fun x => decide (x = s)) locs
def toN (ls : List Ln) (s : L) : Nat := cnt (ls.take (pos0 (isLab s) ls))
def stp (ls : List Ln) (locs : List L) (x : Ln) : St := ⟨x.op, regI x.reg, (locN locs x.loc : Int), x.n, (toN ls x.label : Int)⟩
/-! Lines and steps. -/
/-! Right codes. -/
def hReg (o : Int) : Bool := decide (o = 1) || (decide (o = 2) || (decide (o = 3) || (decide (o = 5) || decide (o = 7))))
def hLoc (o : Int) : Bool := decide (o = 2) || (decide (o = 3) || (decide (o = 4) || decide (o = 5)))
def hNum (o : Int) : Bool := decide (o = 1) || (decide (o = 4) || decide (o = 7))
def hTo (o : Int) : Bool := decide (8 ≤ o)
def zOr (has : Bool) (n least most : Int) : Bool := if has then decide (least ≤ n) && decide (n ≤ most) else decide (n = 0)
def rightS (many : Nat) (len : Nat) (at' : Nat) (s : St) : Bool :=
  (decide (1 ≤ s.op) && decide (s.op ≤ 10)) && (zOr (hReg s.op) s.reg 0 3 && (zOr (hLoc s.op) s.loc 0 ((many : Int) - 1) && ((hNum s.op || decide (s.n = 0)) && zOr (hTo s.op) s.to ((at' : Int) + 1) (len : Int))))
def rightT (many : Nat) (ss : List St) : Bool := decide (ss.length ≤ 80) && (List.range ss.length).all fun k => match ss[k]? with | some s => rightS many ss.length k s | none => false
def rightP (p : Pg) : Bool := decide (p.init.length ≤ 4) && (decide (1 ≤ p.ths.length) && decide (p.ths.length ≤ 3)) && p.ths.all (rightT p.init.length)
theorem rightT_all {many : Nat} {ss : List St} (h : ss.length ≤ 80) (hall : ∀ k (hk : k < ss.length), rightS many ss.length k ss[k] = true) : rightT many ss = true := by
  unfold rightT
  simp only [Bool.and_eq_true, decide_eq_true_eq, List.all_eq_true, List.mem_range]
  exact ⟨h, fun k hk => by rw [List.getElem?_eq_getElem hk]; exact hall k hk⟩
theorem rightT_many {many : Nat} {ss : List St} (h : 80 < ss.length) : rightT many ss = false := by
  unfold rightT; simp; intro h2; omega
theorem rightT_no {many : Nat} {ss : List St} {k : Nat} (hk : k < ss.length) (h : rightS many ss.length k ss[k] = false) : rightT many ss = false := by
  unfold rightT
  rw [Bool.and_eq_false_iff]; right
  rw [List.all_eq_false]
  exact ⟨k, List.mem_range.2 hk, by rw [List.getElem?_eq_getElem hk]; simp [h]⟩
theorem rightT_at {many : Nat} {ss : List St} (h : rightT many ss = true) : ss.length ≤ 80 ∧ ∀ k (hk : k < ss.length), rightS many ss.length k ss[k] = true := by
  unfold rightT at h
  simp only [Bool.and_eq_true, decide_eq_true_eq, List.all_eq_true, List.mem_range] at h
  refine ⟨h.1, fun k hk => ?_⟩
  have := h.2 k hk
  rwa [List.getElem?_eq_getElem hk] at this
end Go.Proofs.Ytbffjhdocicfoaa.CodM
namespace Go.Proofs.Ytbffjhdocicfoaa
set_option linter.unusedVariables false
set_option linter.unusedSimpArgs false
namespace ScM
open CodM (St Pg)
open BfM (Wr plc)

/-- A thread. -/
structure Th where
  at' : Int
  regs : List Int
  eq : Bool
  buf : List Wr
/-- A state. -/
structure Sta where
  mem : List Int
  ths : List Th
/-- May a thread be so, where it has so many steps, and there are so many places? -/
structure OkTh (len places : Nat) (x : Th) : Prop where
  lo : 0 ≤ x.at'
  hi : x.at' ≤ len
  regs : x.regs.length = 4
  buf : ∀ w ∈ x.buf, plc places w.loc = true
/-- May a state be so? -/
structure OkSt (P : Pg) (s : Sta) : Prop where
  mem : s.mem.length = P.init.length
  ths : s.ths.length = P.ths.length
  th : ∀ t (h : t < s.ths.length) (h2 : t < P.ths.length), OkTh P.ths[t].length s.mem.length s.ths[t]
def begTh : Th := ⟨0, [0, 0, 0, 0], false, []⟩
def beg (P : Pg) : Sta := ⟨P.init, P.ths.map fun _ => begTh⟩
theorem beg_ok (P : Pg) : OkSt P (beg P) := by
  refine ⟨rfl, by simp [beg], fun t h h2 => ?_⟩
  have : (beg P).ths[t] = begTh := by simp [beg]
  rw [this]
  exact ⟨by decide, by show (0 : Int) ≤ _; omega, rfl, fun w hw => by cases hw⟩
/-- The step at which a thread is. -/
def atS (P : Pg) (s : Sta) (t : Int) : Option St :=
  if 0 ≤ t then
    match s.ths[t.toNat]?, P.ths[t.toNat]? with
    | some x, some ss => ss[x.at'.toNat]?
    | _, _ => none
  else none
def jumps (x : St) (eq : Bool) : Bool := decide (x.op = 8) || (decide (x.op = 9) && eq) || (decide (x.op = 10) && !eq)
/-- A number of a row; 0, where there is none. -/
def nth (l : List Int) (k : Int) : Int := l.getD k.toNat 0
/-- What a step makes of locations, and of its thread. -/
def stM (x : St) (m : List Int) (r : List Int) : List Int :=
  if x.op = 3 then m.set x.loc.toNat (nth r x.reg) else if x.op = 4 then m.set x.loc.toNat x.n else if x.op = 5 then m.set x.loc.toNat (nth r x.reg) else m
def stR (x : St) (m : List Int) (r : List Int) : List Int :=
  if x.op = 1 then r.set x.reg.toNat x.n else if x.op = 2 then r.set x.reg.toNat (nth m x.loc) else if x.op = 5 then r.set x.reg.toNat (nth m x.loc) else r
def stE (x : St) (r : List Int) (e : Bool) : Bool := if x.op = 7 then decide (nth r x.reg = x.n) else e
def stT (x : St) (m : List Int) (h : Th) : Th := ⟨if jumps x h.eq then x.to else h.at' + 1, stR x m h.regs, stE x h.regs h.eq, h.buf⟩
/-- The state behind a thread's step; as it is, where it can't be taken. -/
def stp (P : Pg) (s : Sta) (t : Int) : Sta :=
  match atS P s t, s.ths[t.toNat]? with
  | some x, some h => ⟨stM x s.mem h.regs, s.ths.set t.toNat (stT x s.mem h)⟩
  | _, _ => s
theorem stM_len (x : St) (m r : List Int) : (stM x m r).length = m.length := by
  unfold stM; split; · simp
  split; · simp
  split <;> simp
theorem stR_len (x : St) (m r : List Int) : (stR x m r).length = r.length := by
  unfold stR; split; · simp
  split; · simp
  split <;> simp
theorem atS_some {P : Pg} {s : Sta} {t : Int} {x : St} (h : atS P s t = some x) : ∃ k : Nat, t = k ∧ ∃ (h1 : k < s.ths.length) (h2 : k < P.ths.length) (h3 : s.ths[k].at'.toNat < P.ths[k].length), x = P.ths[k][s.ths[k].at'.toNat] := by
  unfold atS at h
  split at h
  · rename_i ht
    refine ⟨t.toNat, by omega, ?_⟩
    generalize t.toNat = k at *
    cases e1 : s.ths[k]? with
    | none => rw [e1] at h; cases h
    | some y =>
      cases e2 : P.ths[k]? with
      | none => rw [e1, e2] at h; cases h
      | some ss =>
        rw [e1, e2] at h
        obtain ⟨h1, rfl⟩ := List.getElem?_eq_some_iff.1 e1
        obtain ⟨h2, rfl⟩ := List.getElem?_eq_some_iff.1 e2
        obtain ⟨h3, h4⟩ := List.getElem?_eq_some_iff.1 h
        exact ⟨h1, h2, h3, h4.symm⟩
  · cases h
theorem atS_at {P : Pg} {s : Sta} {k : Nat} (h1 : k < s.ths.length) (h2 : k < P.ths.length) (h3 : s.ths[k].at'.toNat < P.ths[k].length) : atS P s k = some P.ths[k][s.ths[k].at'.toNat] := by
  unfold atS
  rw [if_pos (by omega)]
  simp [h1, h2, h3]
theorem atS_none {P : Pg} {s : Sta} {t : Int} (h : ¬ ∃ k : Nat, t = k ∧ ∃ (h1 : k < s.ths.length) (h2 : k < P.ths.length), s.ths[k].at'.toNat < P.ths[k].length) : atS P s t = none := by
  cases e : atS P s t with
  | none => rfl
  | some x =>
    obtain ⟨k, e1, h1, h2, h3, _⟩ := atS_some e
    exact absurd ⟨k, e1, h1, h2, h3⟩ h
end ScM
end Go.Proofs.Ytbffjhdocicfoaa
namespace Go.Proofs.Ytbffjhdocicfoaa
open Go Go.ChangeShapes Go.WideShapes Go.RowKit Go.Deep
set_option linter.unusedVariables false
set_option linter.unusedSimpArgs false
set_option maxRecDepth 100000
open BfM (Wr plc)
open ScM

/-- Four cells from f on of block b hold the thread t. -/
def TdAt (B : Nat) (w : World) (b f : Nat) (t : Th) : Prop :=
  ∃ vr vb, w.cell? ⟨b, f, none⟩ = some (.int .i64 t.at') ∧ w.cell? ⟨b, f + 1, none⟩ = some vr ∧ w.cell? ⟨b, f + 2, none⟩ = some (.bool t.eq) ∧ w.cell? ⟨b, f + 3, none⟩ = some vb ∧ IntR B w vr t.regs ∧ WrR B w vb t.buf
theorem TdAt.below {w w' : World} {B b f : Nat} {t : Th} (h : TdAt B w b f t) (hb : Below B w w') (hlt : b < B) : TdAt B w' b f t := by
  obtain ⟨vr, vb, h0, h1, h2, h3, h4, h5⟩ := h
  exact ⟨vr, vb, (hb.cell (p := ⟨b, f, none⟩) hlt).trans h0, (hb.cell (p := ⟨b, f + 1, none⟩) hlt).trans h1, (hb.cell (p := ⟨b, f + 2, none⟩) hlt).trans h2, (hb.cell (p := ⟨b, f + 3, none⟩) hlt).trans h3, h4.below hb, h5.below hb⟩
theorem TdAt.more {w : World} {B B' b f : Nat} {t : Th} (h : TdAt B w b f t) (hb : B ≤ B') : TdAt B' w b f t := by
  obtain ⟨vr, vb, h0, h1, h2, h3, h4, h5⟩ := h
  exact ⟨vr, vb, h0, h1, h2, h3, h4.more hb, h5.more hb⟩
/-- The value v is a slice that reads as the threads ts. -/
def ThR (B : Nat) (w : World) (v : Value) (ts : List Th) : Prop :=
  ∃ A c, v = .slice A ts.length c ∧ ts.length ≤ c ∧ c ≤ maxLen ∧ (A = none → ts.length = 0 ∧ c = 0) ∧
    (0 < ts.length → ∃ b f, A = some ⟨b, f, none⟩ ∧ b < B ∧ ∀ j (h : j < ts.length), TdAt B w b (f + j * 4) ts[j])
theorem ThR.below {B : Nat} {w w' : World} {v : Value} {xs : List Th} (h : ThR B w v xs) (hb : Below B w w') : ThR B w' v xs := by
  obtain ⟨A, c, e, h1, h2, h0, h3⟩ := h
  refine ⟨A, c, e, h1, h2, h0, fun k => ?_⟩
  obtain ⟨b, f, e2, h4, h5⟩ := h3 k
  exact ⟨b, f, e2, h4, fun j hj => (h5 j hj).below hb h4⟩
theorem ThR.more {B B' : Nat} {w : World} {v : Value} {xs : List Th} (h : ThR B w v xs) (hb : B ≤ B') : ThR B' w v xs := by
  obtain ⟨A, c, e, h1, h2, h0, h3⟩ := h
  refine ⟨A, c, e, h1, h2, h0, fun k => ?_⟩
  obtain ⟨b, f, e2, h4, h5⟩ := h3 k
  exact ⟨b, f, e2, by omega, fun j hj => (h5 j hj).more hb⟩
/-- What the two slices of a state hold. -/
def StaM (B : Nat) (w : World) (vm vt : Value) (s : Sta) : Prop := IntR B w vm s.mem ∧ ThR B w vt s.ths
theorem StaM.below {B : Nat} {w w' : World} {vm vt : Value} {s : Sta} (h : StaM B w vm vt s) (hb : Below B w w') : StaM B w' vm vt s := ⟨h.1.below hb, h.2.below hb⟩
theorem StaM.more {B B' : Nat} {w : World} {vm vt : Value} {s : Sta} (h : StaM B w vm vt s) (hb : B ≤ B') : StaM B' w vm vt s := ⟨h.1.more hb, h.2.more hb⟩
/-- The value v is the state s, its rows in blocks below B. -/
def StaV (B : Nat) (w : World) (v : Value) (s : Sta) : Prop := ∃ vm vt, v = .agg #[vm, vt] ∧ StaM B w vm vt s
theorem StaV.below {B : Nat} {w w' : World} {v : Value} {s : Sta} (h : StaV B w v s) (hb : Below B w w') : StaV B w' v s := by
  obtain ⟨a, b, e, h⟩ := h; exact ⟨a, b, e, h.below hb⟩
theorem StaV.more {B B' : Nat} {w : World} {v : Value} {s : Sta} (h : StaV B w v s) (hb : B ≤ B') : StaV B' w v s := by
  obtain ⟨a, b, e, h⟩ := h; exact ⟨a, b, e, h.more hb⟩
structure ThIn (t : Th) : Prop where
  at' : NumM.inR t.at'
  regs : ∀ n ∈ t.regs, NumM.inR n
  buf : ∀ w ∈ t.buf, WrIn w
/-- What is in range in a state. -/
structure StaIn (s : Sta) : Prop where
  mem : ∀ n ∈ s.mem, NumM.inR n
  ths : ∀ t ∈ s.ths, ThIn t
section
variable {H : Type} {enc : TypeId × Value → H} {w : World} {base : Nat} {spare : Nat → Bool} {held : Bool}
end
end Go.Proofs.Ytbffjhdocicfoaa
namespace Go.Proofs.Ytbffjhdocicfoaa
open Go.RowKit
set_option linter.unusedVariables false
set_option linter.unusedSimpArgs false
open BfM (Wr plc)
open ScM

/-- A thread, and the values of its two rows. -/
structure TV where
  t : Th
  vr : Value
  vb : Value
def thC (p : TV) : List Value := [.int .i64 p.t.at', p.vr, .bool p.t.eq, p.vb]
theorem thC_len (p : TV) : (thC p).length = 4 := rfl
/-- Two values whose rows are not one. -/
def Ap (v u : Value) : Prop := ∀ g, v.ownBlock = some g → u.ownBlock ≠ some g
theorem ap_symm {v u : Value} (h : Ap v u) : Ap u v := fun g hu hv => h g hv hu
theorem own_unlike {b1 b2 T1 T2 s1 s2 n1 n2 : Nat} {w : World} {v u : Value} {xs ys : List Value} (hT : T1 ≠ T2) (h1 : w.ownsRow b1 T1 s1 v n1 xs) (h2 : w.ownsRow b2 T2 s2 u n2 ys) : Ap v u := by
  intro g e1 e2
  rcases h1.2 with ⟨rfl, _⟩ | ⟨g1, c1, cur1, rfl, _, hh1, _⟩
  · cases e1
  · rcases h2.2 with ⟨rfl, _⟩ | ⟨g2, c2, cur2, rfl, _, hh2, _⟩
    · cases e2
    · injection e1 with e1; injection e2 with e2
      have e1 : g1 = g := e1
      have e2 : g2 = g := e2
      subst e1; subst e2
      rw [hh1] at hh2; injection hh2 with hh2; injection hh2 with _ hh2
      exact hT hh2
theorem own_keep {b T s n g k : Nat} {w : World} {v : Value} {xs : List Value} (h : w.ownsRow b T s v n xs) (hv : v.ownBlock ≠ some g) (x : Value) : (w.setCell ⟨g, k, none⟩ x).ownsRow b T s v n xs :=
  ownsRow_setCell_other (a := ⟨g, k, none⟩) h (fun e => hv e) x
/-- The state s in rows of the call's own: those of the locations, of the threads, and theirs. -/
structure OwnSt (base : Nat) (w : World) (vm vt : Value) (s : Sta) (ps : List TV) : Prop where
  mem : OwnI base w vm s.mem
  ths : w.ownsRow base 94 4 vt s.ths.length (ps.flatMap thC)
  eq : ps.map (·.t) = s.ths
  each : ∀ p ∈ ps, OwnI base w p.vr p.t.regs ∧ OwnW base w p.vb p.t.buf ∧ Ap vm p.vr
  ap : (ps.map (·.vr)).Pairwise Ap
theorem OwnSt.len {base : Nat} {w : World} {vm vt : Value} {s : Sta} {ps : List TV} (h : OwnSt base w vm vt s ps) : ps.length = s.ths.length := by rw [← h.eq, List.length_map]
theorem OwnSt.below {base : Nat} {w w' : World} {vm vt : Value} {s : Sta} {ps : List TV} (h : OwnSt base w vm vt s ps) (hb : Below w.heap.size w w') : OwnSt base w' vm vt s ps :=
  ⟨own_below h.mem hb, own_below h.ths hb, h.eq, fun p hp => ⟨own_below (h.each p hp).1 hb, own_below (h.each p hp).2.1 hb, (h.each p hp).2.2⟩, h.ap⟩
/-- It reads as the state. -/
theorem OwnSt.read {base B : Nat} {w : World} {vm vt : Value} {s : Sta} {ps : List TV} (h : OwnSt base w vm vt s ps) (hB : w.heap.size ≤ B) : StaM B w vm vt s := by
  refine ⟨Rw.own h.mem hB, ?_⟩
  have hl := h.len
  have ho := h.ths
  rcases id ho.2 with ⟨e, h0⟩ | ⟨g, cap, cur, e, hbg, hg, hnc, hcm, hcs, htake⟩
  · exact ⟨none, 0, by rw [e, h0], by omega, by decide, fun _ => ⟨h0, rfl⟩, fun k => absurd k (by omega)⟩
  · subst e
    refine ⟨_, cap, rfl, hnc, hcm, fun e => (by cases e), fun _ => ⟨g, 0, rfl, by have := (Array.getElem?_eq_some_iff.1 hg).1; omega, fun j hj => ?_⟩⟩
    have hjp : j < ps.length := by omega
    have hc : ∀ i, i < 4 → w.cell? ⟨g, 0 + j * 4 + i, none⟩ = (thC ps[j])[i]? := fun i hi => by
      rw [Nat.zero_add, ho.cellAt (j * 4 + i) (by omega), fl_at thC_len ps j i hjp hi]
    have hte : s.ths[j] = ps[j].t := by
      have : (ps.map (·.t))[j]'(by simpa using hjp) = ps[j].t := by simp
      rw [← this]; congr 1; exact h.eq.symm
    obtain ⟨e1, e2, _⟩ := h.each _ (List.getElem_mem hjp)
    rw [hte]
    exact ⟨_, _, hc 0 (by decide), hc 1 (by decide), hc 2 (by decide), hc 3 (by decide), Rw.own e1 hB, Rw.own e2 hB⟩
theorem nuC_set : ∀ (m : List Int) (k : Nat) (x : Int), (m.flatMap nuC).set k (.int .i64 x) = (m.set k x).flatMap nuC
  | [], k, x => rfl
  | a :: r, 0, x => rfl
  | a :: r, k + 1, x => by
    rw [List.set_cons_succ, List.flatMap_cons, List.flatMap_cons]
    show (Value.int .i64 a :: r.flatMap nuC).set (k + 1) _ = Value.int .i64 a :: (r.set k x).flatMap nuC
    rw [List.set_cons_succ, nuC_set r k x]
theorem ownN_set {base g c n : Nat} {w : World} {m : List Int} (h : w.ownsRow base 3 1 (.slice (some ⟨g, 0, none⟩) n c) n (m.flatMap nuC)) (k : Nat) (x : Int) : (w.setCell ⟨g, k, none⟩ (.int .i64 x)).ownsRow base 3 1 (.slice (some ⟨g, 0, none⟩) n c) n ((m.set k x).flatMap nuC) := by
  have := (h.stored k (.int .i64 x)).1
  rw [nuC_set] at this; exact this
theorem neT : (3 : TypeId) ≠ 94 := by decide
theorem neW : (3 : TypeId) ≠ 135 := by decide
theorem neV : (135 : TypeId) ≠ 94 := by decide
/-- A store into the row of locations. -/
theorem OwnSt.setM {base g c : Nat} {w : World} {vt : Value} {s : Sta} {ps : List TV} (h : OwnSt base w (.slice (some ⟨g, 0, none⟩) s.mem.length c) vt s ps) (k : Nat) (x : Int) :
    OwnSt base (w.setCell ⟨g, k, none⟩ (.int .i64 x)) (.slice (some ⟨g, 0, none⟩) s.mem.length c) vt ⟨s.mem.set k x, s.ths⟩ ps := by
  have hg : (Value.slice (some ⟨g, 0, none⟩) s.mem.length c).ownBlock = some g := rfl
  refine ⟨?_, own_keep h.ths (own_unlike neT h.mem h.ths g hg) _, h.eq, fun p hp => ?_, h.ap⟩
  · have := ownN_set h.mem k x
    unfold OwnI
    rw [List.length_set]
    exact this
  · obtain ⟨e1, e2, e3⟩ := h.each p hp
    exact ⟨own_keep e1 (e3 g hg) _, own_keep e2 (own_unlike neW h.mem e2 g hg) _, e3⟩
theorem map_vr_set {ps : List TV} {t : Nat} (ht : t < ps.length) (q : TV) (hq : q.vr = ps[t].vr) : (ps.set t q).map (·.vr) = ps.map (·.vr) := by
  rw [List.map_set, hq]
  have : ps[t].vr = (ps.map (·.vr))[t]'(by simpa using ht) := by simp
  rw [this, List.set_getElem_self]
theorem OwnSt.apart {base : Nat} {w : World} {vm vt : Value} {s : Sta} {ps : List TV} (h : OwnSt base w vm vt s ps) {i j : Nat} (hi : i < ps.length) (hj : j < ps.length) (hne : i ≠ j) : Ap ps[i].vr ps[j].vr := by
  have hp := List.pairwise_iff_getElem.1 h.ap
  rcases Nat.lt_or_ge i j with k | k
  · have := hp i j (by simpa using hi) (by simpa using hj) k
    simpa using this
  · have := hp j i (by simpa using hj) (by simpa using hi) (by omega)
    exact ap_symm (by simpa using this)
/-- A store into a thread's row of registers. -/
theorem OwnSt.setR {base g n c t : Nat} {w : World} {vm vt : Value} {s : Sta} {ps : List TV} (h : OwnSt base w vm vt s ps) (ht : t < ps.length) (hv : ps[t].vr = .slice (some ⟨g, 0, none⟩) n c) (k : Nat) (x : Int) (q : TV)
    (hq : q = ⟨{ ps[t].t with regs := ps[t].t.regs.set k x }, ps[t].vr, ps[t].vb⟩) :
    OwnSt base (w.setCell ⟨g, k, none⟩ (.int .i64 x)) vm vt ⟨s.mem, s.ths.set t q.t⟩ (ps.set t q) := by
  have hg : ps[t].vr.ownBlock = some g := by rw [hv]; rfl
  obtain ⟨e1, e2, e3⟩ := h.each _ (List.getElem_mem ht)
  refine ⟨own_keep h.mem (fun e => e3 g e hg) _, ?_, by rw [List.map_set, h.eq], fun p hp => ?_, ?_⟩
  · have hfl : (ps.set t q).flatMap thC = ps.flatMap thC := by
      rw [List.flatMap_def, List.flatMap_def, List.map_set]
      congr 1
      have : thC q = (ps.map thC)[t]'(by simpa using ht) := by rw [hq]; simp [thC]
      rw [this, List.set_getElem_self]
    rw [hfl, List.length_set]
    exact own_keep h.ths (own_unlike neT e1 h.ths g hg) _
  · obtain ⟨j, hj, rfl⟩ := List.mem_iff_getElem.1 hp
    have hj' : j < ps.length := by simpa using hj
    rw [List.getElem_set]
    by_cases e : t = j
    · rw [if_pos e]
      subst hq
      refine ⟨?_, own_keep e2 (own_unlike neW e1 e2 g hg) _, e3⟩
      have hn : n = ps[t].t.regs.length := by
        have := own_slice e1
        obtain ⟨A, c', e'⟩ := this
        rw [hv] at e'; injection e' with _ e' _
      have e1' := e1
      unfold OwnI at e1' ⊢
      rw [hv, ← hn] at e1'
      have := ownN_set e1' k x
      rw [hv]
      simp only [List.length_set]
      rw [← hn]; exact this
    · rw [if_neg e]
      obtain ⟨d1, d2, d3⟩ := h.each _ (List.getElem_mem hj')
      exact ⟨own_keep d1 (fun e' => (h.apart ht hj' e) g hg e') _, own_keep d2 (own_unlike neW e1 d2 g hg) _, d3⟩
  · rw [map_vr_set ht q (by rw [hq])]; exact h.ap
end Go.Proofs.Ytbffjhdocicfoaa
namespace Go.Proofs.Ytbffjhdocicfoaa
set_option linter.unusedVariables false
set_option linter.unusedSimpArgs false
namespace ScM
open CodM (St Pg rightP hReg hLoc hTo)
open BfM (Wr plc)

/-- What a right code's step has. -/
structure StP (places len k : Nat) (s : St) : Prop where
  op : 1 ≤ s.op ∧ s.op ≤ 10
  reg : hReg s.op = true → 0 ≤ s.reg ∧ s.reg ≤ 3
  loc : hLoc s.op = true → 0 ≤ s.loc ∧ s.loc < places
  to : 8 ≤ s.op → (k : Int) + 1 ≤ s.to ∧ s.to ≤ len
theorem stp_of {P : Pg} (h : rightP P = true) {t k : Nat} (ht : t < P.ths.length) (hk : k < P.ths[t].length) : StP P.init.length P.ths[t].length k P.ths[t][k] := by
  unfold rightP at h
  simp only [Bool.and_eq_true, List.all_eq_true] at h
  have h1 := (CodM.rightT_at (h.2 _ (List.getElem_mem ht))).2 k hk
  unfold CodM.rightS CodM.zOr at h1
  simp only [Bool.and_eq_true, decide_eq_true_eq] at h1
  obtain ⟨⟨h2, h3⟩, h4, h5, -, h6⟩ := h1
  refine ⟨⟨h2, h3⟩, fun e => ?_, fun e => ?_, fun e => ?_⟩
  · rw [e] at h4; simp only [if_true, Bool.and_eq_true, decide_eq_true_eq] at h4; exact h4
  · rw [e] at h5; simp only [if_true, Bool.and_eq_true, decide_eq_true_eq] at h5; omega
  · have e' : hTo (P.ths[t][k]).op = true := decide_eq_true e
    rw [e'] at h6; simp only [if_true, Bool.and_eq_true, decide_eq_true_eq] at h6; exact h6
theorem right_ths {P : Pg} (h : rightP P = true) : P.init.length ≤ 4 ∧ 1 ≤ P.ths.length ∧ P.ths.length ≤ 3 ∧ ∀ t (ht : t < P.ths.length), P.ths[t].length ≤ 80 := by
  unfold rightP at h
  simp only [Bool.and_eq_true, List.all_eq_true, decide_eq_true_eq] at h
  obtain ⟨⟨h1, h2, h3⟩, h4⟩ := h
  exact ⟨h1, h2, h3, fun t ht => (CodM.rightT_at (h4 _ (List.getElem_mem ht))).1⟩
theorem jumps_op {x : St} {e : Bool} (h : jumps x e = true) : 8 ≤ x.op := by
  unfold jumps at h
  simp only [Bool.or_eq_true, Bool.and_eq_true, decide_eq_true_eq] at h
  omega
/-- Where a step goes. -/
theorem goes {P : Pg} (hr : rightP P = true) {s : Sta} (ho : OkSt P s) {k : Nat} (h1 : k < s.ths.length) (h2 : k < P.ths.length) (h3 : s.ths[k].at'.toNat < P.ths[k].length) :
    s.ths[k].at' < (stT P.ths[k][s.ths[k].at'.toNat] s.mem s.ths[k]).at' ∧ (stT P.ths[k][s.ths[k].at'.toNat] s.mem s.ths[k]).at' ≤ P.ths[k].length := by
  have hp := stp_of hr h2 h3
  have ht := ho.th k h1 h2
  have lo := ht.lo
  have hi := ht.hi
  unfold stT
  simp only []
  split
  · rename_i hj
    obtain ⟨a, b⟩ := hp.to (jumps_op hj)
    constructor
    · omega
    · exact b
  · constructor <;> omega
theorem stp_at {P : Pg} {s : Sta} {k : Nat} (h1 : k < s.ths.length) (h2 : k < P.ths.length) (h3 : s.ths[k].at'.toNat < P.ths[k].length) :
    stp P s k = ⟨stM P.ths[k][s.ths[k].at'.toNat] s.mem s.ths[k].regs, s.ths.set k (stT P.ths[k][s.ths[k].at'.toNat] s.mem s.ths[k])⟩ := by
  unfold stp
  rw [atS_at h1 h2 h3]
  simp [h1]
theorem stp_no {P : Pg} {s : Sta} {t : Int} (h : atS P s t = none) : stp P s t = s := by
  unfold stp; rw [h]
theorem stp_len (P : Pg) (s : Sta) (t : Int) : (stp P s t).mem.length = s.mem.length ∧ (stp P s t).ths.length = s.ths.length := by
  unfold stp
  split
  · exact ⟨stM_len _ _ _, by simp⟩
  · exact ⟨rfl, rfl⟩
/-- A right state stays right. -/
theorem stp_ok {P : Pg} (hr : rightP P = true) {s : Sta} (ho : OkSt P s) (t : Int) : OkSt P (stp P s t) := by
  cases e : atS P s t with
  | none => rw [stp_no e]; exact ho
  | some x =>
    obtain ⟨k, rfl, h1, h2, h3, rfl⟩ := atS_some e
    have hg := goes hr ho h1 h2 h3
    obtain ⟨hl1, hl2⟩ := stp_len P s k
    refine ⟨hl1.trans ho.mem, hl2.trans ho.ths, fun u h h' => ?_⟩
    rw [hl1]
    have hu : u < s.ths.length := by omega
    simp only [stp_at h1 h2 h3, List.getElem_set]
    by_cases c : k = u
    · subst c
      rw [if_pos rfl]
      have hk := ho.th k h1 h2
      exact ⟨by have := hk.lo; omega, hg.2, (stR_len _ _ _).trans hk.regs, hk.buf⟩
    · rw [if_neg c]
      exact ho.th u hu h'
/-- The steps that are left, of all threads. -/
def left (P : Pg) (s : Sta) : Nat := (List.range P.ths.length).foldl (fun a t => a + ((P.ths.getD t []).length - (s.ths.getD t begTh).at'.toNat)) 0
end ScM
end Go.Proofs.Ytbffjhdocicfoaa
namespace Go.Proofs.Ytbffjhdocicfoaa
open Go.RowKit
set_option linter.unusedVariables false
set_option linter.unusedSimpArgs false
open WordM (L)
open CodM (St Pg)

/-- Five cells from f on of block b hold the step s. -/
def StAt (w : World) (b f : Nat) (s : St) : Prop :=
  w.cell? ⟨b, f, none⟩ = some (.int .i64 s.op) ∧ w.cell? ⟨b, f + 1, none⟩ = some (.int .i64 s.reg) ∧ w.cell? ⟨b, f + 2, none⟩ = some (.int .i64 s.loc) ∧
    w.cell? ⟨b, f + 3, none⟩ = some (.int .i64 s.n) ∧ w.cell? ⟨b, f + 4, none⟩ = some (.int .i64 s.to)
theorem StAt.below {w w' : World} {B b f : Nat} {s : St} (h : StAt w b f s) (hb : Below B w w') (hlt : b < B) : StAt w' b f s :=
  ⟨(hb.cell (p := ⟨b, f, none⟩) hlt).trans h.1, (hb.cell (p := ⟨b, f + 1, none⟩) hlt).trans h.2.1, (hb.cell (p := ⟨b, f + 2, none⟩) hlt).trans h.2.2.1, (hb.cell (p := ⟨b, f + 3, none⟩) hlt).trans h.2.2.2.1, (hb.cell (p := ⟨b, f + 4, none⟩) hlt).trans h.2.2.2.2⟩
/-- One cell holds a number. -/
def IntAt (w : World) (b f : Nat) (n : Int) : Prop := w.cell? ⟨b, f, none⟩ = some (.int .i64 n)
theorem IntAt.below {w w' : World} {B b f : Nat} {n : Int} (h : IntAt w b f n) (hb : Below B w w') (hlt : b < B) : IntAt w' b f n := (hb.cell (p := ⟨b, f, none⟩) hlt).trans h
def Sts (B : Nat) (w : World) (v : Value) (xs : List St) : Prop :=
  ∃ A c, v = .slice A xs.length c ∧ xs.length ≤ c ∧ c ≤ maxLen ∧
    (0 < xs.length → ∃ b f, A = some ⟨b, f, none⟩ ∧ b < B ∧ ∀ j (h : j < xs.length), StAt w b (f + j * 5) xs[j])
theorem Sts.below {B : Nat} {w w' : World} {v : Value} {xs : List St} (h : Sts B w v xs) (hb : Below B w w') : Sts B w' v xs := by
  obtain ⟨A, c, e, h1, h2, h3⟩ := h
  refine ⟨A, c, e, h1, h2, fun k => ?_⟩
  obtain ⟨b, f, e2, h4, h5⟩ := h3 k
  exact ⟨b, f, e2, h4, fun j hj => (h5 j hj).below hb h4⟩
theorem Sts.more {B B' : Nat} {w : World} {v : Value} {xs : List St} (h : Sts B w v xs) (hb : B ≤ B') : Sts B' w v xs := by
  obtain ⟨A, c, e, h1, h2, h3⟩ := h
  refine ⟨A, c, e, h1, h2, fun k => ?_⟩
  obtain ⟨b, f, e2, h4, h5⟩ := h3 k
  exact ⟨b, f, e2, by omega, h5⟩
/-- One cell holds a row of steps. -/
def SsAt (B : Nat) (w : World) (b f : Nat) (ss : List St) : Prop := ∃ v, w.cell? ⟨b, f, none⟩ = some v ∧ Sts B w v ss
theorem SsAt.below {w w' : World} {B b f : Nat} {ss : List St} (h : SsAt B w b f ss) (hb : Below B w w') (hlt : b < B) : SsAt B w' b f ss := by
  obtain ⟨v, h1, h2⟩ := h
  exact ⟨v, (hb.cell (p := ⟨b, f, none⟩) hlt).trans h1, h2.below hb⟩
theorem SsAt.more {w : World} {B B' b f : Nat} {ss : List St} (h : SsAt B w b f ss) (hb : B ≤ B') : SsAt B' w b f ss := by
  obtain ⟨v, h1, h2⟩ := h
  exact ⟨v, h1, h2.more hb⟩
def Sss (B : Nat) (w : World) (v : Value) (xs : List (List St)) : Prop :=
  ∃ A c, v = .slice A xs.length c ∧ xs.length ≤ c ∧ c ≤ maxLen ∧
    (0 < xs.length → ∃ b f, A = some ⟨b, f, none⟩ ∧ b < B ∧ ∀ j (h : j < xs.length), SsAt B w b (f + j) xs[j])
theorem Sss.below {B : Nat} {w w' : World} {v : Value} {xs : List (List St)} (h : Sss B w v xs) (hb : Below B w w') : Sss B w' v xs := by
  obtain ⟨A, c, e, h1, h2, h3⟩ := h
  refine ⟨A, c, e, h1, h2, fun k => ?_⟩
  obtain ⟨b, f, e2, h4, h5⟩ := h3 k
  exact ⟨b, f, e2, h4, fun j hj => (h5 j hj).below hb h4⟩
theorem Sss.more {B B' : Nat} {w : World} {v : Value} {xs : List (List St)} (h : Sss B w v xs) (hb : B ≤ B') : Sss B' w v xs := by
  obtain ⟨A, c, e, h1, h2, h3⟩ := h
  refine ⟨A, c, e, h1, h2, fun k => ?_⟩
  obtain ⟨b, f, e2, h4, h5⟩ := h3 k
  exact ⟨b, f, e2, by omega, fun j hj => (h5 j hj).more hb⟩
def Ints (B : Nat) (w : World) (v : Value) (xs : List Int) : Prop :=
  ∃ A c, v = .slice A xs.length c ∧ xs.length ≤ c ∧ c ≤ maxLen ∧
    (0 < xs.length → ∃ b f, A = some ⟨b, f, none⟩ ∧ b < B ∧ ∀ j (h : j < xs.length), IntAt w b (f + j) xs[j])
theorem Ints.below {B : Nat} {w w' : World} {v : Value} {xs : List Int} (h : Ints B w v xs) (hb : Below B w w') : Ints B w' v xs := by
  obtain ⟨A, c, e, h1, h2, h3⟩ := h
  refine ⟨A, c, e, h1, h2, fun k => ?_⟩
  obtain ⟨b, f, e2, h4, h5⟩ := h3 k
  exact ⟨b, f, e2, h4, fun j hj => (h5 j hj).below hb h4⟩
theorem Ints.more {B B' : Nat} {w : World} {v : Value} {xs : List Int} (h : Ints B w v xs) (hb : B ≤ B') : Ints B' w v xs := by
  obtain ⟨A, c, e, h1, h2, h3⟩ := h
  refine ⟨A, c, e, h1, h2, fun k => ?_⟩
  obtain ⟨b, f, e2, h4, h5⟩ := h3 k
  exact ⟨b, f, e2, by omega, h5⟩
/-- What the two slices of a code hold. -/
def PgM (B : Nat) (w : World) (vi vt : Value) (P : Pg) : Prop := Ints B w vi P.init ∧ Sss B w vt P.ths
theorem PgM.below {B : Nat} {w w' : World} {vi vt : Value} {P : Pg} (h : PgM B w vi vt P) (hb : Below B w w') : PgM B w' vi vt P := ⟨h.1.below hb, h.2.below hb⟩
theorem PgM.more {B B' : Nat} {w : World} {vi vt : Value} {P : Pg} (h : PgM B w vi vt P) (hb : B ≤ B') : PgM B' w vi vt P := ⟨h.1.more hb, h.2.more hb⟩
/-- The value v is the code P, its slices in blocks below B. -/
def PgV (B : Nat) (w : World) (v : Value) (P : Pg) : Prop := ∃ vi vt, v = .agg #[vi, vt] ∧ PgM B w vi vt P
theorem PgV.below {B : Nat} {w w' : World} {v : Value} {P : Pg} (h : PgV B w v P) (hb : Below B w w') : PgV B w' v P := by
  obtain ⟨a, b, e, h⟩ := h; exact ⟨a, b, e, h.below hb⟩
theorem PgV.more {B B' : Nat} {w : World} {v : Value} {P : Pg} (h : PgV B w v P) (hb : B ≤ B') : PgV B' w v P := by
  obtain ⟨a, b, e, h⟩ := h; exact ⟨a, b, e, h.more hb⟩
/-! The cells of rows, as values. -/
/-! The table of what kinds of steps have. -/
end Go.Proofs.Ytbffjhdocicfoaa
namespace Go.Proofs.Ytbffjhdocicfoaa
open Go.RowKit
set_option linter.unusedVariables false
set_option linter.unusedSimpArgs false
open WordM (L)
open CodM (St Pg hasS cnt zOr hReg hLoc hNum hTo)

theorem ret_boolc {a b : Bool} (h : a = b) : Ending.returned (.bool a) = .returned (.bool b) := by rw [h]
end Go.Proofs.Ytbffjhdocicfoaa
namespace Go.Proofs.Ytbffjhdocicfoaa
open Go.RowKit
set_option linter.unusedVariables false
set_option linter.unusedSimpArgs false
open WordM (L)
open CodM (St Pg hasS cnt zOr hReg hLoc hNum hTo rightS rightT rightP)

def rS (op reg loc n to locs next fin : Int) : Bool :=
  (decide (1 ≤ op) && decide (op ≤ 10)) && (zOr (hReg op) reg 0 3 && (zOr (hLoc op) loc 0 (locs - 1) && ((hNum op || decide (n = 0)) && zOr (hTo op) to next fin)))
theorem rS_right (many len k : Nat) (s : St) : rightS many len k s = rS s.op s.reg s.loc s.n s.to many ((k : Int) + 1) len := rfl
abbrev stv (op reg loc n to : Int) : Value := .agg #[.int .i64 op, .int .i64 reg, .int .i64 loc, .int .i64 n, .int .i64 to]
end Go.Proofs.Ytbffjhdocicfoaa
