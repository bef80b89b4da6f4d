/-
  STATES in memory, and as arguments.
  STATES OF THE CALL's OWN: their rows lie apart; what a store into one of them makes of the state.
  STATES, as mathematics, 2: a step of a right code keeps a right state right; where it goes.
  package code, its small functions: hasStep, count, among, zeroOr, rightStep.
  code.rightStep, rightThread, Right: may a code be so?
-/
import Derived.Test.YtlpjgaeelnlipaaGreatK02
import Derived.Test.YtlpjgaeelnlipaaGreatK01
set_option linter.unusedVariables false
set_option linter.unusedSimpArgs false
namespace Go.Proofs.YtlpjgaeelnlipaaGreat
open Go Go.ChangeShapes Go.WideShapes Go.RowKit Go.Deep
set_option maxRecDepth 100000
open BfM (Wr plc)
open ScM

/-- Four cells from f on of block b hold the thread t. -/
def TdAt (B : Nat) (w : World) (b f : Nat) (t : Th) : Prop :=
  ∃ vr vb, w.cell? ⟨b, f, none⟩ = some (.int .i64 t.at') ∧ w.cell? ⟨b, f + 1, none⟩ = some vr ∧ w.cell? ⟨b, f + 2, none⟩ = some (.bool t.eq) ∧ w.cell? ⟨b, f + 3, none⟩ = some vb ∧ IntR B w vr t.regs ∧ WrR B w vb t.buf
theorem TdAt.below {w w' : World} {B b f : Nat} {t : Th} (h : TdAt B w b f t) (hb : Below B w w') (hlt : b < B) : TdAt B w' b f t := by
  obtain ⟨vr, vb, h0, h1, h2, h3, h4, h5⟩ := h
  exact ⟨vr, vb, (hb.cell (p := ⟨b, f, none⟩) hlt).trans h0, (hb.cell (p := ⟨b, f + 1, none⟩) hlt).trans h1, (hb.cell (p := ⟨b, f + 2, none⟩) hlt).trans h2, (hb.cell (p := ⟨b, f + 3, none⟩) hlt).trans h3, h4.below hb, h5.below hb⟩
theorem TdAt.more {w : World} {B B' b f : Nat} {t : Th} (h : TdAt B w b f t) (hb : B ≤ B') : TdAt B' w b f t := by
  obtain ⟨vr, vb, h0, h1, h2, h3, h4, h5⟩ := h
  exact ⟨vr, vb, h0, h1, h2, h3, h4.more hb, h5.more hb⟩
/-- The value v is a slice that reads as the threads ts. -/
def ThR (B : Nat) (w : World) (v : Value) (ts : List Th) : Prop :=
  ∃ A c, v = .slice A ts.length c ∧ ts.length ≤ c ∧ c ≤ maxLen ∧ (A = none → ts.length = 0 ∧ c = 0) ∧
    (0 < ts.length → ∃ b f, A = some ⟨b, f, none⟩ ∧ b < B ∧ ∀ j (h : j < ts.length), TdAt B w b (f + j * 4) ts[j])
theorem ThR.below {B : Nat} {w w' : World} {v : Value} {xs : List Th} (h : ThR B w v xs) (hb : Below B w w') : ThR B w' v xs := by
  obtain ⟨A, c, e, h1, h2, h0, h3⟩ := h
  refine ⟨A, c, e, h1, h2, h0, fun k => ?_⟩
  obtain ⟨b, f, e2, h4, h5⟩ := h3 k
  exact ⟨b, f, e2, h4, fun j hj => (h5 j hj).below hb h4⟩
theorem ThR.more {B B' : Nat} {w : World} {v : Value} {xs : List Th} (h : ThR B w v xs) (hb : B ≤ B') : ThR B' w v xs := by
  obtain ⟨A, c, e, h1, h2, h0, h3⟩ := h
  refine ⟨A, c, e, h1, h2, h0, fun k => ?_⟩
  obtain ⟨b, f, e2, h4, h5⟩ := h3 k
  exact ⟨b, f, e2, by omega, fun j hj => (h5 j hj).more hb⟩
/-- What the two slices of a state hold. -/
def StaM (B : Nat) (w : World) (vm vt : Value) (s : Sta) : Prop := IntR B w vm s.mem ∧ ThR B w vt s.ths
theorem StaM.below {B : Nat} {w w' : World} {vm vt : Value} {s : Sta} (h : StaM B w vm vt s) (hb : Below B w w') : StaM B w' vm vt s := ⟨h.1.below hb, h.2.below hb⟩
theorem StaM.more {B B' : Nat} {w : World} {vm vt : Value} {s : Sta} (h : StaM B w vm vt s) (hb : B ≤ B') : StaM B' w vm vt s := ⟨h.1.more hb, h.2.more hb⟩
/-- The value v is the state s, its rows in blocks below B. -/
def StaV (B : Nat) (w : World) (v : Value) (s : Sta) : Prop := ∃ vm vt, v = .agg #[vm, vt] ∧ StaM B w vm vt s
theorem StaV.below {B : Nat} {w w' : World} {v : Value} {s : Sta} (h : StaV B w v s) (hb : Below B w w') : StaV B w' v s := by
  obtain ⟨a, b, e, h⟩ := h; exact ⟨a, b, e, h.below hb⟩
theorem StaV.more {B B' : Nat} {w : World} {v : Value} {s : Sta} (h : StaV B w v s) (hb : B ≤ B') : StaV B' w v s := by
  obtain ⟨a, b, e, h⟩ := h; exact ⟨a, b, e, h.more hb⟩
structure ThIn (t : Th) : Prop where
  at' : NumM.inR t.at'
  regs : ∀ n ∈ t.regs, NumM.inR n
  buf : ∀ w ∈ t.buf, WrIn w
/-- What is in range in a state. -/
structure StaIn (s : Sta) : Prop where
  mem : ∀ n ∈ s.mem, NumM.inR n
  ths : ∀ t ∈ s.ths, ThIn t
section
variable {H : Type} {enc : TypeId × Value → H} {w : World} {base : Nat} {spare : Nat → Bool} {held : Bool}
theorem bool_cell {P : Program} {t : TypeId} {x : Value} {y : DataW H × List MemPlace} {n : Nat} (ht : P.underlying t = some .bool)
    (h : DataW.trod enc P w base spare held n t [x] = some y) : ∃ b, x = .bool b := by
  obtain ⟨b, e, _⟩ := DataW.trod_bool ht h
  injection e with e _
  exact ⟨b, e⟩
end
end Go.Proofs.YtlpjgaeelnlipaaGreat
namespace Go.Proofs.YtlpjgaeelnlipaaGreat
open Go.RowKit
open BfM (Wr plc)
open ScM

/-- A thread, and the values of its two rows. -/
structure TV where
  t : Th
  vr : Value
  vb : Value
def thC (p : TV) : List Value := [.int .i64 p.t.at', p.vr, .bool p.t.eq, p.vb]
theorem thC_len (p : TV) : (thC p).length = 4 := rfl
theorem flat_set4 : ∀ (ps : List TV) (k : Nat) (q : TV), k < ps.length →
    (((((ps.flatMap thC).set (k * 4) (.int .i64 q.t.at')).set (k * 4 + 1) q.vr).set (k * 4 + 2) (.bool q.t.eq)).set (k * 4 + 3) q.vb) = (ps.set k q).flatMap thC
  | [], k, q, h => absurd h (Nat.not_lt_zero k)
  | p :: r, 0, q, h => rfl
  | p :: r, k + 1, q, h => by
    have e : (k + 1) * 4 = k * 4 + 4 := by omega
    rw [e, List.set_cons_succ, List.flatMap_cons, List.flatMap_cons, ← flat_set4 r k q (by simpa using h)]
    show ((((((Value.int .i64 p.t.at') :: p.vr :: (.bool p.t.eq) :: p.vb :: r.flatMap thC).set (k * 4 + 4) _).set (k * 4 + 4 + 1) _).set (k * 4 + 4 + 2) _).set (k * 4 + 4 + 3) _) = (Value.int .i64 p.t.at') :: p.vr :: (.bool p.t.eq) :: p.vb :: (((((r.flatMap thC).set (k * 4) (.int .i64 q.t.at')).set (k * 4 + 1) q.vr).set (k * 4 + 2) (.bool q.t.eq)).set (k * 4 + 3) q.vb)
    simp only [show k * 4 + 4 + 1 = k * 4 + 1 + 4 by omega, show k * 4 + 4 + 2 = k * 4 + 2 + 4 by omega, show k * 4 + 4 + 3 = k * 4 + 3 + 4 by omega, List.set_cons_succ]
/-- Two values whose rows are not one. -/
def Ap (v u : Value) : Prop := ∀ g, v.ownBlock = some g → u.ownBlock ≠ some g
theorem ap_symm {v u : Value} (h : Ap v u) : Ap u v := fun g hu hv => h g hv hu
theorem own_unlike {b1 b2 T1 T2 s1 s2 n1 n2 : Nat} {w : World} {v u : Value} {xs ys : List Value} (hT : T1 ≠ T2) (h1 : w.ownsRow b1 T1 s1 v n1 xs) (h2 : w.ownsRow b2 T2 s2 u n2 ys) : Ap v u := by
  intro g e1 e2
  rcases h1.2 with ⟨rfl, _⟩ | ⟨g1, c1, cur1, rfl, _, hh1, _⟩
  · cases e1
  · rcases h2.2 with ⟨rfl, _⟩ | ⟨g2, c2, cur2, rfl, _, hh2, _⟩
    · cases e2
    · injection e1 with e1; injection e2 with e2
      have e1 : g1 = g := e1
      have e2 : g2 = g := e2
      subst e1; subst e2
      rw [hh1] at hh2; injection hh2 with hh2; injection hh2 with _ hh2
      exact hT hh2
theorem own_keep {b T s n g k : Nat} {w : World} {v : Value} {xs : List Value} (h : w.ownsRow b T s v n xs) (hv : v.ownBlock ≠ some g) (x : Value) : (w.setCell ⟨g, k, none⟩ x).ownsRow b T s v n xs :=
  ownsRow_setCell_other (a := ⟨g, k, none⟩) h (fun e => hv e) x
/-- The state s in rows of the call's own: those of the locations, of the threads, and theirs. -/
structure OwnSt (base : Nat) (w : World) (vm vt : Value) (s : Sta) (ps : List TV) : Prop where
  mem : OwnI base w vm s.mem
  ths : w.ownsRow base 44 4 vt s.ths.length (ps.flatMap thC)
  eq : ps.map (·.t) = s.ths
  each : ∀ p ∈ ps, OwnI base w p.vr p.t.regs ∧ OwnW base w p.vb p.t.buf ∧ Ap vm p.vr
  ap : (ps.map (·.vr)).Pairwise Ap
theorem OwnSt.len {base : Nat} {w : World} {vm vt : Value} {s : Sta} {ps : List TV} (h : OwnSt base w vm vt s ps) : ps.length = s.ths.length := by rw [← h.eq, List.length_map]
theorem OwnSt.below {base : Nat} {w w' : World} {vm vt : Value} {s : Sta} {ps : List TV} (h : OwnSt base w vm vt s ps) (hb : Below w.heap.size w w') : OwnSt base w' vm vt s ps :=
  ⟨own_below h.mem hb, own_below h.ths hb, h.eq, fun p hp => ⟨own_below (h.each p hp).1 hb, own_below (h.each p hp).2.1 hb, (h.each p hp).2.2⟩, h.ap⟩
/-- It reads as the state. -/
theorem OwnSt.read {base B : Nat} {w : World} {vm vt : Value} {s : Sta} {ps : List TV} (h : OwnSt base w vm vt s ps) (hB : w.heap.size ≤ B) : StaM B w vm vt s := by
  refine ⟨Rw.own h.mem hB, ?_⟩
  have hl := h.len
  have ho := h.ths
  rcases id ho.2 with ⟨e, h0⟩ | ⟨g, cap, cur, e, hbg, hg, hnc, hcm, hcs, htake⟩
  · exact ⟨none, 0, by rw [e, h0], by omega, by decide, fun _ => ⟨h0, rfl⟩, fun k => absurd k (by omega)⟩
  · subst e
    refine ⟨_, cap, rfl, hnc, hcm, fun e => (by cases e), fun _ => ⟨g, 0, rfl, by have := (Array.getElem?_eq_some_iff.1 hg).1; omega, fun j hj => ?_⟩⟩
    have hjp : j < ps.length := by omega
    have hc : ∀ i, i < 4 → w.cell? ⟨g, 0 + j * 4 + i, none⟩ = (thC ps[j])[i]? := fun i hi => by
      rw [Nat.zero_add, ho.cellAt (j * 4 + i) (by omega), fl_at thC_len ps j i hjp hi]
    have hte : s.ths[j] = ps[j].t := by
      have : (ps.map (·.t))[j]'(by simpa using hjp) = ps[j].t := by simp
      rw [← this]; congr 1; exact h.eq.symm
    obtain ⟨e1, e2, _⟩ := h.each _ (List.getElem_mem hjp)
    rw [hte]
    exact ⟨_, _, hc 0 (by decide), hc 1 (by decide), hc 2 (by decide), hc 3 (by decide), Rw.own e1 hB, Rw.own e2 hB⟩
theorem nuC_set : ∀ (m : List Int) (k : Nat) (x : Int), (m.flatMap nuC).set k (.int .i64 x) = (m.set k x).flatMap nuC
  | [], k, x => rfl
  | a :: r, 0, x => rfl
  | a :: r, k + 1, x => by
    rw [List.set_cons_succ, List.flatMap_cons, List.flatMap_cons]
    show (Value.int .i64 a :: r.flatMap nuC).set (k + 1) _ = Value.int .i64 a :: (r.set k x).flatMap nuC
    rw [List.set_cons_succ, nuC_set r k x]
theorem ownN_set {base g c n : Nat} {w : World} {m : List Int} (h : w.ownsRow base 3 1 (.slice (some ⟨g, 0, none⟩) n c) n (m.flatMap nuC)) (k : Nat) (x : Int) : (w.setCell ⟨g, k, none⟩ (.int .i64 x)).ownsRow base 3 1 (.slice (some ⟨g, 0, none⟩) n c) n ((m.set k x).flatMap nuC) := by
  have := (h.stored k (.int .i64 x)).1
  rw [nuC_set] at this; exact this
theorem neT : (3 : TypeId) ≠ 44 := by decide
theorem neW : (3 : TypeId) ≠ 94 := by decide
theorem neV : (94 : TypeId) ≠ 44 := by decide
/-- A store into the row of locations. -/
theorem OwnSt.setM {base g c : Nat} {w : World} {vt : Value} {s : Sta} {ps : List TV} (h : OwnSt base w (.slice (some ⟨g, 0, none⟩) s.mem.length c) vt s ps) (k : Nat) (x : Int) :
    OwnSt base (w.setCell ⟨g, k, none⟩ (.int .i64 x)) (.slice (some ⟨g, 0, none⟩) s.mem.length c) vt ⟨s.mem.set k x, s.ths⟩ ps := by
  have hg : (Value.slice (some ⟨g, 0, none⟩) s.mem.length c).ownBlock = some g := rfl
  refine ⟨?_, own_keep h.ths (own_unlike neT h.mem h.ths g hg) _, h.eq, fun p hp => ?_, h.ap⟩
  · have := ownN_set h.mem k x
    unfold OwnI
    rw [List.length_set]
    exact this
  · obtain ⟨e1, e2, e3⟩ := h.each p hp
    exact ⟨own_keep e1 (e3 g hg) _, own_keep e2 (own_unlike neW h.mem e2 g hg) _, e3⟩
theorem map_vr_set {ps : List TV} {t : Nat} (ht : t < ps.length) (q : TV) (hq : q.vr = ps[t].vr) : (ps.set t q).map (·.vr) = ps.map (·.vr) := by
  rw [List.map_set, hq]
  have : ps[t].vr = (ps.map (·.vr))[t]'(by simpa using ht) := by simp
  rw [this, List.set_getElem_self]
theorem OwnSt.apart {base : Nat} {w : World} {vm vt : Value} {s : Sta} {ps : List TV} (h : OwnSt base w vm vt s ps) {i j : Nat} (hi : i < ps.length) (hj : j < ps.length) (hne : i ≠ j) : Ap ps[i].vr ps[j].vr := by
  have hp := List.pairwise_iff_getElem.1 h.ap
  rcases Nat.lt_or_ge i j with k | k
  · have := hp i j (by simpa using hi) (by simpa using hj) k
    simpa using this
  · have := hp j i (by simpa using hj) (by simpa using hi) (by omega)
    exact ap_symm (by simpa using this)
/-- A store into a thread's row of registers. -/
theorem OwnSt.setR {base g n c t : Nat} {w : World} {vm vt : Value} {s : Sta} {ps : List TV} (h : OwnSt base w vm vt s ps) (ht : t < ps.length) (hv : ps[t].vr = .slice (some ⟨g, 0, none⟩) n c) (k : Nat) (x : Int) (q : TV)
    (hq : q = ⟨{ ps[t].t with regs := ps[t].t.regs.set k x }, ps[t].vr, ps[t].vb⟩) :
    OwnSt base (w.setCell ⟨g, k, none⟩ (.int .i64 x)) vm vt ⟨s.mem, s.ths.set t q.t⟩ (ps.set t q) := by
  have hg : ps[t].vr.ownBlock = some g := by rw [hv]; rfl
  obtain ⟨e1, e2, e3⟩ := h.each _ (List.getElem_mem ht)
  refine ⟨own_keep h.mem (fun e => e3 g e hg) _, ?_, by rw [List.map_set, h.eq], fun p hp => ?_, ?_⟩
  · have hfl : (ps.set t q).flatMap thC = ps.flatMap thC := by
      rw [List.flatMap_def, List.flatMap_def, List.map_set]
      congr 1
      have : thC q = (ps.map thC)[t]'(by simpa using ht) := by rw [hq]; simp [thC]
      rw [this, List.set_getElem_self]
    rw [hfl, List.length_set]
    exact own_keep h.ths (own_unlike neT e1 h.ths g hg) _
  · obtain ⟨j, hj, rfl⟩ := List.mem_iff_getElem.1 hp
    have hj' : j < ps.length := by simpa using hj
    rw [List.getElem_set]
    by_cases e : t = j
    · rw [if_pos e]
      subst hq
      refine ⟨?_, own_keep e2 (own_unlike neW e1 e2 g hg) _, e3⟩
      have hn : n = ps[t].t.regs.length := by
        have := own_slice e1
        obtain ⟨A, c', e'⟩ := this
        rw [hv] at e'; injection e' with _ e' _
      have e1' := e1
      unfold OwnI at e1' ⊢
      rw [hv, ← hn] at e1'
      have := ownN_set e1' k x
      rw [hv]
      simp only [List.length_set]
      rw [← hn]; exact this
    · rw [if_neg e]
      obtain ⟨d1, d2, d3⟩ := h.each _ (List.getElem_mem hj')
      exact ⟨own_keep d1 (fun e' => (h.apart ht hj' e) g hg e') _, own_keep d2 (own_unlike neW e1 d2 g hg) _, d3⟩
  · rw [map_vr_set ht q (by rw [hq])]; exact h.ap
/-- A store into the row of threads: where one is, and what it compared. -/
theorem OwnSt.setT {base g n c k : Nat} {w : World} {vm : Value} {s : Sta} {ps : List TV} (h : OwnSt base w vm (.slice (some ⟨g, 0, none⟩) n c) s ps) (hk : k < ps.length) (q : TV)
    (h1 : q.vr = ps[k].vr) (h2 : q.vb = ps[k].vb) (h3 : q.t.regs = ps[k].t.regs) (h4 : q.t.buf = ps[k].t.buf) :
    OwnSt base ((((w.setCell ⟨g, k * 4, none⟩ (.int .i64 q.t.at')).setCell ⟨g, k * 4 + 1, none⟩ q.vr).setCell ⟨g, k * 4 + 2, none⟩ (.bool q.t.eq)).setCell ⟨g, k * 4 + 3, none⟩ q.vb) vm (.slice (some ⟨g, 0, none⟩) n c) ⟨s.mem, s.ths.set k q.t⟩ (ps.set k q) := by
  have hg : (Value.slice (some ⟨g, 0, none⟩) n c).ownBlock = some g := rfl
  have hn : n = s.ths.length := by
    obtain ⟨A, c', e'⟩ := own_slice h.ths
    injection e' with _ e' _
  obtain ⟨w4, hw4⟩ : ∃ W, W = ((((w.setCell ⟨g, k * 4, none⟩ (.int .i64 q.t.at')).setCell ⟨g, k * 4 + 1, none⟩ q.vr).setCell ⟨g, k * 4 + 2, none⟩ (.bool q.t.eq)).setCell ⟨g, k * 4 + 3, none⟩ q.vb) := ⟨_, rfl⟩
  have hno : ∀ {b T s' n' : Nat} {v : Value} {xs : List Value}, w.ownsRow b T s' v n' xs → v.ownBlock ≠ some g → w4.ownsRow b T s' v n' xs :=
    fun hh hv => by rw [hw4]; exact own_keep (own_keep (own_keep (own_keep hh hv _) hv _) hv _) hv _
  have hT : w4.ownsRow base 44 4 (.slice (some ⟨g, 0, none⟩) n c) n ((ps.set k q).flatMap thC) := by
    have e := h.ths
    rw [← hn] at e
    have := ((((e.stored (k * 4) (.int .i64 q.t.at')).1.stored (k * 4 + 1) q.vr).1.stored (k * 4 + 2) (.bool q.t.eq)).1.stored (k * 4 + 3) q.vb).1
    rw [flat_set4 ps k q hk] at this
    rw [hw4]; exact this
  rw [← hw4]
  clear hw4
  refine ⟨hno h.mem (fun e => own_unlike neT h.mem h.ths g e hg), by rw [List.length_set, ← hn]; exact hT, by rw [List.map_set, h.eq], fun p hp => ?_, by rw [map_vr_set hk q h1]; exact h.ap⟩
  obtain ⟨j, hj, rfl⟩ := List.mem_iff_getElem.1 hp
  have hj' : j < ps.length := by simpa using hj
  rw [List.getElem_set]
  by_cases e : k = j
  · rw [if_pos e]
    obtain ⟨d1, d2, d3⟩ := h.each _ (List.getElem_mem hk)
    rw [h1, h2, h3, h4]
    exact ⟨hno d1 (fun e' => own_unlike neT d1 h.ths g e' hg), hno d2 (fun e' => own_unlike neV d2 h.ths g e' hg), d3⟩
  · rw [if_neg e]
    obtain ⟨d1, d2, d3⟩ := h.each _ (List.getElem_mem hj')
    exact ⟨hno d1 (fun e' => own_unlike neT d1 h.ths g e' hg), hno d2 (fun e' => own_unlike neV d2 h.ths g e' hg), d3⟩
end Go.Proofs.YtlpjgaeelnlipaaGreat
namespace Go.Proofs.YtlpjgaeelnlipaaGreat
namespace ScM
open CodM (St Pg rightP hReg hLoc hTo)
open BfM (Wr plc)

/-- What a right code's step has. -/
structure StP (places len k : Nat) (s : St) : Prop where
  op : 1 ≤ s.op ∧ s.op ≤ 10
  reg : hReg s.op = true → 0 ≤ s.reg ∧ s.reg ≤ 3
  loc : hLoc s.op = true → 0 ≤ s.loc ∧ s.loc < places
  to : 8 ≤ s.op → (k : Int) + 1 ≤ s.to ∧ s.to ≤ len
theorem stp_of {P : Pg} (h : rightP P = true) {t k : Nat} (ht : t < P.ths.length) (hk : k < P.ths[t].length) : StP P.init.length P.ths[t].length k P.ths[t][k] := by
  unfold rightP at h
  simp only [Bool.and_eq_true, List.all_eq_true] at h
  have h1 := (CodM.rightT_at (h.2 _ (List.getElem_mem ht))).2 k hk
  unfold CodM.rightS CodM.zOr at h1
  simp only [Bool.and_eq_true, decide_eq_true_eq] at h1
  obtain ⟨⟨h2, h3⟩, h4, h5, -, h6⟩ := h1
  refine ⟨⟨h2, h3⟩, fun e => ?_, fun e => ?_, fun e => ?_⟩
  · rw [e] at h4; simp only [if_true, Bool.and_eq_true, decide_eq_true_eq] at h4; exact h4
  · rw [e] at h5; simp only [if_true, Bool.and_eq_true, decide_eq_true_eq] at h5; omega
  · have e' : hTo (P.ths[t][k]).op = true := decide_eq_true e
    rw [e'] at h6; simp only [if_true, Bool.and_eq_true, decide_eq_true_eq] at h6; exact h6
theorem right_ths {P : Pg} (h : rightP P = true) : P.init.length ≤ 4 ∧ 1 ≤ P.ths.length ∧ P.ths.length ≤ 3 ∧ ∀ t (ht : t < P.ths.length), P.ths[t].length ≤ 80 := by
  unfold rightP at h
  simp only [Bool.and_eq_true, List.all_eq_true, decide_eq_true_eq] at h
  obtain ⟨⟨h1, h2, h3⟩, h4⟩ := h
  exact ⟨h1, h2, h3, fun t ht => (CodM.rightT_at (h4 _ (List.getElem_mem ht))).1⟩
theorem jumps_op {x : St} {e : Bool} (h : jumps x e = true) : 8 ≤ x.op := by
  unfold jumps at h
  simp only [Bool.or_eq_true, Bool.and_eq_true, decide_eq_true_eq] at h
  omega
/-- Where a step goes. -/
theorem goes {P : Pg} (hr : rightP P = true) {s : Sta} (ho : OkSt P s) {k : Nat} (h1 : k < s.ths.length) (h2 : k < P.ths.length) (h3 : s.ths[k].at'.toNat < P.ths[k].length) :
    s.ths[k].at' < (stT P.ths[k][s.ths[k].at'.toNat] s.mem s.ths[k]).at' ∧ (stT P.ths[k][s.ths[k].at'.toNat] s.mem s.ths[k]).at' ≤ P.ths[k].length := by
  have hp := stp_of hr h2 h3
  have ht := ho.th k h1 h2
  have lo := ht.lo
  have hi := ht.hi
  unfold stT
  simp only []
  split
  · rename_i hj
    obtain ⟨a, b⟩ := hp.to (jumps_op hj)
    constructor
    · omega
    · exact b
  · constructor <;> omega
theorem stp_at {P : Pg} {s : Sta} {k : Nat} (h1 : k < s.ths.length) (h2 : k < P.ths.length) (h3 : s.ths[k].at'.toNat < P.ths[k].length) :
    stp P s k = ⟨stM P.ths[k][s.ths[k].at'.toNat] s.mem s.ths[k].regs, s.ths.set k (stT P.ths[k][s.ths[k].at'.toNat] s.mem s.ths[k])⟩ := by
  unfold stp
  rw [atS_at h1 h2 h3]
  simp [h1]
theorem stp_no {P : Pg} {s : Sta} {t : Int} (h : atS P s t = none) : stp P s t = s := by
  unfold stp; rw [h]
theorem stp_len (P : Pg) (s : Sta) (t : Int) : (stp P s t).mem.length = s.mem.length ∧ (stp P s t).ths.length = s.ths.length := by
  unfold stp
  split
  · exact ⟨stM_len _ _ _, by simp⟩
  · exact ⟨rfl, rfl⟩
/-- A right state stays right. -/
theorem stp_ok {P : Pg} (hr : rightP P = true) {s : Sta} (ho : OkSt P s) (t : Int) : OkSt P (stp P s t) := by
  cases e : atS P s t with
  | none => rw [stp_no e]; exact ho
  | some x =>
    obtain ⟨k, rfl, h1, h2, h3, rfl⟩ := atS_some e
    have hg := goes hr ho h1 h2 h3
    obtain ⟨hl1, hl2⟩ := stp_len P s k
    refine ⟨hl1.trans ho.mem, hl2.trans ho.ths, fun u h h' => ?_⟩
    rw [hl1]
    have hu : u < s.ths.length := by omega
    simp only [stp_at h1 h2 h3, List.getElem_set]
    by_cases c : k = u
    · subst c
      rw [if_pos rfl]
      have hk := ho.th k h1 h2
      exact ⟨by have := hk.lo; omega, hg.2, (stR_len _ _ _).trans hk.regs, hk.buf⟩
    · rw [if_neg c]
      exact ho.th u hu h'
/-- The steps that are left, of all threads. -/
def left (P : Pg) (s : Sta) : Nat := (List.range P.ths.length).foldl (fun a t => a + ((P.ths.getD t []).length - (s.ths.getD t begTh).at'.toNat)) 0
end ScM
end Go.Proofs.YtlpjgaeelnlipaaGreat
namespace Go.Proofs.YtlpjgaeelnlipaaGreat
open Go.RowKit
open WordM (L)
open CodM (St Pg hasS cnt zOr hReg hLoc hNum hTo)

theorem ret_boolc {a b : Bool} (h : a = b) : Ending.returned (.bool a) = .returned (.bool b) := by rw [h]
end Go.Proofs.YtlpjgaeelnlipaaGreat
namespace Go.Proofs.YtlpjgaeelnlipaaGreat
open Go.RowKit
open WordM (L)
open CodM (St Pg hasS cnt zOr hReg hLoc hNum hTo rightS rightT rightP)

def rS (op reg loc n to locs next fin : Int) : Bool :=
  (decide (1 ≤ op) && decide (op ≤ 10)) && (zOr (hReg op) reg 0 3 && (zOr (hLoc op) loc 0 (locs - 1) && ((hNum op || decide (n = 0)) && zOr (hTo op) to next fin)))
theorem rS_right (many len k : Nat) (s : St) : rightS many len k s = rS s.op s.reg s.loc s.n s.to many ((k : Int) + 1) len := rfl
abbrev stv (op reg loc n to : Int) : Value := .agg #[.int .i64 op, .int .i64 reg, .int .i64 loc, .int .i64 n, .int .i64 to]
end Go.Proofs.YtlpjgaeelnlipaaGreat
