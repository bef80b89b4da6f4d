/-
  STATES OF THE CALL's OWN, 2: how they grow, and stay behind stores into boxes; what functions of states hand back.
-/
import Derived.Test.YtbffjhdocicfoaaK04
import Derived.Test.YtbffjhdocicfoaaCdC
namespace Go.Proofs.Ytbffjhdocicfoaa
open Go.RowKit
set_option linter.unusedVariables false
set_option linter.unusedSimpArgs false
open BfM (Wr plc)
open CodM (St Pg)
open ScM

theorem grown_set (W : World) (b i : Nat) (v : Value) : W.grownBy (W.setCell ⟨b, i, none⟩ v) (some b) :=
  ⟨rfl, rfl, rfl, by simp, fun k _ hk => heap_setCell_other W ⟨b, i, none⟩ k v (fun e => hk (by rw [e]))⟩
/-- Block g is a box of these cells. -/
def BoxC (W : World) (g : Nat) (T : TypeId) (cs : Array Value) : Prop := W.heap[g]? = some (.cells cs T (0, 0))
theorem BoxC.lt {W : World} {g : Nat} {T : TypeId} {cs : Array Value} (h : BoxC W g T cs) : g < W.heap.size := (Array.getElem?_eq_some_iff.1 h).1
theorem BoxC.cell {W : World} {g : Nat} {T : TypeId} {cs : Array Value} (h : BoxC W g T cs) (i : Nat) (v : Value) (hv : cs[i]? = some v) : W.cell? ⟨g, i, none⟩ = some v := by simp [World.cell?, show W.heap[g]? = _ from h, hv]
theorem BoxC.frozen {W : World} {g : Nat} {T : TypeId} {cs : Array Value} (h : BoxC W g T cs) (i : Nat) : W.frozen? ⟨g, i, none⟩ = false := by simp [World.frozen?, show W.heap[g]? = _ from h]
theorem BoxC.below {W W' : World} {B g : Nat} {T : TypeId} {cs : Array Value} (h : BoxC W g T cs) (hb : Below B W W') (hg : g < B) : BoxC W' g T cs := (hb.block g hg).trans h
theorem BoxC.new (W : World) (T : TypeId) (cs : Array Value) : BoxC (W.alloc (.cells cs T)) W.heap.size T cs := World.alloc_heap_new W _
theorem BoxC.alloc {W : World} {g : Nat} {T : TypeId} {cs : Array Value} (h : BoxC W g T cs) (o : Obj) : BoxC (W.alloc o) g T cs := h.below (below_al (Below.refl _ W) o) h.lt
theorem BoxC.set {W : World} {g : Nat} {T : TypeId} {cs : Array Value} (h : BoxC W g T cs) (i : Nat) (v : Value) : BoxC (W.setCell ⟨g, i, none⟩ v) g T (cs.setIfInBounds i v) := heap_setCell_same W g i cs T v h
theorem BoxC.other {W : World} {g b : Nat} {T : TypeId} {cs : Array Value} (h : BoxC W g T cs) (hne : g ≠ b) (i : Nat) (v : Value) : BoxC (W.setCell ⟨b, i, none⟩ v) g T cs :=
  ((grown_set W b i v).block g h.lt (fun e => by injection e with e; exact hne e)).trans h
/-- A row that grows is no box. -/
theorem BoxC.grown {W W' : World} {g b s n : Nat} {T T2 : TypeId} {cs : Array Value} {v : Value} {xs : List Value} (h : BoxC W g T cs) (hT : T ≠ T2) (ho : W.ownsRow b T2 s v n xs) (hg : W.grownBy W' v.ownBlock) : BoxC W' g T cs := by
  refine (hg.block g h.lt (fun e => ?_)).trans h
  replace e := e.symm
  rcases ho.2 with ⟨rfl, _⟩ | ⟨g1, c1, cur1, rfl, _, hh1, _⟩
  · cases e
  · injection e with e
    have e : g1 = g := e
    subst e
    rw [show W.heap[g1]? = _ from h] at hh1; injection hh1 with hh1; injection hh1 with _ hh1
    exact hT hh1
theorem own_apart {W : World} {b1 b2 s1 s2 n m : Nat} {T1 T2 : TypeId} {u v : Value} {xs ys : List Value} (hT : T1 ≠ T2) (h1 : W.ownsRow b1 T1 s1 u n xs) (h2 : W.ownsRow b2 T2 s2 v m ys) : u.ownBlock = none ∨ u.ownBlock ≠ v.ownBlock := by
  rcases h1.2 with ⟨rfl, _⟩ | ⟨g, cap, cur, rfl, hb, hg, _⟩
  · exact .inl rfl
  rcases h2.2 with ⟨rfl, _⟩ | ⟨g2, cap2, cur2, rfl, hb2, hg2, _⟩
  · right; simp [Value.ownBlock]
  right
  intro e
  have e : g = g2 := by simpa [Value.ownBlock] using e
  subst e
  rw [hg] at hg2
  injection hg2 with hg2
  injection hg2 with _ h _
  exact hT h
theorem own_grown {W W' : World} {b1 b2 s1 s2 n m : Nat} {T1 T2 : TypeId} {u v : Value} {xs ys : List Value} (hT : T1 ≠ T2) (h1 : W.ownsRow b1 T1 s1 u n xs) (h2 : W.ownsRow b2 T2 s2 v m ys) (hg : W.grownBy W' v.ownBlock) : W'.ownsRow b1 T1 s1 u n xs :=
  h1.kept hg (own_apart hT h1 h2)
theorem own_box {W : World} {b g s n : Nat} {T T2 : TypeId} {v : Value} {xs : List Value} {cs : Array Value} (h : W.ownsRow b T s v n xs) (hbx : BoxC W g T2 cs) (hT : T ≠ T2) (i : Nat) (x : Value) : (W.setCell ⟨g, i, none⟩ x).ownsRow b T s v n xs := by
  refine own_keep h (fun e => ?_) x
  rcases h.2 with ⟨rfl, _⟩ | ⟨g1, c1, cur1, rfl, _, hh1, _⟩
  · cases e
  · injection e with e
    have e : g1 = g := e
    subst e
    rw [show W.heap[g1]? = _ from hbx] at hh1; injection hh1 with hh1; injection hh1 with _ hh1
    exact hT hh1.symm
/-- A row in new memory lies apart from the elder. -/
theorem ap_new {w w' : World} {b1 s1 n m b2 s2 : Nat} {T1 T2 : TypeId} {v u : Value} {xs ys : List Value} (h : w.ownsRow b1 T1 s1 v n xs) (hu : w'.ownsRow b2 T2 s2 u m ys) (hb : w.heap.size ≤ b2) : Ap v u := fun g e1 e2 => by
  have h1 := (h.lt _ e1).2
  have h2 := (hu.lt _ e2).1
  change g < w.heap.size at h1
  change b2 ≤ g at h2
  omega
theorem OwnSt.base {a base : Nat} {w : World} {vm vt : Value} {s : Sta} {ps : List TV} (h : OwnSt base w vm vt s ps) (ha : a ≤ base) : OwnSt a w vm vt s ps :=
  ⟨own_base h.mem ha, own_base h.ths ha, h.eq, fun p hp => ⟨own_base (h.each p hp).1 ha, own_base (h.each p hp).2.1 ha, (h.each p hp).2.2⟩, h.ap⟩
/-- A store into a box. -/
theorem OwnSt.box {base g : Nat} {w : World} {T : TypeId} {cs : Array Value} {vm vt : Value} {s : Sta} {ps : List TV} (h : OwnSt base w vm vt s ps) (hbx : BoxC w g T cs) (h1 : (94 : TypeId) ≠ T) (h2 : (3 : TypeId) ≠ T) (h3 : (135 : TypeId) ≠ T) (i : Nat) (x : Value) :
    OwnSt base (w.setCell ⟨g, i, none⟩ x) vm vt s ps :=
  ⟨own_box h.mem hbx h2 i x, own_box h.ths hbx h1 i x, h.eq, fun p hp => ⟨own_box (h.each p hp).1 hbx h2 i x, own_box (h.each p hp).2.1 hbx h3 i x, (h.each p hp).2.2⟩, h.ap⟩
theorem OwnSt.new_r {base b : Nat} {w w' : World} {vm vt u : Value} {s : Sta} {ps : List TV} {l : List Int} (h : OwnSt base w vm vt s ps) (hu : OwnI b w' u l) (hb : w.heap.size ≤ b) : Ap vm u ∧ ∀ p ∈ ps, Ap p.vr u :=
  ⟨ap_new h.mem hu hb, fun p hp => ap_new (h.each p hp).1 hu hb⟩
/-- What hands back a state of the call's own. -/
def StRet (s : Sta) (w : World) (e : Ending) (w' : World) : Prop := ∃ vm vt ps, e = .returned (.agg #[vm, vt]) ∧ OwnSt w.heap.size w' vm vt s ps ∧ Below w.heap.size w w'
/-- What hands back the state behind a step. -/
def StpRet (P : Pg) (s : Sta) (t : Int) (w : World) (e : Ending) (w' : World) : Prop := ∃ vm vt ps, e = .returned (.tuple #[.agg #[vm, vt], .bool (atS P s t).isSome]) ∧ OwnSt w.heap.size w' vm vt (stp P s t) ps ∧ Below w.heap.size w w'
theorem mk4 (W : World) : (Instr.makeSlice 22 (.int .i64 4) (.int .i64 4)).run Try.prog W = .ok (.slice (some ⟨W.heap.size, 0, none⟩) 4 4) (W.alloc (.cells #[.int .i64 0, .int .i64 0, .int .i64 0, .int .i64 0] 3)) := by
  obtain ⟨i0, hi0, hz0, hz1, hz2⟩ := info_parts info_nu
  have := run_makeSlice (P := Try.prog) (w := W) 22 3 i0 (.int .i64 0) Try.underlying22 hi0 hz0 .i64 .i64 4 4 (by decide) (by decide) (by rw [hz1]; decide) (by rw [hz2]; decide) (by decide)
  rw [hz1, show madeCells (Value.int .i64 0).cells (Int.toNat 4 * 1) = #[.int .i64 0, .int .i64 0, .int .i64 0, .int .i64 0] from by
    apply Array.ext
    · simp [madeCells]
    · intro i h1 h2
      have : i < 4 := h2
      match i, this with
      | 0, _ => simp [madeCells, Value.cells]
      | 1, _ => simp [madeCells, Value.cells]
      | 2, _ => simp [madeCells, Value.cells]
      | 3, _ => simp [madeCells, Value.cells]] at this
  exact this
/-- A code, of which what locations have at first is nil only without room. -/
def PgZ (B : Nat) (w : World) (v : Value) (P : Pg) : Prop := ∃ vi vt, v = .agg #[vi, vt] ∧ PgM B w vi vt P ∧ IntR B w vi P.init
theorem PgZ.v {B : Nat} {w : World} {v : Value} {P : Pg} (h : PgZ B w v P) : PgV B w v P := by
  obtain ⟨a, b, e, h, _⟩ := h; exact ⟨a, b, e, h⟩
theorem PgZ.below {B : Nat} {w w' : World} {v : Value} {P : Pg} (h : PgZ B w v P) (hb : Below B w w') : PgZ B w' v P := by
  obtain ⟨a, b, e, h, k⟩ := h; exact ⟨a, b, e, h.below hb, k.below hb⟩
theorem PgZ.more {B B' : Nat} {w : World} {v : Value} {P : Pg} (h : PgZ B w v P) (hb : B ≤ B') : PgZ B' w v P := by
  obtain ⟨a, b, e, h, k⟩ := h; exact ⟨a, b, e, h.more hb, k.more hb⟩
theorem intR_of {B : Nat} {w : World} {v : Value} {ns : List Int} (h : Ints B w v ns) (hz : NilZ v) : IntR B w v ns := by
  obtain ⟨A, c, rfl, h1, h2, h3⟩ := h
  refine ⟨A, c, rfl, h1, h2, fun e => ?_, fun k => ?_⟩
  · subst e
    refine ⟨?_, hz _ _ rfl⟩
    rcases Nat.eq_zero_or_pos ns.length with k | k
    · exact k
    · obtain ⟨_, _, e, _⟩ := h3 k; cases e
  · obtain ⟨b, f, e, hb, hc⟩ := h3 k
    refine ⟨b, f, e, hb, fun j u hu => ?_⟩
    have hj : j < ns.length := by have := (List.getElem?_eq_some_iff.1 hu).1; rw [fl_len nuC_len] at this; omega
    have := fl_at nuC_len ns j 0 hj (by decide)
    rw [Nat.mul_one, Nat.add_zero, hu] at this
    have hu2 : u = .int .i64 ns[j] := Option.some.inj this
    rw [hu2]; exact hc j hj
theorem PgV.z {B : Nat} {w : World} {v : Value} {P : Pg} (h : PgV B w v P) (hz : ∀ vi vt, v = .agg #[vi, vt] → NilZ vi) : PgZ B w v P := by
  obtain ⟨a, b, e, h⟩ := h
  exact ⟨a, b, e, h, intR_of h.1 (hz _ _ e)⟩
theorem info_th : (Try.prog.info? 94).map (fun i => (i.zero, i.size, i.bytes)) = some (some (.agg #[.int .i64 0, .slice none 0 0, .bool false, .slice none 0 0]), 4, 64) := by kernel_rfl
theorem one_th (p : TV) (h1 : p.vr.oneCell' = true) (h2 : p.vb.oneCell' = true) : ∀ u ∈ thC p, u.oneCell' = true := fun u hu => by
  simp only [thC, List.mem_cons, List.not_mem_nil, or_false] at hu
  rcases hu with rfl | rfl | rfl | rfl
  · rfl
  · exact h1
  · rfl
  · exact h2
end Go.Proofs.Ytbffjhdocicfoaa
