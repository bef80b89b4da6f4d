/-
  sc.Right: may a state be so?
  LAYER 10: head, a live question whose answer is fixed.
  STATES THAT LIE IN AN ARGUMENT's ROWS, OR IN THE CALL's OWN; rows of bools.
  LAYER 13: rows of picks, a step's answer, and what stays behind a call that changes one box.
  THE SEARCH in memory; what is met.
  tso.isThread, tso.waits, tso.can.
  THE DOCUMENT's Step of layer 11: a drain.
-/
import Derived.Test.YtbffjhdocicfoaaK15
import Derived.Test.YtbffjhdocicfoaaScY
import Derived.Deep.RegionHeld3
import Derived.Deep.DeepCutAuto
import Derived.Test.YtbffjhdocicfoaaScPs
import Derived.Test.YtbffjhdocicfoaaScPb
import Derived.Test.YtbffjhdocicfoaaK21
import Derived.Test.YtbffjhdocicfoaaK16
import Derived.Test.YtbffjhdocicfoaaK19
import Derived.Test.YtbffjhdocicfoaaScP
import Derived.Test.YtbffjhdocicfoaaK02
import Derived.Test.YtbffjhdocicfoaaScW
set_option linter.unusedVariables false
set_option linter.unusedSimpArgs false
namespace Go.Proofs.Ytbffjhdocicfoaa
open Go.RowKit
set_option linter.unusedVariables false
set_option linter.unusedSimpArgs false
open CodM (St Pg posI)
open BfM (Wr plc)
open ScM

def thV (t : Th) (vr vb : Value) : Value := .agg #[.int .i64 t.at', vr, .bool t.eq, vb]
end Go.Proofs.Ytbffjhdocicfoaa
namespace Go.Proofs.Ytbffjhdocicfoaa
open Go.RowKit
set_option linter.unusedVariables false
set_option linter.unusedSimpArgs false
open CodM (St Pg rightP)
open BfM (Wr plc)
open ScM

/-- The code that is asked of. -/
def hP : Pg := ⟨[5], [[⟨1, 2, 0, 7, 0⟩, ⟨5, 2, 0, 0, 0⟩, ⟨7, 2, 0, 5, 0⟩, ⟨9, 0, 0, 0, 5⟩, ⟨4, 0, 0, 9, 0⟩]]⟩
def hS : Nat → Sta
  | 0 => beg hP
  | k + 1 => stp hP (hS k) 0
theorem OwnSt.sv {base : Nat} {w : World} {vm vt : Value} {s : Sta} {ps : List TV} (h : OwnSt base w vm vt s ps) : StaV w.heap.size w (.agg #[vm, vt]) s := ⟨_, _, rfl, h.read (Nat.le_refl _)⟩
end Go.Proofs.Ytbffjhdocicfoaa
namespace Go.Proofs.Ytbffjhdocicfoaa
open Go Go.ChangeShapes Go.WideShapes Go.RowKit Go.Deep
set_option linter.unusedVariables false
set_option linter.unusedSimpArgs false
open CodM (St Pg rightP)
open BfM (Wr plc)
open ScM

/-! Rows of bools. -/
end Go.Proofs.Ytbffjhdocicfoaa
namespace Go.Proofs.Ytbffjhdocicfoaa
open Go Go.ChangeShapes Go.WideShapes Go.RowKit Go.Deep
set_option linter.unusedVariables false
set_option linter.unusedSimpArgs false
set_option maxRecDepth 100000
open CodM (St Pg rightP)
open BfM (Wr plc)
open ScM

section
variable {H : Type} {enc : TypeId × Value → H} {w : World} {base : Nat} {spare : Nat → Bool} {held : Bool}
end
/-! All blocks below n but g stay, and but those of picks from B on. -/
/-- A row whose block stays. -/
theorem own_same {base T s m : Nat} {W W' : World} {v : Value} {xs : List Value} (h : W.ownsRow base T s v m xs) (hk : ∀ g cs, W.heap[g]? = some (.cells cs T (0, 0)) → v.ownBlock = some g → W'.heap[g]? = W.heap[g]?) : W'.ownsRow base T s v m xs := by
  obtain ⟨h0, h⟩ := h
  refine ⟨h0, ?_⟩
  rcases h with h | ⟨g, cap, cur, h1, h2, h3, h4⟩
  · exact .inl h
  · exact .inr ⟨g, cap, cur, h1, h2, (hk g cur h3 (by rw [h1]; rfl)).trans h3, h4⟩
/-! A step of a run. -/
end Go.Proofs.Ytbffjhdocicfoaa
namespace Go.Proofs.Ytbffjhdocicfoaa
open Go.RowKit Go.WideMaps
set_option linter.unusedVariables false
set_option linter.unusedSimpArgs false
open CodM (St Pg rightP hReg hLoc)
open BfM (Wr plc)
open NumM (inR)
open ScM EnM ExM ExN ExP EyP

/-! Maps of bools, keyed by texts. -/
def MapK (w : World) (b n : Nat) (f : List UInt8 → Bool) : Prop :=
  ∃ D : DataW Unit, w.ownsMap Try.prog 9 (plainElem Try.prog 4) b n D ∧ Maps.IsMap D ∧ ∀ s : List UInt8, D.atKey (.string s) (.lit (.bool false)) = .lit (.bool (f s))
theorem MapK.lt {w : World} {b n : Nat} {f : List UInt8 → Bool} (h : MapK w b n f) : b < w.heap.size := by
  obtain ⟨D, h1, _⟩ := h
  exact h1.lt
theorem MapK.heap {w w' : World} {b n : Nat} {f : List UInt8 → Bool} (h : MapK w b n f) (e : w'.heap[b]? = w.heap[b]?) : MapK w' b n f := by
  obtain ⟨D, ⟨es, cl, h1, h2⟩, h3⟩ := h
  exact ⟨D, ⟨es, cl, e.trans h1, h2⟩, h3⟩
theorem MapK.cells {w : World} {b n : Nat} {f : List UInt8 → Bool} (h : MapK w b n f) : ∀ cs T ro, w.heap[b]? ≠ some (.cells cs T ro) := by
  obtain ⟨D, ⟨es, cl, h1, h2⟩, h3⟩ := h
  intro cs T ro e
  rw [h1] at e; injection e with e; cases e
theorem MapK.mono {w : World} {b n n' : Nat} {f g : List UInt8 → Bool} (h : MapK w b n f) (hn : n ≤ n') (hg : ∀ s, f s = g s) : MapK w b n' g := by
  obtain ⟨D, h1, h2, h3⟩ := h
  exact ⟨D, h1.mono hn, h2, fun s => by rw [h3 s, hg s]⟩
theorem MapK.made (w : World) : MapK (w.alloc (.map #[] 0)) w.heap.size 0 (fun _ => false) :=
  ⟨.map [], World.ownsMap_made w _ _ _, Maps.isMap_empty, fun i => rfl⟩
theorem mapK_key {s : List UInt8} (h : s.length ≤ 9223372036854775807) : keyOf Try.prog 9 (.string ⟨s.toArray⟩) = some (.string s) := by
  have := keyOf_string_mk (s := ⟨s.toArray⟩) Try.underlying9 (by rw [Lib.size_eq]; unfold maxLen; simpa using h)
  simpa using this
theorem zeroBo (w : World) : (zeroValue 4).run Try.prog w = .ok (.bool false) w := by kernel_rfl
theorem plain_bo {P : Program} {e : TypeId} (he : P.underlying e = some .bool) {v : Value} {z : DataW Unit × List MemPlace} (h : plainElem P e v = some z) : ∃ x, v = .bool x ∧ z = (.lit (.bool x), []) := by
  unfold plainElem at h
  rw [he] at h
  cases v <;> simp at h
  exact ⟨_, rfl, h.symm⟩
section
variable (w : World) {ops : Array Oper} {rest : List Oper} {o : Oper} {a : Act} {Q : Exit → Act → World → Prop}
theorem at_mapK (hg : o.guard = none) (m x : Operand) (hop : o.op = Op.lookup 57 m x false) (b n : Nat) (f : List UInt8 → Bool) (hm : a.eval m = .map (some b)) (hown : MapK w b n f) (s : List UInt8) (hx : a.eval x = .string ⟨s.toArray⟩) (hi : s.length ≤ 9223372036854775807)
    (hK : wpList Try.prog ops Q rest (a.put o.dst (.bool (f s))) w) : wpList Try.prog ops Q (o :: rest) a w := by
  refine wpList_plain hg fun K' hK' => ?_
  obtain ⟨D, h1, h2, h3⟩ := hown
  obtain ⟨v, ps, hrun, hv⟩ := h1.lookup strKey Try.underlying57 (zeroBo w) (plainElem_bool Try.underlying4 false) (mapK_key hi)
  obtain ⟨c, rfl, hc⟩ := plain_bo Try.underlying4 hv
  simp only [Prod.mk.injEq] at hc
  have hat := hc.1
  rw [h3 s] at hat
  injection hat with hat
  injection hat with hat
  unfold Oper.wp
  simp [execOp, hop, hm, hx, hrun, Result.andThen]
  exact hK' _ _ (hat ▸ hK)
theorem at_putK (hg : o.guard = none) (m x v : Operand) (hop : o.op = Op.mapUpdate 57 m x v) (b n : Nat) (f : List UInt8 → Bool) (hm : a.eval m = .map (some b)) (hown : MapK w b n f) (hn : n < maxLen)
    (s : List UInt8) (hx : a.eval x = .string ⟨s.toArray⟩) (hv : a.eval v = .bool true) (hi : s.length ≤ 9223372036854775807)
    (hK : ∀ w', MapK w' b (n + 1) (fun j => f j || decide (j = s)) → w.grownBy w' (some b) → wpList Try.prog ops Q rest (a.put o.dst undef) w') : wpList Try.prog ops Q (o :: rest) a w := by
  obtain ⟨D, h1, h2, h3⟩ := hown
  have h4 : Maps.IsMap (D.put (.string s) (.lit (.bool true))) ∧ ∀ t : List UInt8, (D.put (.string s) (.lit (.bool true))).atKey (.string t) (.lit (.bool false)) = .lit (.bool (f t || decide (t = s))) := by
    refine ⟨h2.put _ _, fun t => ?_⟩
    by_cases e : t = s
    · subst e
      rw [Maps.atKey_put_same h2 (by trivial)]; simp
    · rw [Maps.atKey_put_other (by intro c; injection c with c; exact e c), h3 t]
      simp [e]
  exact wpList_mapUpdate_own w hg m x v _ hop _ _ strKey Try.underlying57 _ b n D hm h1 hn _ _ _ hx hv (mapK_key hi) _ [] (plainElem_bool Try.underlying4 true) (fun w' h6 h7 => hK w' ⟨_, h6, h4⟩ h7)
end
/-! What stays: all below n0, and all but the search and its row. -/
abbrev Dat (T : TypeId) : Prop := T ≠ 59 ∧ T ≠ 78
def KpI (n0 : Nat) (W W' : World) : Prop := W'.os = W.os ∧ W'.tape = W.tape ∧ W'.output = W.output ∧ W.heap.size ≤ W'.heap.size ∧ ∀ k, k < W.heap.size → (k < n0 ∨ ∃ cs T ro, W.heap[k]? = some (.cells cs T ro) ∧ Dat T) → W'.heap[k]? = W.heap[k]?
theorem KpI.refl (n : Nat) (W : World) : KpI n W W := ⟨rfl, rfl, rfl, Nat.le_refl _, fun _ _ _ => rfl⟩
theorem KpI.trans {n : Nat} {a b c : World} (h : KpI n a b) (k : KpI n b c) : KpI n a c :=
  ⟨k.1.trans h.1, k.2.1.trans h.2.1, k.2.2.1.trans h.2.2.1, Nat.le_trans h.2.2.2.1 k.2.2.2.1, fun i h1 h2 => by
    have e := h.2.2.2.2 i h1 h2
    refine (k.2.2.2.2 i (Nat.lt_of_lt_of_le h1 h.2.2.2.1) ?_).trans e
    rw [e]; exact h2⟩
theorem KpI.size {n : Nat} {a b : World} (h : KpI n a b) : a.heap.size ≤ b.heap.size := h.2.2.2.1
theorem KpI.below {n : Nat} {a b : World} (h : KpI n a b) (hn : n ≤ a.heap.size) : Below n a b := ⟨h.1, h.2.1, h.2.2.1, h.2.2.2.1, fun k hk => h.2.2.2.2 k (by omega) (.inl hk)⟩
theorem KpI.of {n : Nat} {a b : World} (h : Below a.heap.size a b) : KpI n a b := ⟨h.os, h.tape, h.output, h.size, fun k hk _ => h.block k hk⟩
theorem KpI.gb {n k : Nat} {a b : World} (hg : a.grownBy b (some k)) (hn : n ≤ k) (hd : ∀ cs T ro, a.heap[k]? = some (.cells cs T ro) → ¬ Dat T) : KpI n a b :=
  ⟨hg.os, hg.tape, hg.output, hg.size, fun i h1 h2 => hg.block i h1 (fun e => by
    injection e with e
    subst e
    rcases h2 with h2 | ⟨cs, T, ro, h2, h3⟩
    · omega
    · exact hd cs T ro h2 h3)⟩
theorem KpI.set {n g i : Nat} {W : World} {T : TypeId} {cs : Array Value} (hx : BoxC W g T cs) (hn : n ≤ g) (hT : ¬ Dat T) (v : Value) : KpI n W (W.setCell ⟨g, i, none⟩ v) :=
  ⟨rfl, rfl, rfl, by simp, fun k _ h => heap_setCell_other W ⟨g, i, none⟩ k v (by
    show k ≠ g
    intro e; subst e
    rcases h with h | ⟨c2, T2, ro, h2, h3⟩
    · omega
    · rw [show W.heap[k]? = _ from hx] at h2; injection h2 with h2; injection h2 with _ h2
      exact hT (h2 ▸ h3))⟩
theorem KpI.app {n base T s m : Nat} {W W' : World} {v : Value} {xs : List Value} (ho : W.ownsRow base T s v m xs) (hn : n ≤ base) (hT : ¬ Dat T) (hg : W.grownBy W' v.ownBlock) : KpI n W W' := by
  rcases ho.2 with ⟨rfl, _⟩ | ⟨g1, c1, cur1, rfl, hb1, hh1, _⟩
  · exact ⟨hg.os, hg.tape, hg.output, hg.size, fun i h1 _ => hg.block i h1 (by simp [Value.ownBlock])⟩
  · exact KpI.gb (k := g1) hg (Nat.le_trans hn hb1) (fun cs T2 ro e => by
      rw [hh1] at e; injection e with e; injection e with _ e
      rw [← e]; exact hT)
theorem own_kpi {n base T s m : Nat} {W W' : World} {v : Value} {xs : List Value} (h : W.ownsRow base T s v m xs) (hT : Dat T) (hk : KpI n W W') : W'.ownsRow base T s v m xs :=
  own_same h fun k cs hh _ => hk.2.2.2.2 k (Array.getElem?_eq_some_iff.1 hh).1 (.inr ⟨cs, T, (0, 0), hh, hT⟩)
theorem OwnSt.kpi {n base : Nat} {W W' : World} {vm vt : Value} {s : Sta} {ps : List TV} (h : OwnSt base W vm vt s ps) (hk : KpI n W W') : OwnSt base W' vm vt s ps :=
  ⟨own_kpi h.mem (by decide) hk, own_kpi h.ths (by decide) hk, h.eq, fun p hp => ⟨own_kpi (h.each p hp).1 (by decide) hk, own_kpi (h.each p hp).2.1 (by decide) hk, (h.each p hp).2.2⟩, h.ap⟩
/-! The search. -/
structure RV where
  n : RN
  vm : Value
  vt : Value
def rvC (x : RV) : List Value := [x.vm, x.vt, .int .i64 (x.n.fr : Int), .int .i64 (x.n.k.1 : Int), .bool x.n.k.2]
theorem rvC_len (x : RV) : (rvC x).length = 5 := rfl
abbrev rvV (x : RV) : Value := .agg #[x.vm, x.vt, .int .i64 (x.n.fr : Int), .int .i64 (x.n.k.1 : Int), .bool x.n.k.2]
abbrev rns (ys : List RV) : List RN := ys.map (·.n)
def RvOk (n0 : Nat) (W : World) (y : RV) : Prop := ∃ ps, OwnSt n0 W y.vm y.vt y.n.s ps
theorem RvOk.kpi {n0 : Nat} {W W' : World} {y : RV} (h : RvOk n0 W y) (hk : KpI n0 W W') : RvOk n0 W' y := by
  obtain ⟨ps, h⟩ := h; exact ⟨ps, h.kpi hk⟩
theorem RvOk.sl {n0 : Nat} {W : World} {y : RV} (h : RvOk n0 W y) : ∃ A c B d, y.vm = .slice A y.n.s.mem.length c ∧ y.vt = .slice B y.n.s.ths.length d := by
  obtain ⟨ps, h⟩ := h
  obtain ⟨A, c, e1⟩ := own_slice h.mem
  obtain ⟨B, d, e2⟩ := own_slice h.ths
  exact ⟨A, c, B, d, e1, e2⟩
theorem RvOk.sv {n0 : Nat} {W : World} {y : RV} (h : RvOk n0 W y) : StaV W.heap.size W (.agg #[y.vm, y.vt]) y.n.s := by
  obtain ⟨ps, h⟩ := h; exact h.sv
theorem lit_at {X : World} {g : Nat} {T : TypeId} {cs : Array Value} (hL : BoxC X g T cs) : ∀ ad, some (⟨g, 0, none⟩ : Addr) = some ad → ∀ j u, cs.toList[j]? = some u → X.cell? (ad.add j) = some u := by
  intro ad e j u hu
  injection e with e
  rw [← e, Addr.add_lit, Nat.zero_add]
  exact hL.cell j u (by simpa using hu)
def keyed (ys : List RV) (k : List UInt8) : Bool := decide (∃ y ∈ ys, keyS y.n.s = k)
structure SrB (n0 g mb : Nat) (wk : Bool) (pi pt : Value) (ys : List RV) (vr : Value) (W : World) : Prop where
  box : BoxC W g 59 #[pi, pt, .bool wk, vr, .map (some mb)]
  row : W.ownsRow n0 78 5 vr ys.length (ys.flatMap rvC)
  st : ∀ y ∈ ys, RvOk n0 W y
  map : MapK W mb ys.length (keyed ys)
  low : n0 ≤ g ∧ n0 ≤ mb
theorem SrB.below {n0 g mb : Nat} {wk : Bool} {pi pt vr : Value} {ys : List RV} {W W' : World} (h : SrB n0 g mb wk pi pt ys vr W) (hb : Below W.heap.size W W') : SrB n0 g mb wk pi pt ys vr W' :=
  ⟨h.box.below hb h.box.lt, own_below h.row hb, fun y hy => (h.st y hy).kpi (KpI.of hb), h.map.heap (hb.block _ h.map.lt), h.low⟩
theorem SrB.at {n0 g mb : Nat} {wk : Bool} {pi pt vr : Value} {ys : List RV} {W : World} (h : SrB n0 g mb wk pi pt ys vr W) {i : Nat} (hi : i < ys.length) : ∃ gr c, vr = .slice (some ⟨gr, 0, none⟩) ys.length c ∧ W.cell? ⟨gr, i * 5, none⟩ = some ys[i].vm ∧ W.cell? ⟨gr, i * 5 + 1, none⟩ = some ys[i].vt ∧ W.cell? ⟨gr, i * 5 + 2, none⟩ = some (.int .i64 (ys[i].n.fr : Int)) ∧ W.cell? ⟨gr, i * 5 + 3, none⟩ = some (.int .i64 (ys[i].n.k.1 : Int)) ∧ W.cell? ⟨gr, i * 5 + 4, none⟩ = some (.bool ys[i].n.k.2) := by
  have ho := h.row
  rcases id ho.2 with ⟨e, h0⟩ | ⟨gr, c, cur, e, _⟩
  · omega
  · subst e
    refine ⟨gr, c, rfl, ?_, ?_, ?_, ?_, ?_⟩
    · exact (ho.cellAt (i * 5) (by omega)).trans ((fl_at rvC_len ys i 0 hi (by omega)).trans rfl)
    · exact (ho.cellAt (i * 5 + 1) (by omega)).trans ((fl_at rvC_len ys i 1 hi (by omega)).trans rfl)
    · exact (ho.cellAt (i * 5 + 2) (by omega)).trans ((fl_at rvC_len ys i 2 hi (by omega)).trans rfl)
    · exact (ho.cellAt (i * 5 + 3) (by omega)).trans ((fl_at rvC_len ys i 3 hi (by omega)).trans rfl)
    · exact (ho.cellAt (i * 5 + 4) (by omega)).trans ((fl_at rvC_len ys i 4 hi (by omega)).trans rfl)
theorem info_rv : (Try.prog.info? 78).map (fun i => (i.zero, i.size, i.bytes)) = some (some (.agg #[.slice none 0 0, .slice none 0 0, .int .i64 0, .int .i64 0, .bool false]), 5, 72) := by kernel_rfl
theorem keyed_no {ys : List RV} {x : RV} (hx : ∀ n ∈ numsS x.n.s, inR n) (hy : ∀ y ∈ ys, ∀ n ∈ numsS y.n.s, inR n) : keyed ys (keyS x.n.s) = decide (x.n.s ∈ ys.map (·.n.s)) := by
  unfold keyed
  rw [decide_eq_decide]
  constructor
  · rintro ⟨y, h1, h2⟩
    rw [← keyS_inj (hy y h1) hx h2]
    exact List.mem_map.2 ⟨y, h1, rfl⟩
  · intro h
    obtain ⟨y, h1, h2⟩ := List.mem_map.1 h
    exact ⟨y, h1, by rw [h2]⟩
theorem keyed_snoc (ys : List RV) (x : RV) (k : List UInt8) : (keyed ys k || decide (k = keyS x.n.s)) = keyed (ys ++ [x]) k := by
  unfold keyed
  rw [Bool.eq_iff_iff]
  simp only [Bool.or_eq_true, decide_eq_true_eq, List.mem_append, List.mem_singleton]
  constructor
  · rintro (⟨y, h1, h2⟩ | h)
    · exact ⟨y, .inl h1, h2⟩
    · exact ⟨x, .inr rfl, h.symm⟩
  · rintro ⟨y, h1 | h1, h2⟩
    · exact .inl ⟨y, h1, h2⟩
    · subst h1; exact .inr h2.symm
/-- What meet leaves behind. -/
def MtRet (n0 g mb : Nat) (wk : Bool) (pi pt : Value) (ys : List RV) (x : RV) (w : World) (e : Ending) (w' : World) : Prop :=
  e = .returned (.tuple #[]) ∧ ∃ vr', SrB n0 g mb wk pi pt (if x.n.s ∈ ys.map (·.n.s) then ys else ys ++ [x]) vr' w' ∧ KpI n0 w w'
set_option maxHeartbeats 8000000 in
set_option maxRecDepth 100000 in
theorem xmeet_any {n0 g mb : Nat} {wk : Bool} {pi pt vr : Value} {ys : List RV} (x : RV) (w : World) (h : SrB n0 g mb wk pi pt ys vr w) (hx : RvOk n0 w x) (hn0 : n0 ≤ w.heap.size) (hxi : ∀ n ∈ numsS x.n.s, inR n) (hxl : (numsS x.n.s).length ≤ 1000000) (hys : ∀ y ∈ ys, ∀ n ∈ numsS y.n.s, inR n) (hl : ys.length ≤ 30000) :
    Calls Try.prog 35 #[.pointer (some ⟨g, 0, none⟩), rvV x] w (MtRet n0 g mb wk pi pt ys x w) := by
  have HKE := Lib.hid (keyed_no hxi hys)
  have HKL := Lib.hid (show (keyS x.n.s).length ≤ 9223372036854775807 from by have := keyL_len (numsS x.n.s) hxi; unfold keyS; omega)
  have HSN := Lib.hid (keyed_snoc ys x)
  have HKY := Lib.hid (fun (W : World) (hW : Below w.heap.size w W) => key_any (v := .agg #[x.vm, x.vt]) W ((hx.kpi (KpI.of (n := n0) hW)).sv) (Nat.le_refl _) hxi hxl)
  obtain ⟨A1, c1, A2, c2, e1, e2⟩ := hx.sl
  have H0 := Lib.hid h
  have HX0 := Lib.hid hx
  have HN0 := Lib.hid hn0
  obtain ⟨i0, hi0, hz0, hz1, hz2⟩ := info_parts info_rv
  obtain ⟨ln, hln⟩ : ∃ n, n = ys.length := ⟨_, rfl⟩
  have HLN := Lib.hid hln
  have hl3 : ln ≤ 30000 := by omega
  obtain ⟨AR, cr, er⟩ := own_slice h.row
  rw [← hln] at er
  subst er
  obtain ⟨ky, hky⟩ : ∃ k, k = keyS x.n.s := ⟨_, rfl⟩
  rw [← hky] at HKE HKL HSN HKY
  obtain ⟨bb, hbb⟩ : ∃ b, b = decide (x.n.s ∈ ys.map (·.n.s)) := ⟨_, rfl⟩
  rw [← hbb] at HKE
  have HBB := Lib.hid hbb
  clear h hx hn0 hxi hxl hys hl hln hky hbb
  obtain ⟨W1, hW1⟩ : ∃ W, W = w.alloc (.cells #[x.vm, x.vt, .int .i64 (x.n.fr : Int), .int .i64 (x.n.k.1 : Int), .bool x.n.k.2] 78) := ⟨_, rfl⟩
  obtain ⟨gb, hgb⟩ : ∃ y, y = w.heap.size := ⟨_, rfl⟩
  have HX := Lib.hid (show BoxC W1 gb 78 #[x.vm, x.vt, .int .i64 (x.n.fr : Int), .int .i64 (x.n.k.1 : Int), .bool x.n.k.2] from by rw [hW1, hgb]; exact BoxC.new w _ _)
  have HB1 := Lib.hid (show Below w.heap.size w W1 from by rw [hW1]; exact below_al (Below.refl _ _) _)
  obtain ⟨⟨sx, fr, ⟨kt, kd⟩⟩, xm, xt⟩ := x
  dsimp only at *
  subst e1 e2
  go_enter Try.func35, Try.ntmps35
  go_upto_region 1 with fail
  rw [← hW1]
  (try rw [← hgb])
  clear hW1 hgb
  have x0 := HX.out.cell 0 _ rfl
  have x1 := HX.out.cell 1 _ rfl
  go_wp2_with fail
  refine (HKY.out _ HB1.out).mono ?_
  rintro e W2 ⟨rfl, hb2⟩
  have HB2 := Lib.hid (chain HB1.out hb2)
  have HX2 := Lib.hid (HX.out.below hb2 HX.out.lt)
  have H2 := Lib.hid (H0.out.below HB2.out)
  clear x0 x1 hb2
  have g4 := H2.out.box.cell 4 _ rfl
  cases bb
  · have hnot := of_decide_eq_false HBB.out.symm
    have HNOT := Lib.hid hnot
    clear hnot
    go_wp2_with (first | (at_lookup; refine at_mapK _ rfl _ _ rfl mb _ _ rfl H2.out.map ky rfl HKL.out ?_; rw [HKE.out]) | (at_mapUpdate; refine at_putK _ rfl _ _ _ rfl mb _ _ rfl H2.out.map (by rw [← HLN.out]; unfold maxLen; omega) ky rfl rfl HKL.out ?_; intro W3 hm3 hg3))
    have HI3 := Lib.hid (show KpI n0 w W3 from (KpI.of HB2.out).trans (KpI.gb hg3 H2.out.low.2 (fun cs T ro e => absurd e (H2.out.map.cells cs T ro))))
    have HBX := Lib.hid (fun (b : Nat) (T : TypeId) (cs : Array Value) (hb : BoxC W2 b T cs) => show BoxC W3 b T cs from (hg3.block b hb.lt (fun e => by injection e with e; subst e; exact H2.out.map.cells _ _ _ hb)).trans hb)
    have HX3 := Lib.hid (HBX.out _ _ _ HX2.out)
    have HG3 := Lib.hid (HBX.out _ _ _ H2.out.box)
    have HR3 := Lib.hid (show W3.ownsRow n0 78 5 (.slice AR ln cr) ln (ys.flatMap rvC) from by
      have := own_same (W' := W3) H2.out.row (fun k cs hh _ => hg3.block k (Array.getElem?_eq_some_iff.1 hh).1 (fun e => by injection e with e; subst e; exact H2.out.map.cells _ _ _ hh))
      rw [← HLN.out] at this; exact this)
    have HM3 := Lib.hid hm3
    have HIX := Lib.hid (show KpI n0 W2 W3 from KpI.gb hg3 H2.out.low.2 (fun cs T ro e => absurd e (H2.out.map.cells cs T ro)))
    clear hm3 hg3 g4
    go_upto_region 4 with fail
    refine wp_region_held_drew (S := (fun w' => True)) (by kernel_rfl) trivial (fun hHeld => ?_)
    obtain ⟨Xs, hXs⟩ : ∃ W, W = W3.drew := ⟨_, rfl⟩
    have HDR := Lib.hid (show Below W3.heap.size W3 Xs from by rw [hXs]; exact below_drewN (Below.refl _ _) 1)
    rw [← hXs]
    clear hXs
    have HGC := Lib.hid (HG3.out.below HDR.out HG3.out.lt)
    have HXC := Lib.hid (HX3.out.below HDR.out HX3.out.lt)
    have HRW := Lib.hid (own_below HR3.out HDR.out)
    have HKC := Lib.hid (KpI.of (n := n0) HDR.out)
    have HMC := Lib.hid (HM3.out.heap (HDR.out.block _ HM3.out.lt))
    refine wpAnyH_take (i := 0) (v := ?_) rfl (by kernel_rfl) (by kernel_rfl) (by kernel_rfl) (fun _ _ _ h => h) (Or.inl ⟨by rfl, ?_⟩) (by assumption) ?_
    rotate_left
    · intro w hSw; (try dsimp only at hSw); go_simp; (try with_reducible rfl)
    (try simp only [Act.put, pt8])
    refine wpAnyH_take (i := 1) (v := ?_) rfl (by kernel_rfl) (by kernel_rfl) (by kernel_rfl) (fun _ _ _ h => h) (Or.inl ⟨by rfl, ?_⟩) (by assumption) ?_
    rotate_left
    · intro w hSw; (try dsimp only at hSw); go_simp; (try with_reducible rfl)
    (try simp only [Act.put, pt8])
    refine wpAnyH_take (i := 2) (v := ?_) rfl (by kernel_rfl) (by kernel_rfl) (by kernel_rfl) (fun _ _ _ h => h) (Or.inl ⟨by rfl, ?_⟩) (by assumption) ?_
    rotate_left
    · intro w hSw; (try dsimp only at hSw); go_simp; (try with_reducible rfl)
    (try simp only [Act.put, pt8])
    refine wpAnyH_take (i := 3) (v := ?_) rfl (by kernel_rfl) (by kernel_rfl) (by kernel_rfl) (fun _ _ _ h => h) (Or.inl ⟨by rfl, ?_⟩) (by assumption) ?_
    rotate_left
    · intro w hSw; (try dsimp only at hSw); go_simp; (try with_reducible rfl)
    (try simp only [Act.put, pt8])
    refine wpAnyH_ready (rs := [4, 5]) (by kernel_rfl) (by simp) ?_
    refine AllReadyH.cons rfl (fun K hK => ?_) (AllReadyH.cons rfl (fun K hK => ?_) (AllReadyH.nil))
    · -- 4 first
      have g2 := HGC.out.cell 3 (.slice AR ln cr) rfl
      go_simp
      refine hK.out _ _ trivial (fun hHeld => ?_)
      clear hK K
      (try simp only [Act.put, pt8])
      clear g2
      refine wpAnyH_ready (rs := [5]) (by kernel_rfl) (by simp) ?_
      refine AllReadyH.cons rfl (fun K hK => ?_) AllReadyH.nil
      have x0 := HXC.out.cell 0 _ rfl
      have x1 := HXC.out.cell 1 _ rfl
      have x2 := HXC.out.cell 2 _ rfl
      have x3 := HXC.out.cell 3 _ rfl
      have x4 := HXC.out.cell 4 _ rfl
      go_simp
      refine hK.out _ _ trivial (fun hHeld => ?_)
      clear hK K
      (try simp only [Act.put, pt8])
      clear x0 x1 x2 x3 x4
      refine wpAnyH_ready (rs := [6]) (by kernel_rfl) (by simp) ?_
      refine AllReadyH.cons rfl (fun K hK => ?_) AllReadyH.nil
      go_simp
      refine hK.out _ _ trivial (fun hHeld => ?_)
      clear hK K
      (try simp only [Act.put, pt8])
      obtain ⟨Wb, hWb⟩ : ∃ W, W = Xs.alloc (.cells #[.slice A1 sx.mem.length c1, .slice A2 sx.ths.length c2, .int .i64 (fr : Int), .int .i64 (kt : Int), .bool kd] 78) := ⟨_, rfl⟩
      obtain ⟨gs, hgs⟩ : ∃ y, y = Xs.heap.size := ⟨_, rfl⟩
      have HNB := Lib.hid (show BoxC Wb gs 78 #[.slice A1 sx.mem.length c1, .slice A2 sx.ths.length c2, .int .i64 (fr : Int), .int .i64 (kt : Int), .bool kd] from by rw [hWb, hgs]; exact BoxC.new Xs _ _)
      have HBL := Lib.hid (show Below Xs.heap.size Xs Wb from by rw [hWb]; exact below_al (Below.refl _ _) _)
      rw [← hWb]
      (try rw [← hgs])
      clear hWb hgs
      replace HGC := Lib.hid (HGC.out.below HBL.out HGC.out.lt)
      replace HXC := Lib.hid (HXC.out.below HBL.out HXC.out.lt)
      replace HRW := Lib.hid (own_below HRW.out HBL.out)
      replace HKC := Lib.hid (HKC.out.trans (KpI.of HBL.out))
      replace HMC := Lib.hid (HMC.out.heap (HBL.out.block _ HMC.out.lt))
      refine wpAnyH_ready (rs := [7]) (by kernel_rfl) (by simp) ?_
      refine AllReadyH.cons rfl (fun K hK => ?_) AllReadyH.nil
      refine step_append_src (by rfl) _ _ _ (by rfl) n0 78 i0 (.agg #[.slice none 0 0, .slice none 0 0, .int .i64 0, .int .i64 0, .bool false]) 5 72 Try.underlying56 hi0 hz0 hz1 hz2 (by rfl) (by decide) _ ln (ys.flatMap rvC) (by rfl) HRW.out (some ⟨gs, 0, none⟩) 1 1 [.slice A1 sx.mem.length c1, .slice A2 sx.ths.length c2, .int .i64 (fr : Int), .int .i64 (kt : Int), .bool kd] (by rfl) (by rfl) (fun c => (by cases c)) (lit_at HNB.out) (by simp [Value.oneCell']) (by unfold maxLen; omega) (by omega) (Nat.le_trans HN0.out (Nat.le_trans HI3.out.size (HKC.out.size))) (fun v5 W5 hown hg => ?_)
      obtain ⟨A5, c5, rfl⟩ := own_slice hown
      have HK5 := Lib.hid (HKC.out.trans (KpI.app HRW.out (Nat.le_refl _) (by decide) hg))
      have HM5 := Lib.hid (HMC.out.heap (hg.block _ HMC.out.lt (fun e => by rcases HRW.out.2 with ⟨h, _⟩ | ⟨g1, c1, cur1, h, _, hh1, _⟩; (rw [h] at e; cases e); (rw [h] at e; injection e with e; subst e; exact HMC.out.cells _ _ _ hh1))))
      have HG5 := Lib.hid (HGC.out.grown (by decide) HRW.out hg)
      have HO5 := Lib.hid hown
      clear hown hg
      refine hK.out _ _ trivial (fun hHeld => ?_)
      replace HGC := HG5
      clear HG5
      clear hK K
      (try simp only [Act.put, pt8])
      refine wpAnyH_take (i := 8) (v := ?_) rfl (by kernel_rfl) (by kernel_rfl) (by kernel_rfl) (fun _ _ _ h => h) (Or.inl ⟨by rfl, ?_⟩) (by assumption) ?_
      rotate_left
      · intro w hSw; (try dsimp only at hSw); go_simp; (try with_reducible rfl)
      (try simp only [Act.put, pt8])
      refine wpAnyH_take (i := 9) (v := ?_) rfl (by kernel_rfl) (by kernel_rfl) (by kernel_rfl) (fun _ _ _ h => h) (Or.inl ⟨by rfl, ?_⟩) (by assumption) ?_
      rotate_left
      · intro w hSw; (try dsimp only at hSw); go_simp; (try with_reducible rfl)
      (try simp only [Act.put, pt8])
      refine wpAnyH_ready (rs := [10]) (by kernel_rfl) (by simp) ?_
      refine AllReadyH.cons rfl (fun K hK => ?_) AllReadyH.nil
      have g2 := HGC.out.cell 3 (.slice AR ln cr) rfl
      have f2 := HGC.out.frozen 3
      go_simp
      refine hK.out _ _ trivial (fun hHeld => ?_)
      clear hK K
      (try simp only [Act.put, pt8])
      clear g2 f2
      refine wpAnyH_done (by kernel_rfl) ?_ _
      clear hHeld
      have HFI := Lib.hid (show MtRet n0 g mb wk pi pt ys ⟨⟨sx, fr, (kt, kd)⟩, .slice A1 sx.mem.length c1, .slice A2 sx.ths.length c2⟩ w (.returned (.tuple #[])) (W5.setCell ⟨g, 3, none⟩ (.slice A5 (ln + 1) c5)) from ⟨rfl, .slice A5 (ln + 1) c5, by
        have hks := KpI.set (i := 3) HGC.out H0.out.low.1 (by decide) (.slice A5 (ln + 1) c5)
        rw [if_neg HNOT.out]
        refine ⟨HGC.out.set 3 _, ?_, fun y hy => ?_, ?_, H0.out.low⟩
        · rw [List.length_append, List.flatMap_append, ← HLN.out]; exact own_box HO5.out HGC.out (by decide) 3 _
        · have hy0 : RvOk n0 W2 y := by
            rcases List.mem_append.1 hy with hy | hy
            · exact H2.out.st y hy
            · rw [List.mem_singleton.1 hy]; exact HX0.out.kpi (KpI.of HB2.out)
          exact ((hy0.kpi HIX.out).kpi HK5.out).kpi hks
        · rw [List.length_append]; exact ((HM5.out.heap (heap_setCell_other _ ⟨g, 3, none⟩ mb _ (fun e => HM5.out.cells _ _ _ (show W5.heap[mb]? = _ from by have e' : mb = g := e; rw [e']; exact HGC.out)))).mono (Nat.le_refl _) HSN.out), (HI3.out.trans HK5.out).trans (KpI.set (i := 3) HGC.out H0.out.low.1 (by decide) _)⟩)
      go_wp2
      refine bodyPost_end (v := .tuple #[]) (by simp [results, Try.results35, go_sem]) rfl ?_
      exact HFI.out
    · -- 5 first
      have x0 := HXC.out.cell 0 _ rfl
      have x1 := HXC.out.cell 1 _ rfl
      have x2 := HXC.out.cell 2 _ rfl
      have x3 := HXC.out.cell 3 _ rfl
      have x4 := HXC.out.cell 4 _ rfl
      go_simp
      refine hK.out _ _ trivial (fun hHeld => ?_)
      clear hK K
      (try simp only [Act.put, pt8])
      clear x0 x1 x2 x3 x4
      refine wpAnyH_ready (rs := [4, 6]) (by kernel_rfl) (by simp) ?_
      refine AllReadyH.cons rfl (fun K hK => ?_) (AllReadyH.cons rfl (fun K hK => ?_) (AllReadyH.nil))
      · -- 4 first
        have g2 := HGC.out.cell 3 (.slice AR ln cr) rfl
        go_simp
        refine hK.out _ _ trivial (fun hHeld => ?_)
        clear hK K
        (try simp only [Act.put, pt8])
        clear g2
        refine wpAnyH_ready (rs := [6]) (by kernel_rfl) (by simp) ?_
        refine AllReadyH.cons rfl (fun K hK => ?_) AllReadyH.nil
        go_simp
        refine hK.out _ _ trivial (fun hHeld => ?_)
        clear hK K
        (try simp only [Act.put, pt8])
        obtain ⟨Wb, hWb⟩ : ∃ W, W = Xs.alloc (.cells #[.slice A1 sx.mem.length c1, .slice A2 sx.ths.length c2, .int .i64 (fr : Int), .int .i64 (kt : Int), .bool kd] 78) := ⟨_, rfl⟩
        obtain ⟨gs, hgs⟩ : ∃ y, y = Xs.heap.size := ⟨_, rfl⟩
        have HNB := Lib.hid (show BoxC Wb gs 78 #[.slice A1 sx.mem.length c1, .slice A2 sx.ths.length c2, .int .i64 (fr : Int), .int .i64 (kt : Int), .bool kd] from by rw [hWb, hgs]; exact BoxC.new Xs _ _)
        have HBL := Lib.hid (show Below Xs.heap.size Xs Wb from by rw [hWb]; exact below_al (Below.refl _ _) _)
        rw [← hWb]
        (try rw [← hgs])
        clear hWb hgs
        replace HGC := Lib.hid (HGC.out.below HBL.out HGC.out.lt)
        replace HXC := Lib.hid (HXC.out.below HBL.out HXC.out.lt)
        replace HRW := Lib.hid (own_below HRW.out HBL.out)
        replace HKC := Lib.hid (HKC.out.trans (KpI.of HBL.out))
        replace HMC := Lib.hid (HMC.out.heap (HBL.out.block _ HMC.out.lt))
        refine wpAnyH_ready (rs := [7]) (by kernel_rfl) (by simp) ?_
        refine AllReadyH.cons rfl (fun K hK => ?_) AllReadyH.nil
        refine step_append_src (by rfl) _ _ _ (by rfl) n0 78 i0 (.agg #[.slice none 0 0, .slice none 0 0, .int .i64 0, .int .i64 0, .bool false]) 5 72 Try.underlying56 hi0 hz0 hz1 hz2 (by rfl) (by decide) _ ln (ys.flatMap rvC) (by rfl) HRW.out (some ⟨gs, 0, none⟩) 1 1 [.slice A1 sx.mem.length c1, .slice A2 sx.ths.length c2, .int .i64 (fr : Int), .int .i64 (kt : Int), .bool kd] (by rfl) (by rfl) (fun c => (by cases c)) (lit_at HNB.out) (by simp [Value.oneCell']) (by unfold maxLen; omega) (by omega) (Nat.le_trans HN0.out (Nat.le_trans HI3.out.size (HKC.out.size))) (fun v5 W5 hown hg => ?_)
        obtain ⟨A5, c5, rfl⟩ := own_slice hown
        have HK5 := Lib.hid (HKC.out.trans (KpI.app HRW.out (Nat.le_refl _) (by decide) hg))
        have HM5 := Lib.hid (HMC.out.heap (hg.block _ HMC.out.lt (fun e => by rcases HRW.out.2 with ⟨h, _⟩ | ⟨g1, c1, cur1, h, _, hh1, _⟩; (rw [h] at e; cases e); (rw [h] at e; injection e with e; subst e; exact HMC.out.cells _ _ _ hh1))))
        have HG5 := Lib.hid (HGC.out.grown (by decide) HRW.out hg)
        have HO5 := Lib.hid hown
        clear hown hg
        refine hK.out _ _ trivial (fun hHeld => ?_)
        replace HGC := HG5
        clear HG5
        clear hK K
        (try simp only [Act.put, pt8])
        refine wpAnyH_take (i := 8) (v := ?_) rfl (by kernel_rfl) (by kernel_rfl) (by kernel_rfl) (fun _ _ _ h => h) (Or.inl ⟨by rfl, ?_⟩) (by assumption) ?_
        rotate_left
        · intro w hSw; (try dsimp only at hSw); go_simp; (try with_reducible rfl)
        (try simp only [Act.put, pt8])
        refine wpAnyH_take (i := 9) (v := ?_) rfl (by kernel_rfl) (by kernel_rfl) (by kernel_rfl) (fun _ _ _ h => h) (Or.inl ⟨by rfl, ?_⟩) (by assumption) ?_
        rotate_left
        · intro w hSw; (try dsimp only at hSw); go_simp; (try with_reducible rfl)
        (try simp only [Act.put, pt8])
        refine wpAnyH_ready (rs := [10]) (by kernel_rfl) (by simp) ?_
        refine AllReadyH.cons rfl (fun K hK => ?_) AllReadyH.nil
        have g2 := HGC.out.cell 3 (.slice AR ln cr) rfl
        have f2 := HGC.out.frozen 3
        go_simp
        refine hK.out _ _ trivial (fun hHeld => ?_)
        clear hK K
        (try simp only [Act.put, pt8])
        clear g2 f2
        refine wpAnyH_done (by kernel_rfl) ?_ _
        clear hHeld
        have HFI := Lib.hid (show MtRet n0 g mb wk pi pt ys ⟨⟨sx, fr, (kt, kd)⟩, .slice A1 sx.mem.length c1, .slice A2 sx.ths.length c2⟩ w (.returned (.tuple #[])) (W5.setCell ⟨g, 3, none⟩ (.slice A5 (ln + 1) c5)) from ⟨rfl, .slice A5 (ln + 1) c5, by
          have hks := KpI.set (i := 3) HGC.out H0.out.low.1 (by decide) (.slice A5 (ln + 1) c5)
          rw [if_neg HNOT.out]
          refine ⟨HGC.out.set 3 _, ?_, fun y hy => ?_, ?_, H0.out.low⟩
          · rw [List.length_append, List.flatMap_append, ← HLN.out]; exact own_box HO5.out HGC.out (by decide) 3 _
          · have hy0 : RvOk n0 W2 y := by
              rcases List.mem_append.1 hy with hy | hy
              · exact H2.out.st y hy
              · rw [List.mem_singleton.1 hy]; exact HX0.out.kpi (KpI.of HB2.out)
            exact ((hy0.kpi HIX.out).kpi HK5.out).kpi hks
          · rw [List.length_append]; exact ((HM5.out.heap (heap_setCell_other _ ⟨g, 3, none⟩ mb _ (fun e => HM5.out.cells _ _ _ (show W5.heap[mb]? = _ from by have e' : mb = g := e; rw [e']; exact HGC.out)))).mono (Nat.le_refl _) HSN.out), (HI3.out.trans HK5.out).trans (KpI.set (i := 3) HGC.out H0.out.low.1 (by decide) _)⟩)
        go_wp2
        refine bodyPost_end (v := .tuple #[]) (by simp [results, Try.results35, go_sem]) rfl ?_
        exact HFI.out
      · -- 6 first
        go_simp
        refine hK.out _ _ trivial (fun hHeld => ?_)
        clear hK K
        (try simp only [Act.put, pt8])
        obtain ⟨Wb, hWb⟩ : ∃ W, W = Xs.alloc (.cells #[.slice A1 sx.mem.length c1, .slice A2 sx.ths.length c2, .int .i64 (fr : Int), .int .i64 (kt : Int), .bool kd] 78) := ⟨_, rfl⟩
        obtain ⟨gs, hgs⟩ : ∃ y, y = Xs.heap.size := ⟨_, rfl⟩
        have HNB := Lib.hid (show BoxC Wb gs 78 #[.slice A1 sx.mem.length c1, .slice A2 sx.ths.length c2, .int .i64 (fr : Int), .int .i64 (kt : Int), .bool kd] from by rw [hWb, hgs]; exact BoxC.new Xs _ _)
        have HBL := Lib.hid (show Below Xs.heap.size Xs Wb from by rw [hWb]; exact below_al (Below.refl _ _) _)
        rw [← hWb]
        (try rw [← hgs])
        clear hWb hgs
        replace HGC := Lib.hid (HGC.out.below HBL.out HGC.out.lt)
        replace HXC := Lib.hid (HXC.out.below HBL.out HXC.out.lt)
        replace HRW := Lib.hid (own_below HRW.out HBL.out)
        replace HKC := Lib.hid (HKC.out.trans (KpI.of HBL.out))
        replace HMC := Lib.hid (HMC.out.heap (HBL.out.block _ HMC.out.lt))
        refine wpAnyH_ready (rs := [4]) (by kernel_rfl) (by simp) ?_
        refine AllReadyH.cons rfl (fun K hK => ?_) AllReadyH.nil
        have g2 := HGC.out.cell 3 (.slice AR ln cr) rfl
        go_simp
        refine hK.out _ _ trivial (fun hHeld => ?_)
        clear hK K
        (try simp only [Act.put, pt8])
        clear g2
        refine wpAnyH_ready (rs := [7]) (by kernel_rfl) (by simp) ?_
        refine AllReadyH.cons rfl (fun K hK => ?_) AllReadyH.nil
        refine step_append_src (by rfl) _ _ _ (by rfl) n0 78 i0 (.agg #[.slice none 0 0, .slice none 0 0, .int .i64 0, .int .i64 0, .bool false]) 5 72 Try.underlying56 hi0 hz0 hz1 hz2 (by rfl) (by decide) _ ln (ys.flatMap rvC) (by rfl) HRW.out (some ⟨gs, 0, none⟩) 1 1 [.slice A1 sx.mem.length c1, .slice A2 sx.ths.length c2, .int .i64 (fr : Int), .int .i64 (kt : Int), .bool kd] (by rfl) (by rfl) (fun c => (by cases c)) (lit_at HNB.out) (by simp [Value.oneCell']) (by unfold maxLen; omega) (by omega) (Nat.le_trans HN0.out (Nat.le_trans HI3.out.size (HKC.out.size))) (fun v5 W5 hown hg => ?_)
        obtain ⟨A5, c5, rfl⟩ := own_slice hown
        have HK5 := Lib.hid (HKC.out.trans (KpI.app HRW.out (Nat.le_refl _) (by decide) hg))
        have HM5 := Lib.hid (HMC.out.heap (hg.block _ HMC.out.lt (fun e => by rcases HRW.out.2 with ⟨h, _⟩ | ⟨g1, c1, cur1, h, _, hh1, _⟩; (rw [h] at e; cases e); (rw [h] at e; injection e with e; subst e; exact HMC.out.cells _ _ _ hh1))))
        have HG5 := Lib.hid (HGC.out.grown (by decide) HRW.out hg)
        have HO5 := Lib.hid hown
        clear hown hg
        refine hK.out _ _ trivial (fun hHeld => ?_)
        replace HGC := HG5
        clear HG5
        clear hK K
        (try simp only [Act.put, pt8])
        refine wpAnyH_take (i := 8) (v := ?_) rfl (by kernel_rfl) (by kernel_rfl) (by kernel_rfl) (fun _ _ _ h => h) (Or.inl ⟨by rfl, ?_⟩) (by assumption) ?_
        rotate_left
        · intro w hSw; (try dsimp only at hSw); go_simp; (try with_reducible rfl)
        (try simp only [Act.put, pt8])
        refine wpAnyH_take (i := 9) (v := ?_) rfl (by kernel_rfl) (by kernel_rfl) (by kernel_rfl) (fun _ _ _ h => h) (Or.inl ⟨by rfl, ?_⟩) (by assumption) ?_
        rotate_left
        · intro w hSw; (try dsimp only at hSw); go_simp; (try with_reducible rfl)
        (try simp only [Act.put, pt8])
        refine wpAnyH_ready (rs := [10]) (by kernel_rfl) (by simp) ?_
        refine AllReadyH.cons rfl (fun K hK => ?_) AllReadyH.nil
        have g2 := HGC.out.cell 3 (.slice AR ln cr) rfl
        have f2 := HGC.out.frozen 3
        go_simp
        refine hK.out _ _ trivial (fun hHeld => ?_)
        clear hK K
        (try simp only [Act.put, pt8])
        clear g2 f2
        refine wpAnyH_done (by kernel_rfl) ?_ _
        clear hHeld
        have HFI := Lib.hid (show MtRet n0 g mb wk pi pt ys ⟨⟨sx, fr, (kt, kd)⟩, .slice A1 sx.mem.length c1, .slice A2 sx.ths.length c2⟩ w (.returned (.tuple #[])) (W5.setCell ⟨g, 3, none⟩ (.slice A5 (ln + 1) c5)) from ⟨rfl, .slice A5 (ln + 1) c5, by
          have hks := KpI.set (i := 3) HGC.out H0.out.low.1 (by decide) (.slice A5 (ln + 1) c5)
          rw [if_neg HNOT.out]
          refine ⟨HGC.out.set 3 _, ?_, fun y hy => ?_, ?_, H0.out.low⟩
          · rw [List.length_append, List.flatMap_append, ← HLN.out]; exact own_box HO5.out HGC.out (by decide) 3 _
          · have hy0 : RvOk n0 W2 y := by
              rcases List.mem_append.1 hy with hy | hy
              · exact H2.out.st y hy
              · rw [List.mem_singleton.1 hy]; exact HX0.out.kpi (KpI.of HB2.out)
            exact ((hy0.kpi HIX.out).kpi HK5.out).kpi hks
          · rw [List.length_append]; exact ((HM5.out.heap (heap_setCell_other _ ⟨g, 3, none⟩ mb _ (fun e => HM5.out.cells _ _ _ (show W5.heap[mb]? = _ from by have e' : mb = g := e; rw [e']; exact HGC.out)))).mono (Nat.le_refl _) HSN.out), (HI3.out.trans HK5.out).trans (KpI.set (i := 3) HGC.out H0.out.low.1 (by decide) _)⟩)
        go_wp2
        refine bodyPost_end (v := .tuple #[]) (by simp [results, Try.results35, go_sem]) rfl ?_
        exact HFI.out
  · have hin := of_decide_eq_true HBB.out.symm
    have HIN := Lib.hid hin
    clear hin
    go_wp2_with (first | (at_lookup; refine at_mapK _ rfl _ _ rfl mb _ _ rfl H2.out.map ky rfl HKL.out ?_; rw [HKE.out]))
    refine bodyPost_end (v := .tuple #[]) (by simp [results, Try.results35, go_sem]) rfl ?_
    exact ⟨rfl, _, by rw [if_pos HIN.out]; exact H2.out, KpI.of HB2.out⟩
end Go.Proofs.Ytbffjhdocicfoaa
namespace Go.Proofs.Ytbffjhdocicfoaa
open Go.RowKit
set_option linter.unusedVariables false
set_option linter.unusedSimpArgs false
open CodM (St Pg rightP)
open BfM (Wr plc)
open ScM

set_option maxHeartbeats 4000000 in
set_option maxRecDepth 100000 in
theorem tthread_any {B : Nat} {v : Value} {P : Pg} (t : Int) (w : World) (hv : PgV B w v P) (hBB : B ≤ w.heap.size) :
    Calls Try.prog 83 #[v, .int .i64 t] w fun e w' => e = .returned (.bool (decide (0 ≤ t ∧ t < (P.ths.length : Int)))) ∧ Below w.heap.size w w' := by
  obtain ⟨pi, pt, rfl, ⟨P0, d0, rfl, -⟩, ⟨P1, d1, rfl, l1, l2, -⟩⟩ := hv
  unfold maxLen at l2
  have hB := below_al (Below.refl w.heap.size w) (.cells #[.slice P0 P.init.length d0, .slice P1 P.ths.length d1] 25)
  have HP := Lib.hid (PgBox.at (w := w) rfl (.slice P0 P.init.length d0) (.slice P1 P.ths.length d1) 25)
  obtain ⟨x0, x1⟩ := HP.out
  by_cases h0 : 0 ≤ t
  · by_cases h1 : t < (P.ths.length : Int)
    · rw [decide_eq_true (show 0 ≤ t ∧ t < (P.ths.length : Int) from ⟨h0, h1⟩)]
      go_enter Try.func83, Try.ntmps83
      go_wp2
      go_ret
      exact ⟨rfl, hB⟩
    · rw [decide_eq_false (show ¬ (0 ≤ t ∧ t < (P.ths.length : Int)) from fun h => h1 h.2)]
      go_enter Try.func83, Try.ntmps83
      go_wp2
      go_ret
      exact ⟨rfl, hB⟩
  · rw [decide_eq_false (show ¬ (0 ≤ t ∧ t < (P.ths.length : Int)) from fun h => h0 h.1)]
    go_enter Try.func83, Try.ntmps83
    go_wp2
    go_ret
    exact ⟨rfl, hB⟩
/-- A step that waits. -/
def wts (x : St) : Bool := decide (x.op = 6) || decide (x.op = 5)
set_option maxHeartbeats 4000000 in
set_option maxRecDepth 100000 in
theorem twaits_any (x : St) (w : World) :
    Calls Try.prog 84 #[.agg #[.int .i64 x.op, .int .i64 x.reg, .int .i64 x.loc, .int .i64 x.n, .int .i64 x.to]] w fun e w' => e = .returned (.bool (wts x)) ∧ Below w.heap.size w w' := by
  obtain ⟨o, r, l, n, t⟩ := x
  have hB := below_al (Below.refl w.heap.size w) (.cells #[.int .i64 o, .int .i64 r, .int .i64 l, .int .i64 n, .int .i64 t] 70)
  have x0 : (w.alloc (.cells #[.int .i64 o, .int .i64 r, .int .i64 l, .int .i64 n, .int .i64 t] 70)).cell? ⟨w.heap.size, 0, none⟩ = some (.int .i64 o) := by rw [World.cell?_alloc_at _ _ _ _ rfl]; rfl
  unfold wts
  dsimp only
  by_cases h6 : o = 6
  · subst h6
    go_enter Try.func84, Try.ntmps84
    go_wp2
    go_ret
    exact ⟨rfl, hB⟩
  by_cases h5 : o = 5
  · subst h5
    go_enter Try.func84, Try.ntmps84
    go_wp2
    go_ret
    exact ⟨rfl, hB⟩
  have b6 : (o == 6) = false := beq_eq_false_iff_ne.2 h6
  have b5 : (o == 5) = false := beq_eq_false_iff_ne.2 h5
  rw [decide_eq_false h6, decide_eq_false h5]
  go_enter Try.func84, Try.ntmps84
  go_wp2
  go_ret
  refine ⟨?_, hB⟩
  simp [b6, b5]
set_option maxHeartbeats 8000000 in
set_option maxRecDepth 100000 in
theorem tcan_any {B : Nat} {v u : Value} {P : Pg} {s : Sta} (t : Int) (d : Bool) (w : World) (hv : PgV B w v P) (hu : StaV B w u s) (hBB : B ≤ w.heap.size) (ho : OkSt P s) :
    Calls Try.prog 63 #[v, u, .agg #[.int .i64 t, .bool d]] w fun e w' => e = .returned (.bool (tst P s t d).isSome) ∧ Below w.heap.size w w' := by
  have HTH := Lib.hid (fun W (hW : Below w.heap.size w W) => tthread_any t W ((hv.below (hW.mono hBB)).more (Nat.le_trans hBB hW.size)) (Nat.le_refl _))
  obtain ⟨pi, pt, rfl, hpm⟩ := hv
  obtain ⟨um, ut, rfl, hum⟩ := hu
  obtain ⟨⟨P0, d0, rfl, -⟩, ⟨P1, d1, rfl, l1, l2, l3⟩⟩ := hpm
  obtain ⟨⟨A7, c7, rfl, -⟩, ⟨A1, c1, rfl, m1, m2, -, m3⟩⟩ := hum
  unfold maxLen at l2 m2
  have HL3 := Lib.hid l3
  have HM3 := Lib.hid m3
  have HO := Lib.hid ho
  have HTL := Lib.hid ho.ths
  clear l3 m3 ho
  obtain ⟨W3, hW3⟩ : ∃ W, W = ((w.alloc (.cells #[.slice P0 P.init.length d0, .slice P1 P.ths.length d1] 25)).alloc (.cells #[.slice A7 s.mem.length c7, .slice A1 s.ths.length c1] 62)).alloc (.cells #[.int .i64 t, .bool d] 76) := ⟨_, rfl⟩
  obtain ⟨gp, hgp⟩ : ∃ g, g = w.heap.size := ⟨_, rfl⟩
  obtain ⟨gs, hgs⟩ : ∃ g, g = w.heap.size + 1 := ⟨_, rfl⟩
  obtain ⟨gk, hgk⟩ : ∃ g, g = w.heap.size + 1 + 1 := ⟨_, rfl⟩
  have HX := Lib.hid (show BoxC W3 gp 25 #[.slice P0 P.init.length d0, .slice P1 P.ths.length d1] from by rw [hW3, hgp]; exact ((BoxC.new w _ _).alloc _).alloc _)
  have HY := Lib.hid (show BoxC W3 gs 62 #[.slice A7 s.mem.length c7, .slice A1 s.ths.length c1] from by rw [hW3, hgs]; have := (BoxC.new (w.alloc (.cells #[.slice P0 P.init.length d0, .slice P1 P.ths.length d1] 25)) 62 #[.slice A7 s.mem.length c7, .slice A1 s.ths.length c1]).alloc (.cells #[.int .i64 t, .bool d] 76); rw [World.size_alloc] at this; exact this)
  have HK := Lib.hid (show BoxC W3 gk 76 #[.int .i64 t, .bool d] from by rw [hW3, hgk]; have := BoxC.new ((w.alloc (.cells #[.slice P0 P.init.length d0, .slice P1 P.ths.length d1] 25)).alloc (.cells #[.slice A7 s.mem.length c7, .slice A1 s.ths.length c1] 62)) 76 #[.int .i64 t, .bool d]; rw [World.size_alloc, World.size_alloc] at this; exact this)
  have HB3 := Lib.hid (show Below w.heap.size w W3 from by rw [hW3]; exact below_al (below_al (below_al (Below.refl _ _) _) _) _)
  have x0 := HX.out.cell 0 _ rfl
  have x1 := HX.out.cell 1 _ rfl
  have k0 := HK.out.cell 0 _ rfl
  go_enter Try.func63, Try.ntmps63
  go_upto_region 1 with fail
  rw [← hW3]
  (try rw [← hgk])
  (try rw [← hgs])
  (try rw [← hgp])
  clear hW3 hgk hgs hgp
  go_wp2_with fail
  refine (HTH.out _ HB3.out).mono ?_
  rintro e w1 ⟨rfl, hb1⟩
  have HB1 := Lib.hid hb1
  have HBF := Lib.hid (chain HB3.out hb1)
  clear x0 x1 k0 HTH hb1
  by_cases hr : 0 ≤ t ∧ t < (P.ths.length : Int)
  case neg =>
    have HTO := Lib.hid (show tst P s t d = none from tst_out (by rw [HTL.out]; exact hr))
    rw [decide_eq_false hr]
    clear hr
    go_wp2
    go_ret
    exact ⟨by rw [HTO.out]; rfl, HBF.out⟩
  rw [decide_eq_true hr]
  obtain ⟨hr1, hr2⟩ := hr
  obtain ⟨k, rfl⟩ : ∃ k : Nat, t = k := ⟨t.toNat, by omega⟩
  have hkt : k < P.ths.length := by omega
  have hks : k < s.ths.length := by rw [HTL.out]; exact hkt
  have HTD := Lib.hid (tst_drain HO.out hks)
  have HTS := Lib.hid (fun h3 => tst_step (P := P) (s := s) hks hkt h3)
  have HTE := Lib.hid (atS_iff HO.out hks hkt)
  have HTN := Lib.hid (fun h => tst_end (P := P) (s := s) (t := (k : Int)) h)
  have hlo := (HO.out.th k hks hkt).lo
  obtain ⟨b1, f1, rfl, hb1, hc1⟩ := HM3.out (by omega)
  obtain ⟨vr, vb, a0, a1, a2, a3, hRg, hW⟩ := hc1 k hks
  obtain ⟨b2, f2, rfl, hb2, hc2⟩ := HL3.out (by omega)
  obtain ⟨vs, s0, hS⟩ := hc2 k hkt
  replace a0 := ((HBF.out.mono hBB).cell (p := ⟨b1, f1 + k * 4, none⟩) hb1).trans a0
  replace a1 := ((HBF.out.mono hBB).cell (p := ⟨b1, f1 + k * 4 + 1, none⟩) hb1).trans a1
  replace a2 := ((HBF.out.mono hBB).cell (p := ⟨b1, f1 + k * 4 + 2, none⟩) hb1).trans a2
  replace a3 := ((HBF.out.mono hBB).cell (p := ⟨b1, f1 + k * 4 + 3, none⟩) hb1).trans a3
  replace s0 := ((HBF.out.mono hBB).cell (p := ⟨b2, f2 + k, none⟩) hb2).trans s0
  replace hS := hS.below (HBF.out.mono hBB)
  generalize hth : s.ths[k] = h at *
  generalize hss : P.ths[k] = ss at *
  obtain ⟨xa, xr, xe, xb⟩ := h
  dsimp only at *
  obtain ⟨Ab, cb, rfl, q1, q2, -⟩ := hW
  obtain ⟨Ar, cr, rfl, -⟩ := hRg
  obtain ⟨As, cs, rfl, r1, r2, hS3⟩ := hS
  unfold maxLen at q2 r2
  have x0 := (HX.out.below HB1.out HX.out.lt).cell 0 _ rfl
  have x1 := (HX.out.below HB1.out HX.out.lt).cell 1 _ rfl
  have y0 := (HY.out.below HB1.out HY.out.lt).cell 0 _ rfl
  have y1 := (HY.out.below HB1.out HY.out.lt).cell 1 _ rfl
  have k0 := (HK.out.below HB1.out HK.out.lt).cell 0 _ rfl
  have k1 := (HK.out.below HB1.out HK.out.lt).cell 1 _ rfl
  clear hc1 hc2
  go_upto_region 3 with fail
  refine wp_region_held_drew (S := (fun w' => (w'.cell? ⟨gs, 1, none⟩ = some (.slice (some ⟨b1, f1, none⟩) s.ths.length c1) ∧ w'.cell? ⟨gp, 1, none⟩ = some (.slice (some ⟨b2, f2, none⟩) P.ths.length d1) ∧ w'.cell? ⟨gk, 0, none⟩ = some (.int .i64 (k : Int)) ∧ w'.cell? ⟨b1, f1 + k * 4, none⟩ = some (.int .i64 xa) ∧ w'.cell? ⟨b1, f1 + k * 4 + 1, none⟩ = some (.slice Ar xr.length cr) ∧ w'.cell? ⟨b1, f1 + k * 4 + 2, none⟩ = some (.bool xe) ∧ w'.cell? ⟨b1, f1 + k * 4 + 3, none⟩ = some (.slice Ab xb.length cb) ∧ w'.cell? ⟨b2, f2 + k, none⟩ = some (.slice As ss.length cs)) ∧ Below w1.heap.size w1 w')) (by kernel_rfl) ⟨⟨y1, x1, k0, a0, a1, a2, a3, s0⟩, below_drewN (Below.refl _ _) 1⟩ (fun hHeld => ?_)
  obtain ⟨Xs, hXs⟩ : ∃ W, W = w1.drew := ⟨_, rfl⟩
  have HXs := Lib.hid (show Below w1.heap.size w1 Xs from by rw [hXs]; exact below_drewN (Below.refl _ _) 1)
  rw [← hXs] at hHeld ⊢
  clear hXs
  refine wpAnyH_take (i := 0) (v := ?_) rfl (by kernel_rfl) (by kernel_rfl) (by kernel_rfl) (fun _ _ _ h => h) (Or.inl ⟨by rfl, ?_⟩) (by assumption) ?_
  rotate_left
  · intro w hSw; (try dsimp only at hSw); go_simp; (try with_reducible rfl)
  (try simp only [Act.put, pt8])
  refine wpAnyH_take (i := 1) (v := ?_) rfl (by kernel_rfl) (by kernel_rfl) (by kernel_rfl) (fun _ _ _ h => h) (Or.inl ⟨by rfl, ?_⟩) (by assumption) ?_
  rotate_left
  · intro w hSw; (try dsimp only at hSw); go_simp; (try with_reducible rfl)
  (try simp only [Act.put, pt8])
  refine wpAnyH_take (i := 2) (v := ?_) rfl (by kernel_rfl) (by kernel_rfl) (by kernel_rfl) (fun _ _ _ h => h) (Or.inl ⟨by rfl, ?_⟩) (by assumption) ?_
  rotate_left
  · intro w hSw; (try dsimp only at hSw); go_simp; (try with_reducible rfl)
  (try simp only [Act.put, pt8])
  refine wpAnyH_take (i := 3) (v := ?_) rfl (by kernel_rfl) (by kernel_rfl) (by kernel_rfl) (fun _ _ _ h => h) (Or.inl ⟨by rfl, ?_⟩) (by assumption) ?_
  rotate_left
  · intro w hSw; (try dsimp only at hSw); go_simp; (try with_reducible rfl)
  (try simp only [Act.put, pt8])
  refine wpAnyH_take (i := 4) (v := ?_) rfl (by kernel_rfl) (by kernel_rfl) (by kernel_rfl) (fun _ _ _ h => h) (Or.inl ⟨by rfl, ?_⟩) (by assumption) ?_
  rotate_left
  · intro w hSw; (try dsimp only at hSw); go_simp; (try with_reducible rfl)
  (try simp only [Act.put, pt8])
  refine wpAnyH_take (i := 5) (v := ?_) rfl (by kernel_rfl) (by kernel_rfl) (by kernel_rfl) (fun _ _ _ h => h) (Or.inl ⟨by rfl, ?_⟩) (by assumption) ?_
  rotate_left
  · intro w hSw; (try dsimp only at hSw); go_simp; (try with_reducible rfl)
  (try simp only [Act.put, pt8])
  refine wpAnyH_take (i := 6) (v := ?_) rfl (by kernel_rfl) (by kernel_rfl) (by kernel_rfl) (fun _ _ _ h => h) (Or.inl ⟨by rfl, ?_⟩) (by assumption) ?_
  rotate_left
  · intro w hSw; (try dsimp only at hSw); go_simp; (try with_reducible rfl)
  (try simp only [Act.put, pt8])
  refine wpAnyH_take (i := 7) (v := ?_) rfl (by kernel_rfl) (by kernel_rfl) (by kernel_rfl) (fun _ _ _ h => h) (Or.inl ⟨by rfl, ?_⟩) (by assumption) ?_
  rotate_left
  · intro w hSw; (try dsimp only at hSw); go_simp; (try with_reducible rfl)
  (try simp only [Act.put, pt8])
  refine wpAnyH_take (i := 8) (v := ?_) rfl (by kernel_rfl) (by kernel_rfl) (by kernel_rfl) (fun _ _ _ h => h) (Or.inl ⟨by rfl, ?_⟩) (by assumption) ?_
  rotate_left
  · intro w hSw; (try dsimp only at hSw); go_simp; (try with_reducible rfl)
  (try simp only [Act.put, pt8])
  refine wpAnyH_take (i := 9) (v := ?_) rfl (by kernel_rfl) (by kernel_rfl) (by kernel_rfl) (fun _ _ _ h => h) (Or.inl ⟨by rfl, ?_⟩) (by assumption) ?_
  rotate_left
  · intro w hSw; (try dsimp only at hSw); go_simp; (try with_reducible rfl)
  (try simp only [Act.put, pt8])
  refine wpAnyH_take (i := 10) (v := ?_) rfl (by kernel_rfl) (by kernel_rfl) (by kernel_rfl) (fun _ _ _ h => h) (Or.inl ⟨by rfl, ?_⟩) (by assumption) ?_
  rotate_left
  · intro w hSw; (try dsimp only at hSw); go_simp; (try with_reducible rfl)
  (try simp only [Act.put, pt8])
  refine wpAnyH_take (i := 11) (v := ?_) rfl (by kernel_rfl) (by kernel_rfl) (by kernel_rfl) (fun _ _ _ h => h) (Or.inl ⟨by rfl, ?_⟩) (by assumption) ?_
  rotate_left
  · intro w hSw; (try dsimp only at hSw); go_simp; (try with_reducible rfl)
  (try simp only [Act.put, pt8])
  refine wpAnyH_ready (rs := [12]) (by kernel_rfl) (by simp) ?_
  refine AllReadyH.cons rfl (fun K hK => ?_) AllReadyH.nil
  have HBA := Lib.hid (below_al hHeld.2 (.cells #[.int .i64 0, .slice none 0 0, .bool false, .slice none 0 0] 94))
  go_simp
  refine hK.out _ _ ⟨⟨kc HBA.out y1, kc HBA.out x1, kc HBA.out k0, kc HBA.out a0, kc HBA.out a1, kc HBA.out a2, kc HBA.out a3, kc HBA.out s0⟩, HBA.out⟩ (fun hHeld => ?_)
  clear hK K
  (try simp only [Act.put, pt8])
  obtain ⟨Xa, hXa⟩ : ∃ W, W = Xs.alloc (.cells #[.int .i64 0, .slice none 0 0, .bool false, .slice none 0 0] 94) := ⟨_, rfl⟩
  obtain ⟨gx, hgx⟩ : ∃ g, g = Xs.heap.size := ⟨_, rfl⟩
  rw [← hXa] at hHeld HBA ⊢
  (try rw [← hgx])
  have HQa := Lib.hid (show BoxC Xa gx 94 #[.int .i64 0, .slice none 0 0, .bool false, .slice none 0 0] from by rw [hXa, hgx]; exact BoxC.new Xs _ _)
  have HGa := Lib.hid (show w1.heap.size ≤ gx from by rw [hgx]; exact HXs.out.size)
  clear hXa hgx
  refine wpAnyH_ready (rs := [13]) (by kernel_rfl) (by simp) ?_
  refine AllReadyH.cons rfl (fun K hK => ?_) AllReadyH.nil
  have e0 := HQa.out.cell 0 _ rfl
  have e1 := HQa.out.cell 1 _ rfl
  have e2 := HQa.out.cell 2 _ rfl
  have e3 := HQa.out.cell 3 _ rfl
  have u0 := HQa.out.frozen 0
  have u1 := HQa.out.frozen 1
  have u2 := HQa.out.frozen 2
  have u3 := HQa.out.frozen 3
  have HQs := Lib.hid (show BoxC ((((Xa.setCell ⟨gx, 0, none⟩ (.int .i64 xa)).setCell ⟨gx, 1, none⟩ (.slice Ar xr.length cr)).setCell ⟨gx, 2, none⟩ (.bool xe)).setCell ⟨gx, 3, none⟩ (.slice Ab xb.length cb)) gx 94 #[.int .i64 xa, .slice Ar xr.length cr, .bool xe, .slice Ab xb.length cb] from (((HQa.out.set 0 _).set 1 _).set 2 _).set 3 _)
  have HBS := Lib.hid (show Below w1.heap.size w1 ((((Xa.setCell ⟨gx, 0, none⟩ (.int .i64 xa)).setCell ⟨gx, 1, none⟩ (.slice Ar xr.length cr)).setCell ⟨gx, 2, none⟩ (.bool xe)).setCell ⟨gx, 3, none⟩ (.slice Ab xb.length cb)) from (((HBA.out.setCell (p := ⟨gx, 0, none⟩) HGa.out _).setCell (p := ⟨gx, 1, none⟩) HGa.out _).setCell (p := ⟨gx, 2, none⟩) HGa.out _).setCell (p := ⟨gx, 3, none⟩) HGa.out _)
  go_simp
  refine hK.out _ _ ⟨⟨kc HBS.out y1, kc HBS.out x1, kc HBS.out k0, kc HBS.out a0, kc HBS.out a1, kc HBS.out a2, kc HBS.out a3, kc HBS.out s0⟩, HBS.out⟩ (fun hHeld => ?_)
  clear hK K
  (try simp only [Act.put, pt8])
  clear e0 e1 e2 e3 u0 u1 u2 u3
  refine wpAnyH_ready (rs := [14]) (by kernel_rfl) (by simp) ?_
  refine AllReadyH.cons rfl (fun K hK => ?_) AllReadyH.nil
  go_simp
  refine hK.out _ _ hHeld (fun hHeld => ?_)
  clear hK K
  (try simp only [Act.put, pt8])
  refine wpAnyH_done (by kernel_rfl) ?_ _
  obtain ⟨X2, hX2⟩ : ∃ W, W = ((((Xa.setCell ⟨gx, 0, none⟩ (.int .i64 xa)).setCell ⟨gx, 1, none⟩ (.slice Ar xr.length cr)).setCell ⟨gx, 2, none⟩ (.bool xe)).setCell ⟨gx, 3, none⟩ (.slice Ab xb.length cb)) := ⟨_, rfl⟩
  rw [← hX2] at HQs HBS hHeld ⊢
  have HBX := Lib.hid (show Below w.heap.size w X2 from chain HBF.out HBS.out)
  have HB12 := Lib.hid HBS.out
  clear hX2 HQa HBA HBS HXs HGa hHeld y0 y1 x0 x1 k0 k1 a0 a1 a2 a3 s0
  have HK2 := Lib.hid (HK.out.below (chain HB1.out HB12.out) HK.out.lt)
  have k1 := HK2.out.cell 1 _ rfl
  have e0 := HQs.out.cell 0 _ rfl
  have e3 := HQs.out.cell 3 _ rfl
  have HRES := Lib.hid (show (tst P s (k : Int) d).isSome = if d then decide (0 < xb.length) else (decide (xa < ss.length) && (decide (xb.length = 0) || !(match ss[xa.toNat]? with | some x => wts x | none => false))) from by
    have hbe : xb.isEmpty = decide (xb.length = 0) := by cases xb <;> simp
    cases d
    · rw [if_neg (by decide)]
      by_cases h3 : xa.toNat < ss.length
      · have h3' : xa < (ss.length : Int) := by omega
        rw [HTS.out h3, decide_eq_true h3', List.getElem?_eq_getElem h3]
        unfold stuck wts
        dsimp only
        rw [hbe]
        by_cases hz : xb.length = 0
        · simp [hz]
        · simp only [hz, decide_false, Bool.not_false, Bool.true_and, Bool.false_or]
          cases (decide ((ss[xa.toNat]).op = 6) || decide ((ss[xa.toNat]).op = 5)) <;> rfl
      · rw [HTN.out (by have := HTE.out; rw [decide_eq_false (by omega)] at this; simpa using this), decide_eq_false (by omega)]; rfl
    · rw [if_pos rfl, HTD.out, hbe]
      by_cases hz : xb.length = 0
      · simp [hz]
      · rw [decide_eq_false hz, decide_eq_true (by omega)]; rfl)
  clear HTS HTD HTN HTE
  cases d
  case true =>
    rw [if_pos rfl] at HRES
    by_cases hz : 0 < xb.length
    · rw [decide_eq_true hz] at HRES
      go_wp2
      go_ret
      exact ⟨by rw [HRES.out]; rfl, HBX.out⟩
    · rw [decide_eq_false hz] at HRES
      go_wp2
      go_ret
      exact ⟨by rw [HRES.out]; rfl, HBX.out⟩
  rw [if_neg (by decide)] at HRES
  by_cases h3 : xa < (ss.length : Int)
  case neg =>
    rw [decide_eq_false h3] at HRES
    go_wp2
    go_ret
    exact ⟨by rw [HRES.out]; rfl, HBX.out⟩
  rw [decide_eq_true h3] at HRES
  by_cases hz : xb.length = 0
  · rw [decide_eq_true hz] at HRES
    go_wp2
    go_ret
    exact ⟨by rw [HRES.out]; rfl, HBX.out⟩
  rw [decide_eq_false hz] at HRES
  obtain ⟨n, rfl⟩ : ∃ n : Nat, xa = n := ⟨xa.toNat, by omega⟩
  have hn : n < ss.length := by omega
  rw [Int.toNat_natCast, List.getElem?_eq_getElem hn] at HRES
  obtain ⟨b5, f5, rfl, hb5, hst⟩ := hS3 (by omega)
  obtain ⟨s0, s1, s2, s3, s4⟩ := hst n hn
  have hlt5 : b5 < w1.heap.size := Nat.lt_of_lt_of_le hb5 (Nat.le_trans hBB HBF.out.size)
  replace s0 := (HB12.out.cell (p := ⟨b5, f5 + n * 5, none⟩) hlt5).trans s0
  replace s1 := (HB12.out.cell (p := ⟨b5, f5 + n * 5 + 1, none⟩) hlt5).trans s1
  replace s2 := (HB12.out.cell (p := ⟨b5, f5 + n * 5 + 2, none⟩) hlt5).trans s2
  replace s3 := (HB12.out.cell (p := ⟨b5, f5 + n * 5 + 3, none⟩) hlt5).trans s3
  replace s4 := (HB12.out.cell (p := ⟨b5, f5 + n * 5 + 4, none⟩) hlt5).trans s4
  have HWT := Lib.hid (fun W => twaits_any ss[n] W)
  dsimp only at HRES
  generalize ss[n] = x at *
  clear hst hS3
  go_wp2_with fail
  refine (HWT.out _).mono ?_
  rintro e w5 ⟨rfl, hb5'⟩
  have HB5 := Lib.hid (chain HBX.out hb5')
  clear hb5' s0 s1 s2 s3 s4 e0 e3 k1
  cases hw5 : wts x
  · rw [hw5] at HRES
    go_wp2
    go_ret
    exact ⟨by rw [HRES.out]; rfl, HB5.out⟩
  · rw [hw5] at HRES
    have hzb : ((xb.length : Int) == 0) = false := beq_eq_false_iff_ne.2 (by omega)
    go_wp2
    go_ret
    refine ⟨?_, HB5.out⟩
    rw [HRES.out]
    simp [hzb]
end Go.Proofs.Ytbffjhdocicfoaa
namespace Go.Proofs.Ytbffjhdocicfoaa
open Go.RowKit
set_option linter.unusedVariables false
set_option linter.unusedSimpArgs false
open CodM (St Pg rightP)
open BfM (Wr plc)
open ScM

theorem drM_len (b : List Wr) (m : List Int) : (drM b m).length = m.length := by
  cases b with
  | nil => rfl
  | cons x r => unfold drM; simp only []; split <;> simp [BfM.arr_len]
end Go.Proofs.Ytbffjhdocicfoaa
