/-
  sc.Right: may a state be so?
  LAYER 10: head, a live question whose answer is fixed.
  STATES THAT LIE IN AN ARGUMENT's ROWS, OR IN THE CALL's OWN; rows of bools.
  LAYER 13: rows of picks, a step's answer, and what stays behind a call that changes one box.
  tso.isThread, tso.waits, tso.can.
-/
import Derived.Test.YtbgjamoflbdhoaaK04
import Derived.Test.YtbgjamoflbdhoaaScY
import Derived.Deep.RegionHeld3
import Derived.Deep.DeepCutAuto
import Derived.Test.YtbgjamoflbdhoaaScPs
import Derived.Test.YtbgjamoflbdhoaaScPb
import Derived.Test.YtbgjamoflbdhoaaK11
import Derived.Test.YtbgjamoflbdhoaaK08
import Derived.Test.YtbgjamoflbdhoaaScW
set_option linter.unusedVariables false
set_option linter.unusedSimpArgs false
namespace Go.Proofs.Ytbgjamoflbdhoaa
open Go.RowKit
set_option linter.unusedVariables false
set_option linter.unusedSimpArgs false
open CodM (St Pg posI)
open BfM (Wr plc)
open ScM

def thV (t : Th) (vr vb : Value) : Value := .agg #[.int .i64 t.at', vr, .bool t.eq, vb]
end Go.Proofs.Ytbgjamoflbdhoaa
namespace Go.Proofs.Ytbgjamoflbdhoaa
open Go.RowKit
set_option linter.unusedVariables false
set_option linter.unusedSimpArgs false
open CodM (St Pg rightP)
open BfM (Wr plc)
open ScM

/-- The code that is asked of. -/
def hP : Pg := ⟨[5], [[⟨1, 2, 0, 7, 0⟩, ⟨5, 2, 0, 0, 0⟩, ⟨7, 2, 0, 5, 0⟩, ⟨9, 0, 0, 0, 5⟩, ⟨4, 0, 0, 9, 0⟩]]⟩
def hS : Nat → Sta
  | 0 => beg hP
  | k + 1 => stp hP (hS k) 0
theorem OwnSt.sv {base : Nat} {w : World} {vm vt : Value} {s : Sta} {ps : List TV} (h : OwnSt base w vm vt s ps) : StaV w.heap.size w (.agg #[vm, vt]) s := ⟨_, _, rfl, h.read (Nat.le_refl _)⟩
end Go.Proofs.Ytbgjamoflbdhoaa
namespace Go.Proofs.Ytbgjamoflbdhoaa
open Go Go.ChangeShapes Go.WideShapes Go.RowKit Go.Deep
set_option linter.unusedVariables false
set_option linter.unusedSimpArgs false
open CodM (St Pg rightP)
open BfM (Wr plc)
open ScM

def AnyS (B base : Nat) (w : World) (vm vt : Value) (s : Sta) : Prop := StaM B w vm vt s ∨ ∃ ps, OwnSt base w vm vt s ps
theorem AnyS.sv {B base : Nat} {w : World} {vm vt : Value} {s : Sta} (h : AnyS B base w vm vt s) (hB : B ≤ w.heap.size) : StaV w.heap.size w (.agg #[vm, vt]) s := by
  rcases h with h | ⟨ps, h⟩
  · exact ⟨_, _, rfl, h.more hB⟩
  · exact h.sv
theorem AnyS.st {B base : Nat} {w : World} {vm vt : Value} {s : Sta} (h : AnyS B base w vm vt s) (hB : B ≤ w.heap.size) : StaM w.heap.size w vm vt s := by
  rcases h with h | ⟨ps, h⟩
  · exact h.more hB
  · exact h.read (Nat.le_refl _)
theorem AnyS.below {B base : Nat} {w w' : World} {vm vt : Value} {s : Sta} (h : AnyS B base w vm vt s) (hb : Below w.heap.size w w') (hB : B ≤ w.heap.size) : AnyS B base w' vm vt s := by
  rcases h with h | ⟨ps, h⟩
  · exact .inl (h.below (hb.mono hB))
  · exact .inr ⟨ps, h.below hb⟩
theorem AnyS.box {B base g : Nat} {w : World} {T : TypeId} {cs : Array Value} {vm vt : Value} {s : Sta} (h : AnyS B base w vm vt s) (hbx : BoxC w g T cs) (h1 : (55 : TypeId) ≠ T) (h2 : (3 : TypeId) ≠ T) (h3 : (78 : TypeId) ≠ T) (hg : B ≤ g) (i : Nat) (x : Value) :
    AnyS B base (w.setCell ⟨g, i, none⟩ x) vm vt s := by
  rcases h with h | ⟨ps, h⟩
  · exact .inl (h.below ((Below.refl B w).setCell (p := ⟨g, i, none⟩) hg _))
  · exact .inr ⟨ps, h.box hbx h1 h2 h3 i x⟩
/-! Rows of bools. -/
end Go.Proofs.Ytbgjamoflbdhoaa
namespace Go.Proofs.Ytbgjamoflbdhoaa
open Go Go.ChangeShapes Go.WideShapes Go.RowKit Go.Deep
set_option linter.unusedVariables false
set_option linter.unusedSimpArgs false
set_option maxRecDepth 100000
open CodM (St Pg rightP)
open BfM (Wr plc)
open ScM

def kiC (p : Int × Bool) : List Value := [.int .i64 p.1, .bool p.2]
theorem kiC_len (p : Int × Bool) : (kiC p).length = 2 := rfl
/-- A row of picks. -/
abbrev KiR (B : Nat) (w : World) (v : Value) (b : List (Int × Bool)) : Prop := Rw kiC 2 B w v b
abbrev OwnKi (base : Nat) (w : World) (v : Value) (b : List (Int × Bool)) : Prop := w.ownsRow base 47 2 v b.length (b.flatMap kiC)
theorem ki_at {B : Nat} {w : World} {A : Option Addr} {c : Nat} {b : List (Int × Bool)} (h : 0 < b.length → ∃ g f, A = some ⟨g, f, none⟩ ∧ g < B ∧ ∀ j u, (b.flatMap kiC)[j]? = some u → w.cell? ⟨g, f + j, none⟩ = some u) :
    0 < b.length → ∃ g f, A = some ⟨g, f, none⟩ ∧ g < B ∧ ∀ j (hj : j < b.length), w.cell? ⟨g, f + j * 2, none⟩ = some (.int .i64 b[j].1) ∧ w.cell? ⟨g, f + j * 2 + 1, none⟩ = some (.bool b[j].2) := by
  intro h0
  obtain ⟨g, f, e, hg, hc⟩ := h h0
  refine ⟨g, f, e, hg, fun j hj => ⟨?_, ?_⟩⟩
  · exact hc (j * 2) _ ((fl_at kiC_len b j 0 hj (by omega)).trans rfl)
  · exact hc (j * 2 + 1) _ ((fl_at kiC_len b j 1 hj (by omega)).trans rfl)
theorem one_ki (b : List (Int × Bool)) : ∀ u ∈ b.flatMap kiC, u.oneCell' = true := fun u hu => by
  obtain ⟨x, _, hx⟩ := List.mem_flatMap.1 hu
  simp only [kiC, List.mem_cons, List.not_mem_nil, or_false] at hx
  rcases hx with rfl | rfl <;> rfl
section
variable {H : Type} {enc : TypeId × Value → H} {w : World} {base : Nat} {spare : Nat → Bool} {held : Bool}
theorem elem_ki (cs : List Value) (y : DataW H × List MemPlace) (k : Nat) (hl : cs.length = 2) (h : DataW.trod enc Try.prog w base spare held k 47 cs = some y) : ∃ a : Int × Bool, kiC a = cs ∧ NumM.inR a.1 := by
  have hf := open_cells Try.underlying47 (by kernel_rfl) h hl
  match cs, hl with
  | [c0, c1], _ =>
    obtain ⟨x0, y0, n0, e0, t0⟩ := hf 0 _ rfl
    obtain ⟨x1, y1, n1, e1, t1⟩ := hf 1 _ rfl
    obtain ⟨o, rfl, w0⟩ := int_cell Try.underlying3 t0
    obtain ⟨q, rfl⟩ := bool_cell Try.underlying4 t1
    obtain rfl := Option.some.inj e0
    obtain rfl := Option.some.inj e1
    exact ⟨(o, q), rfl, w0⟩
theorem open_picks {r : Reach} {b0 : Nat} {v : Value} {d : DataW H} {p : List MemPlace} (hv : Value.okWide Try.prog w r b0 26 v) (h : DataW.Trod enc Try.prog w base spare held 26 v d p) :
    ∃ m : List (Int × Bool), KiR w.heap.size w v m ∧ ∀ x ∈ m, NumM.inR x.1 := by
  obtain ⟨a, len, cap, rfl⟩ := okWide_slice Try.underlying26 hv
  obtain ⟨fuel, hf⟩ := h
  exact open_rw (fun x : Int × Bool => NumM.inR x.1) kiC_len Try.underlying26 (by kernel_rfl) (by decide) elem_ki (by simpa [Value.cells] using hf)
end
/-! All blocks below n but g stay, and but those of picks from B on. -/
def KpG (n g B : Nat) (W W' : World) : Prop := W'.os = W.os ∧ W'.tape = W.tape ∧ W'.output = W.output ∧ W.heap.size ≤ W'.heap.size ∧ ∀ k, k < n → k ≠ g → (B ≤ k → ∀ cs ro, W.heap[k]? ≠ some (.cells cs 47 ro)) → W'.heap[k]? = W.heap[k]?
theorem KpG.refl (n g B : Nat) (W : World) : KpG n g B W W := ⟨rfl, rfl, rfl, Nat.le_refl _, fun _ _ _ _ => rfl⟩
theorem KpG.trans {n g B : Nat} {a b c : World} (h : KpG n g B a b) (k : KpG n g B b c) : KpG n g B a c :=
  ⟨k.1.trans h.1, k.2.1.trans h.2.1, k.2.2.1.trans h.2.2.1, Nat.le_trans h.2.2.2.1 k.2.2.2.1, fun i h1 h2 h3 => by
    have e := h.2.2.2.2 i h1 h2 h3
    exact (k.2.2.2.2 i h1 h2 (fun hb cs ro => by rw [e]; exact h3 hb cs ro)).trans e⟩
theorem KpG.mono {n m g B : Nat} {a b : World} (h : KpG n g B a b) (hm : m ≤ n) : KpG m g B a b := ⟨h.1, h.2.1, h.2.2.1, h.2.2.2.1, fun k h1 h2 h3 => h.2.2.2.2 k (by omega) h2 h3⟩
theorem KpG.size {n g B : Nat} {a b : World} (h : KpG n g B a b) : a.heap.size ≤ b.heap.size := h.2.2.2.1
theorem KpG.below {n g C B : Nat} {a b : World} (h : KpG n g C a b) (hB : B ≤ g) (hn : B ≤ n) (hC : B ≤ C) : Below B a b := ⟨h.1, h.2.1, h.2.2.1, h.2.2.2.1, fun k hk => h.2.2.2.2 k (by omega) (by omega) (fun hb => absurd hb (by omega))⟩
theorem KpG.of {n g B : Nat} {a b : World} (h : Below n a b) : KpG n g B a b := ⟨h.os, h.tape, h.output, h.size, fun k hk _ _ => h.block k hk⟩
theorem KpG.bl {n g B : Nat} {a b c : World} (h : KpG n g B a b) (hn : n ≤ b.heap.size) (k : Below b.heap.size b c) : KpG n g B a c := h.trans (KpG.of (k.mono hn))
theorem KpG.set (n g B : Nat) (W : World) (i : Nat) (v : Value) : KpG n g B W (W.setCell ⟨g, i, none⟩ v) :=
  ⟨rfl, rfl, rfl, by simp, fun k _ h _ => heap_setCell_other W ⟨g, i, none⟩ k v h⟩
theorem KpG.new {n g B c : Nat} {a b : World} (x : KpG n g B a b) (hn : n ≤ c) (i : Nat) (v : Value) : KpG n g B a (b.setCell ⟨c, i, none⟩ v) :=
  x.trans ⟨rfl, rfl, rfl, by simp, fun k h1 _ _ => heap_setCell_other b ⟨c, i, none⟩ k v (by show k ≠ c; omega)⟩
/-- Behind an append to a row of picks. -/
theorem KpG.app {n g B base s m : Nat} {a W W' : World} {v : Value} {xs : List Value} (h : KpG n g B a W) (hs : n ≤ W.heap.size) (ho : W.ownsRow base 47 s v m xs) (hn : B ≤ base) (hg : W.grownBy W' v.ownBlock) : KpG n g B a W' :=
  h.trans ⟨hg.os, hg.tape, hg.output, hg.size, fun k h1 _ h3 => hg.block k (by omega) (fun e => by
    rcases ho.2 with ⟨rfl, _⟩ | ⟨g1, c1, cur1, rfl, hb1, hh1, _⟩
    · cases e
    · injection e with e
      have e : k = g1 := e
      subst e
      exact h3 (by omega) _ _ hh1)⟩
/-- A row whose block stays. -/
theorem own_same {base T s m : Nat} {W W' : World} {v : Value} {xs : List Value} (h : W.ownsRow base T s v m xs) (hk : ∀ g cs, W.heap[g]? = some (.cells cs T (0, 0)) → v.ownBlock = some g → W'.heap[g]? = W.heap[g]?) : W'.ownsRow base T s v m xs := by
  obtain ⟨h0, h⟩ := h
  refine ⟨h0, ?_⟩
  rcases h with h | ⟨g, cap, cur, h1, h2, h3, h4⟩
  · exact .inl h
  · exact .inr ⟨g, cap, cur, h1, h2, (hk g cur h3 (by rw [h1]; rfl)).trans h3, h4⟩
/-- What such a call leaves of a row, or a box, of another type than the box's. -/
theorem own_kp {g B base T T2 s m : Nat} {W W' : World} {v : Value} {xs : List Value} {cs : Array Value} (h : W.ownsRow base T s v m xs) (hb : BoxC W g T2 cs) (hT : T ≠ T2) (hP : T ≠ 47) (hk : KpG W.heap.size g B W W') : W'.ownsRow base T s v m xs :=
  own_same h fun k cs' hh _ => hk.2.2.2.2 k (Array.getElem?_eq_some_iff.1 hh).1 (fun e => by
    subst e
    rw [show W.heap[k]? = _ from hb] at hh; injection hh with hh; injection hh with _ hh
    exact hT hh.symm) (fun _ cs2 ro e => by
    rw [hh] at e; injection e with e; injection e with _ e
    exact hP e)
theorem BoxC.kp {g B b : Nat} {W W' : World} {T : TypeId} {cs : Array Value} (h : BoxC W b T cs) (hk : KpG W.heap.size g B W W') (hne : b ≠ g) (hP : T ≠ 47) : BoxC W' b T cs := (hk.2.2.2.2 b h.lt hne (fun _ cs2 ro e => by
    rw [show W.heap[b]? = _ from h] at e; injection e with e; injection e with _ e
    exact hP e)).trans h
theorem OwnSt.kp {base g B : Nat} {W W' : World} {T : TypeId} {cs : Array Value} {vm vt : Value} {s : Sta} {ps : List TV} (h : OwnSt base W vm vt s ps) (hb : BoxC W g T cs) (h1 : (55 : TypeId) ≠ T) (h2 : (3 : TypeId) ≠ T) (h3 : (78 : TypeId) ≠ T) (hk : KpG W.heap.size g B W W') : OwnSt base W' vm vt s ps :=
  ⟨own_kp h.mem hb h2 (by decide) hk, own_kp h.ths hb h1 (by decide) hk, h.eq, fun p hp => ⟨own_kp (h.each p hp).1 hb h2 (by decide) hk, own_kp (h.each p hp).2.1 hb h3 (by decide) hk, (h.each p hp).2.2⟩, h.ap⟩
/-! A step of a run. -/
/-- What hands back a step of a run: new memory, if it can be done; else whatever state. -/
def RsRet (P : Pg) (s : Sta) (t : Int) (d wk : Bool) (w : World) (e : Ending) (w' : World) : Prop :=
  ∃ A n c B m k, e = .returned (.tuple #[.agg #[.slice A n c, .slice B m k], .bool (rst P s t d wk).isSome]) ∧ (∀ s', rst P s t d wk = some s' → ∃ ps, OwnSt w.heap.size w' (.slice A n c) (.slice B m k) s' ps) ∧ Below w.heap.size w w'
theorem rs_weak {P : Pg} {s : Sta} {t : Int} {d : Bool} {w : World} {e : Ending} {w' : World} (h : TpRet P s t d w e w') : RsRet P s t d true w e w' := by
  obtain ⟨vm, vt, ps, rfl, ho, hb⟩ := h
  have hr : rst P s t d true = tst P s t d := by unfold rst; rw [if_pos rfl]
  unfold RsRet
  rw [hr]
  obtain ⟨A, c, rfl⟩ := own_slice ho.mem
  obtain ⟨B, k, rfl⟩ := own_slice ho.ths
  refine ⟨_, _, _, _, _, _, rfl, fun s' h => ⟨ps, ?_⟩, hb⟩
  rw [h] at ho ⊢
  exact ho
theorem rs_strict {P : Pg} {s : Sta} {t : Int} {w : World} {e : Ending} {w' : World} (h : StpRet P s t w e w') : RsRet P s t false false w e w' := by
  obtain ⟨vm, vt, ps, rfl, ho, hb⟩ := h
  have hr : rst P s t false false = if (atS P s t).isSome then some (stp P s t) else none := by unfold rst; rw [if_neg (by decide), if_neg (by decide)]
  obtain ⟨A, c, rfl⟩ := own_slice ho.mem
  obtain ⟨B, k, rfl⟩ := own_slice ho.ths
  have hi : (rst P s t false false).isSome = (atS P s t).isSome := by rw [hr]; cases (atS P s t).isSome <;> rfl
  unfold RsRet
  rw [hi]
  refine ⟨_, _, _, _, _, _, rfl, fun s' h => ⟨ps, ?_⟩, hb⟩
  rw [hr] at h
  split at h
  · injection h with h; subst h; exact ho
  · cases h
theorem rst_drain (P : Pg) (s : Sta) (t : Int) : rst P s t true false = none := by unfold rst; rw [if_neg (by decide), if_pos rfl]
/-- A state handed back, of the call's own. -/
def OwnRun (P : Pg) (wk : Bool) (l : List (Int × Bool)) (w : World) (e : Ending) (w' : World) : Prop :=
  ∃ vm vt ps, e = .returned (.tuple #[.agg #[vm, vt], .int .i64 ((runS P wk (beg P) l).2.1 : Nat), .bool (runS P wk (beg P) l).2.2]) ∧ OwnSt w.heap.size w' vm vt (runS P wk (beg P) l).1 ps ∧ Below w.heap.size w w'
end Go.Proofs.Ytbgjamoflbdhoaa
namespace Go.Proofs.Ytbgjamoflbdhoaa
open Go.RowKit
set_option linter.unusedVariables false
set_option linter.unusedSimpArgs false
open CodM (St Pg rightP)
open BfM (Wr plc)
open ScM

set_option maxHeartbeats 4000000 in
set_option maxRecDepth 100000 in
theorem tthread_any {B : Nat} {v : Value} {P : Pg} (t : Int) (w : World) (hv : PgV B w v P) (hBB : B ≤ w.heap.size) :
    Calls Try.prog 66 #[v, .int .i64 t] w fun e w' => e = .returned (.bool (decide (0 ≤ t ∧ t < (P.ths.length : Int)))) ∧ Below w.heap.size w w' := by
  obtain ⟨pi, pt, rfl, ⟨P0, d0, rfl, -⟩, ⟨P1, d1, rfl, l1, l2, -⟩⟩ := hv
  unfold maxLen at l2
  have hB := below_al (Below.refl w.heap.size w) (.cells #[.slice P0 P.init.length d0, .slice P1 P.ths.length d1] 25)
  have HP := Lib.hid (PgBox.at (w := w) rfl (.slice P0 P.init.length d0) (.slice P1 P.ths.length d1) 25)
  obtain ⟨x0, x1⟩ := HP.out
  by_cases h0 : 0 ≤ t
  · by_cases h1 : t < (P.ths.length : Int)
    · rw [decide_eq_true (show 0 ≤ t ∧ t < (P.ths.length : Int) from ⟨h0, h1⟩)]
      go_enter Try.func66, Try.ntmps66
      go_wp2
      go_ret
      exact ⟨rfl, hB⟩
    · rw [decide_eq_false (show ¬ (0 ≤ t ∧ t < (P.ths.length : Int)) from fun h => h1 h.2)]
      go_enter Try.func66, Try.ntmps66
      go_wp2
      go_ret
      exact ⟨rfl, hB⟩
  · rw [decide_eq_false (show ¬ (0 ≤ t ∧ t < (P.ths.length : Int)) from fun h => h0 h.1)]
    go_enter Try.func66, Try.ntmps66
    go_wp2
    go_ret
    exact ⟨rfl, hB⟩
/-- A step that waits. -/
def wts (x : St) : Bool := decide (x.op = 6) || decide (x.op = 5)
set_option maxHeartbeats 4000000 in
set_option maxRecDepth 100000 in
theorem twaits_any (x : St) (w : World) :
    Calls Try.prog 67 #[.agg #[.int .i64 x.op, .int .i64 x.reg, .int .i64 x.loc, .int .i64 x.n, .int .i64 x.to]] w fun e w' => e = .returned (.bool (wts x)) ∧ Below w.heap.size w w' := by
  obtain ⟨o, r, l, n, t⟩ := x
  have hB := below_al (Below.refl w.heap.size w) (.cells #[.int .i64 o, .int .i64 r, .int .i64 l, .int .i64 n, .int .i64 t] 70)
  have x0 : (w.alloc (.cells #[.int .i64 o, .int .i64 r, .int .i64 l, .int .i64 n, .int .i64 t] 70)).cell? ⟨w.heap.size, 0, none⟩ = some (.int .i64 o) := by rw [World.cell?_alloc_at _ _ _ _ rfl]; rfl
  unfold wts
  dsimp only
  by_cases h6 : o = 6
  · subst h6
    go_enter Try.func67, Try.ntmps67
    go_wp2
    go_ret
    exact ⟨rfl, hB⟩
  by_cases h5 : o = 5
  · subst h5
    go_enter Try.func67, Try.ntmps67
    go_wp2
    go_ret
    exact ⟨rfl, hB⟩
  have b6 : (o == 6) = false := beq_eq_false_iff_ne.2 h6
  have b5 : (o == 5) = false := beq_eq_false_iff_ne.2 h5
  rw [decide_eq_false h6, decide_eq_false h5]
  go_enter Try.func67, Try.ntmps67
  go_wp2
  go_ret
  refine ⟨?_, hB⟩
  simp [b6, b5]
set_option maxHeartbeats 8000000 in
set_option maxRecDepth 100000 in
theorem tcan_any {B : Nat} {v u : Value} {P : Pg} {s : Sta} (t : Int) (d : Bool) (w : World) (hv : PgV B w v P) (hu : StaV B w u s) (hBB : B ≤ w.heap.size) (ho : OkSt P s) :
    Calls Try.prog 58 #[v, u, .agg #[.int .i64 t, .bool d]] w fun e w' => e = .returned (.bool (tst P s t d).isSome) ∧ Below w.heap.size w w' := by
  have HTH := Lib.hid (fun W (hW : Below w.heap.size w W) => tthread_any t W ((hv.below (hW.mono hBB)).more (Nat.le_trans hBB hW.size)) (Nat.le_refl _))
  obtain ⟨pi, pt, rfl, hpm⟩ := hv
  obtain ⟨um, ut, rfl, hum⟩ := hu
  obtain ⟨⟨P0, d0, rfl, -⟩, ⟨P1, d1, rfl, l1, l2, l3⟩⟩ := hpm
  obtain ⟨⟨A7, c7, rfl, -⟩, ⟨A1, c1, rfl, m1, m2, -, m3⟩⟩ := hum
  unfold maxLen at l2 m2
  have HL3 := Lib.hid l3
  have HM3 := Lib.hid m3
  have HO := Lib.hid ho
  have HTL := Lib.hid ho.ths
  clear l3 m3 ho
  obtain ⟨W3, hW3⟩ : ∃ W, W = ((w.alloc (.cells #[.slice P0 P.init.length d0, .slice P1 P.ths.length d1] 25)).alloc (.cells #[.slice A7 s.mem.length c7, .slice A1 s.ths.length c1] 31)).alloc (.cells #[.int .i64 t, .bool d] 47) := ⟨_, rfl⟩
  obtain ⟨gp, hgp⟩ : ∃ g, g = w.heap.size := ⟨_, rfl⟩
  obtain ⟨gs, hgs⟩ : ∃ g, g = w.heap.size + 1 := ⟨_, rfl⟩
  obtain ⟨gk, hgk⟩ : ∃ g, g = w.heap.size + 1 + 1 := ⟨_, rfl⟩
  have HX := Lib.hid (show BoxC W3 gp 25 #[.slice P0 P.init.length d0, .slice P1 P.ths.length d1] from by rw [hW3, hgp]; exact ((BoxC.new w _ _).alloc _).alloc _)
  have HY := Lib.hid (show BoxC W3 gs 31 #[.slice A7 s.mem.length c7, .slice A1 s.ths.length c1] from by rw [hW3, hgs]; have := (BoxC.new (w.alloc (.cells #[.slice P0 P.init.length d0, .slice P1 P.ths.length d1] 25)) 31 #[.slice A7 s.mem.length c7, .slice A1 s.ths.length c1]).alloc (.cells #[.int .i64 t, .bool d] 47); rw [World.size_alloc] at this; exact this)
  have HK := Lib.hid (show BoxC W3 gk 47 #[.int .i64 t, .bool d] from by rw [hW3, hgk]; have := BoxC.new ((w.alloc (.cells #[.slice P0 P.init.length d0, .slice P1 P.ths.length d1] 25)).alloc (.cells #[.slice A7 s.mem.length c7, .slice A1 s.ths.length c1] 31)) 47 #[.int .i64 t, .bool d]; rw [World.size_alloc, World.size_alloc] at this; exact this)
  have HB3 := Lib.hid (show Below w.heap.size w W3 from by rw [hW3]; exact below_al (below_al (below_al (Below.refl _ _) _) _) _)
  have x0 := HX.out.cell 0 _ rfl
  have x1 := HX.out.cell 1 _ rfl
  have k0 := HK.out.cell 0 _ rfl
  go_enter Try.func58, Try.ntmps58
  go_upto_region 1 with fail
  rw [← hW3]
  (try rw [← hgk])
  (try rw [← hgs])
  (try rw [← hgp])
  clear hW3 hgk hgs hgp
  go_wp2_with fail
  refine (HTH.out _ HB3.out).mono ?_
  rintro e w1 ⟨rfl, hb1⟩
  have HB1 := Lib.hid hb1
  have HBF := Lib.hid (chain HB3.out hb1)
  clear x0 x1 k0 HTH hb1
  by_cases hr : 0 ≤ t ∧ t < (P.ths.length : Int)
  case neg =>
    have HTO := Lib.hid (show tst P s t d = none from tst_out (by rw [HTL.out]; exact hr))
    rw [decide_eq_false hr]
    clear hr
    go_wp2
    go_ret
    exact ⟨by rw [HTO.out]; rfl, HBF.out⟩
  rw [decide_eq_true hr]
  obtain ⟨hr1, hr2⟩ := hr
  obtain ⟨k, rfl⟩ : ∃ k : Nat, t = k := ⟨t.toNat, by omega⟩
  have hkt : k < P.ths.length := by omega
  have hks : k < s.ths.length := by rw [HTL.out]; exact hkt
  have HTD := Lib.hid (tst_drain HO.out hks)
  have HTS := Lib.hid (fun h3 => tst_step (P := P) (s := s) hks hkt h3)
  have HTE := Lib.hid (atS_iff HO.out hks hkt)
  have HTN := Lib.hid (fun h => tst_end (P := P) (s := s) (t := (k : Int)) h)
  have hlo := (HO.out.th k hks hkt).lo
  obtain ⟨b1, f1, rfl, hb1, hc1⟩ := HM3.out (by omega)
  obtain ⟨vr, vb, a0, a1, a2, a3, hRg, hW⟩ := hc1 k hks
  obtain ⟨b2, f2, rfl, hb2, hc2⟩ := HL3.out (by omega)
  obtain ⟨vs, s0, hS⟩ := hc2 k hkt
  replace a0 := ((HBF.out.mono hBB).cell (p := ⟨b1, f1 + k * 4, none⟩) hb1).trans a0
  replace a1 := ((HBF.out.mono hBB).cell (p := ⟨b1, f1 + k * 4 + 1, none⟩) hb1).trans a1
  replace a2 := ((HBF.out.mono hBB).cell (p := ⟨b1, f1 + k * 4 + 2, none⟩) hb1).trans a2
  replace a3 := ((HBF.out.mono hBB).cell (p := ⟨b1, f1 + k * 4 + 3, none⟩) hb1).trans a3
  replace s0 := ((HBF.out.mono hBB).cell (p := ⟨b2, f2 + k, none⟩) hb2).trans s0
  replace hS := hS.below (HBF.out.mono hBB)
  generalize hth : s.ths[k] = h at *
  generalize hss : P.ths[k] = ss at *
  obtain ⟨xa, xr, xe, xb⟩ := h
  dsimp only at *
  obtain ⟨Ab, cb, rfl, q1, q2, -⟩ := hW
  obtain ⟨Ar, cr, rfl, -⟩ := hRg
  obtain ⟨As, cs, rfl, r1, r2, hS3⟩ := hS
  unfold maxLen at q2 r2
  have x0 := (HX.out.below HB1.out HX.out.lt).cell 0 _ rfl
  have x1 := (HX.out.below HB1.out HX.out.lt).cell 1 _ rfl
  have y0 := (HY.out.below HB1.out HY.out.lt).cell 0 _ rfl
  have y1 := (HY.out.below HB1.out HY.out.lt).cell 1 _ rfl
  have k0 := (HK.out.below HB1.out HK.out.lt).cell 0 _ rfl
  have k1 := (HK.out.below HB1.out HK.out.lt).cell 1 _ rfl
  clear hc1 hc2
  go_upto_region 3 with fail
  refine wp_region_held_drew (S := (fun w' => (w'.cell? ⟨gs, 1, none⟩ = some (.slice (some ⟨b1, f1, none⟩) s.ths.length c1) ∧ w'.cell? ⟨gp, 1, none⟩ = some (.slice (some ⟨b2, f2, none⟩) P.ths.length d1) ∧ w'.cell? ⟨gk, 0, none⟩ = some (.int .i64 (k : Int)) ∧ w'.cell? ⟨b1, f1 + k * 4, none⟩ = some (.int .i64 xa) ∧ w'.cell? ⟨b1, f1 + k * 4 + 1, none⟩ = some (.slice Ar xr.length cr) ∧ w'.cell? ⟨b1, f1 + k * 4 + 2, none⟩ = some (.bool xe) ∧ w'.cell? ⟨b1, f1 + k * 4 + 3, none⟩ = some (.slice Ab xb.length cb) ∧ w'.cell? ⟨b2, f2 + k, none⟩ = some (.slice As ss.length cs)) ∧ Below w1.heap.size w1 w')) (by kernel_rfl) ⟨⟨y1, x1, k0, a0, a1, a2, a3, s0⟩, below_drewN (Below.refl _ _) 1⟩ (fun hHeld => ?_)
  obtain ⟨Xs, hXs⟩ : ∃ W, W = w1.drew := ⟨_, rfl⟩
  have HXs := Lib.hid (show Below w1.heap.size w1 Xs from by rw [hXs]; exact below_drewN (Below.refl _ _) 1)
  rw [← hXs] at hHeld ⊢
  clear hXs
  refine wpAnyH_take (i := 0) (v := ?_) rfl (by kernel_rfl) (by kernel_rfl) (by kernel_rfl) (fun _ _ _ h => h) (Or.inl ⟨by rfl, ?_⟩) (by assumption) ?_
  rotate_left
  · intro w hSw; (try dsimp only at hSw); go_simp; (try with_reducible rfl)
  (try simp only [Act.put, pt8])
  refine wpAnyH_take (i := 1) (v := ?_) rfl (by kernel_rfl) (by kernel_rfl) (by kernel_rfl) (fun _ _ _ h => h) (Or.inl ⟨by rfl, ?_⟩) (by assumption) ?_
  rotate_left
  · intro w hSw; (try dsimp only at hSw); go_simp; (try with_reducible rfl)
  (try simp only [Act.put, pt8])
  refine wpAnyH_take (i := 2) (v := ?_) rfl (by kernel_rfl) (by kernel_rfl) (by kernel_rfl) (fun _ _ _ h => h) (Or.inl ⟨by rfl, ?_⟩) (by assumption) ?_
  rotate_left
  · intro w hSw; (try dsimp only at hSw); go_simp; (try with_reducible rfl)
  (try simp only [Act.put, pt8])
  refine wpAnyH_take (i := 3) (v := ?_) rfl (by kernel_rfl) (by kernel_rfl) (by kernel_rfl) (fun _ _ _ h => h) (Or.inl ⟨by rfl, ?_⟩) (by assumption) ?_
  rotate_left
  · intro w hSw; (try dsimp only at hSw); go_simp; (try with_reducible rfl)
  (try simp only [Act.put, pt8])
  refine wpAnyH_take (i := 4) (v := ?_) rfl (by kernel_rfl) (by kernel_rfl) (by kernel_rfl) (fun _ _ _ h => h) (Or.inl ⟨by rfl, ?_⟩) (by assumption) ?_
  rotate_left
  · intro w hSw; (try dsimp only at hSw); go_simp; (try with_reducible rfl)
  (try simp only [Act.put, pt8])
  refine wpAnyH_take (i := 5) (v := ?_) rfl (by kernel_rfl) (by kernel_rfl) (by kernel_rfl) (fun _ _ _ h => h) (Or.inl ⟨by rfl, ?_⟩) (by assumption) ?_
  rotate_left
  · intro w hSw; (try dsimp only at hSw); go_simp; (try with_reducible rfl)
  (try simp only [Act.put, pt8])
  refine wpAnyH_take (i := 6) (v := ?_) rfl (by kernel_rfl) (by kernel_rfl) (by kernel_rfl) (fun _ _ _ h => h) (Or.inl ⟨by rfl, ?_⟩) (by assumption) ?_
  rotate_left
  · intro w hSw; (try dsimp only at hSw); go_simp; (try with_reducible rfl)
  (try simp only [Act.put, pt8])
  refine wpAnyH_take (i := 7) (v := ?_) rfl (by kernel_rfl) (by kernel_rfl) (by kernel_rfl) (fun _ _ _ h => h) (Or.inl ⟨by rfl, ?_⟩) (by assumption) ?_
  rotate_left
  · intro w hSw; (try dsimp only at hSw); go_simp; (try with_reducible rfl)
  (try simp only [Act.put, pt8])
  refine wpAnyH_take (i := 8) (v := ?_) rfl (by kernel_rfl) (by kernel_rfl) (by kernel_rfl) (fun _ _ _ h => h) (Or.inl ⟨by rfl, ?_⟩) (by assumption) ?_
  rotate_left
  · intro w hSw; (try dsimp only at hSw); go_simp; (try with_reducible rfl)
  (try simp only [Act.put, pt8])
  refine wpAnyH_take (i := 9) (v := ?_) rfl (by kernel_rfl) (by kernel_rfl) (by kernel_rfl) (fun _ _ _ h => h) (Or.inl ⟨by rfl, ?_⟩) (by assumption) ?_
  rotate_left
  · intro w hSw; (try dsimp only at hSw); go_simp; (try with_reducible rfl)
  (try simp only [Act.put, pt8])
  refine wpAnyH_take (i := 10) (v := ?_) rfl (by kernel_rfl) (by kernel_rfl) (by kernel_rfl) (fun _ _ _ h => h) (Or.inl ⟨by rfl, ?_⟩) (by assumption) ?_
  rotate_left
  · intro w hSw; (try dsimp only at hSw); go_simp; (try with_reducible rfl)
  (try simp only [Act.put, pt8])
  refine wpAnyH_take (i := 11) (v := ?_) rfl (by kernel_rfl) (by kernel_rfl) (by kernel_rfl) (fun _ _ _ h => h) (Or.inl ⟨by rfl, ?_⟩) (by assumption) ?_
  rotate_left
  · intro w hSw; (try dsimp only at hSw); go_simp; (try with_reducible rfl)
  (try simp only [Act.put, pt8])
  refine wpAnyH_ready (rs := [12]) (by kernel_rfl) (by simp) ?_
  refine AllReadyH.cons rfl (fun K hK => ?_) AllReadyH.nil
  have HBA := Lib.hid (below_al hHeld.2 (.cells #[.int .i64 0, .slice none 0 0, .bool false, .slice none 0 0] 55))
  go_simp
  refine hK.out _ _ ⟨⟨kc HBA.out y1, kc HBA.out x1, kc HBA.out k0, kc HBA.out a0, kc HBA.out a1, kc HBA.out a2, kc HBA.out a3, kc HBA.out s0⟩, HBA.out⟩ (fun hHeld => ?_)
  clear hK K
  (try simp only [Act.put, pt8])
  obtain ⟨Xa, hXa⟩ : ∃ W, W = Xs.alloc (.cells #[.int .i64 0, .slice none 0 0, .bool false, .slice none 0 0] 55) := ⟨_, rfl⟩
  obtain ⟨gx, hgx⟩ : ∃ g, g = Xs.heap.size := ⟨_, rfl⟩
  rw [← hXa] at hHeld HBA ⊢
  (try rw [← hgx])
  have HQa := Lib.hid (show BoxC Xa gx 55 #[.int .i64 0, .slice none 0 0, .bool false, .slice none 0 0] from by rw [hXa, hgx]; exact BoxC.new Xs _ _)
  have HGa := Lib.hid (show w1.heap.size ≤ gx from by rw [hgx]; exact HXs.out.size)
  clear hXa hgx
  refine wpAnyH_ready (rs := [13]) (by kernel_rfl) (by simp) ?_
  refine AllReadyH.cons rfl (fun K hK => ?_) AllReadyH.nil
  have e0 := HQa.out.cell 0 _ rfl
  have e1 := HQa.out.cell 1 _ rfl
  have e2 := HQa.out.cell 2 _ rfl
  have e3 := HQa.out.cell 3 _ rfl
  have u0 := HQa.out.frozen 0
  have u1 := HQa.out.frozen 1
  have u2 := HQa.out.frozen 2
  have u3 := HQa.out.frozen 3
  have HQs := Lib.hid (show BoxC ((((Xa.setCell ⟨gx, 0, none⟩ (.int .i64 xa)).setCell ⟨gx, 1, none⟩ (.slice Ar xr.length cr)).setCell ⟨gx, 2, none⟩ (.bool xe)).setCell ⟨gx, 3, none⟩ (.slice Ab xb.length cb)) gx 55 #[.int .i64 xa, .slice Ar xr.length cr, .bool xe, .slice Ab xb.length cb] from (((HQa.out.set 0 _).set 1 _).set 2 _).set 3 _)
  have HBS := Lib.hid (show Below w1.heap.size w1 ((((Xa.setCell ⟨gx, 0, none⟩ (.int .i64 xa)).setCell ⟨gx, 1, none⟩ (.slice Ar xr.length cr)).setCell ⟨gx, 2, none⟩ (.bool xe)).setCell ⟨gx, 3, none⟩ (.slice Ab xb.length cb)) from (((HBA.out.setCell (p := ⟨gx, 0, none⟩) HGa.out _).setCell (p := ⟨gx, 1, none⟩) HGa.out _).setCell (p := ⟨gx, 2, none⟩) HGa.out _).setCell (p := ⟨gx, 3, none⟩) HGa.out _)
  go_simp
  refine hK.out _ _ ⟨⟨kc HBS.out y1, kc HBS.out x1, kc HBS.out k0, kc HBS.out a0, kc HBS.out a1, kc HBS.out a2, kc HBS.out a3, kc HBS.out s0⟩, HBS.out⟩ (fun hHeld => ?_)
  clear hK K
  (try simp only [Act.put, pt8])
  clear e0 e1 e2 e3 u0 u1 u2 u3
  refine wpAnyH_ready (rs := [14]) (by kernel_rfl) (by simp) ?_
  refine AllReadyH.cons rfl (fun K hK => ?_) AllReadyH.nil
  go_simp
  refine hK.out _ _ hHeld (fun hHeld => ?_)
  clear hK K
  (try simp only [Act.put, pt8])
  refine wpAnyH_done (by kernel_rfl) ?_ _
  obtain ⟨X2, hX2⟩ : ∃ W, W = ((((Xa.setCell ⟨gx, 0, none⟩ (.int .i64 xa)).setCell ⟨gx, 1, none⟩ (.slice Ar xr.length cr)).setCell ⟨gx, 2, none⟩ (.bool xe)).setCell ⟨gx, 3, none⟩ (.slice Ab xb.length cb)) := ⟨_, rfl⟩
  rw [← hX2] at HQs HBS hHeld ⊢
  have HBX := Lib.hid (show Below w.heap.size w X2 from chain HBF.out HBS.out)
  have HB12 := Lib.hid HBS.out
  clear hX2 HQa HBA HBS HXs HGa hHeld y0 y1 x0 x1 k0 k1 a0 a1 a2 a3 s0
  have HK2 := Lib.hid (HK.out.below (chain HB1.out HB12.out) HK.out.lt)
  have k1 := HK2.out.cell 1 _ rfl
  have e0 := HQs.out.cell 0 _ rfl
  have e3 := HQs.out.cell 3 _ rfl
  have HRES := Lib.hid (show (tst P s (k : Int) d).isSome = if d then decide (0 < xb.length) else (decide (xa < ss.length) && (decide (xb.length = 0) || !(match ss[xa.toNat]? with | some x => wts x | none => false))) from by
    have hbe : xb.isEmpty = decide (xb.length = 0) := by cases xb <;> simp
    cases d
    · rw [if_neg (by decide)]
      by_cases h3 : xa.toNat < ss.length
      · have h3' : xa < (ss.length : Int) := by omega
        rw [HTS.out h3, decide_eq_true h3', List.getElem?_eq_getElem h3]
        unfold stuck wts
        dsimp only
        rw [hbe]
        by_cases hz : xb.length = 0
        · simp [hz]
        · simp only [hz, decide_false, Bool.not_false, Bool.true_and, Bool.false_or]
          cases (decide ((ss[xa.toNat]).op = 6) || decide ((ss[xa.toNat]).op = 5)) <;> rfl
      · rw [HTN.out (by have := HTE.out; rw [decide_eq_false (by omega)] at this; simpa using this), decide_eq_false (by omega)]; rfl
    · rw [if_pos rfl, HTD.out, hbe]
      by_cases hz : xb.length = 0
      · simp [hz]
      · rw [decide_eq_false hz, decide_eq_true (by omega)]; rfl)
  clear HTS HTD HTN HTE
  cases d
  case true =>
    rw [if_pos rfl] at HRES
    by_cases hz : 0 < xb.length
    · rw [decide_eq_true hz] at HRES
      go_wp2
      go_ret
      exact ⟨by rw [HRES.out]; rfl, HBX.out⟩
    · rw [decide_eq_false hz] at HRES
      go_wp2
      go_ret
      exact ⟨by rw [HRES.out]; rfl, HBX.out⟩
  rw [if_neg (by decide)] at HRES
  by_cases h3 : xa < (ss.length : Int)
  case neg =>
    rw [decide_eq_false h3] at HRES
    go_wp2
    go_ret
    exact ⟨by rw [HRES.out]; rfl, HBX.out⟩
  rw [decide_eq_true h3] at HRES
  by_cases hz : xb.length = 0
  · rw [decide_eq_true hz] at HRES
    go_wp2
    go_ret
    exact ⟨by rw [HRES.out]; rfl, HBX.out⟩
  rw [decide_eq_false hz] at HRES
  obtain ⟨n, rfl⟩ : ∃ n : Nat, xa = n := ⟨xa.toNat, by omega⟩
  have hn : n < ss.length := by omega
  rw [Int.toNat_natCast, List.getElem?_eq_getElem hn] at HRES
  obtain ⟨b5, f5, rfl, hb5, hst⟩ := hS3 (by omega)
  obtain ⟨s0, s1, s2, s3, s4⟩ := hst n hn
  have hlt5 : b5 < w1.heap.size := Nat.lt_of_lt_of_le hb5 (Nat.le_trans hBB HBF.out.size)
  replace s0 := (HB12.out.cell (p := ⟨b5, f5 + n * 5, none⟩) hlt5).trans s0
  replace s1 := (HB12.out.cell (p := ⟨b5, f5 + n * 5 + 1, none⟩) hlt5).trans s1
  replace s2 := (HB12.out.cell (p := ⟨b5, f5 + n * 5 + 2, none⟩) hlt5).trans s2
  replace s3 := (HB12.out.cell (p := ⟨b5, f5 + n * 5 + 3, none⟩) hlt5).trans s3
  replace s4 := (HB12.out.cell (p := ⟨b5, f5 + n * 5 + 4, none⟩) hlt5).trans s4
  have HWT := Lib.hid (fun W => twaits_any ss[n] W)
  dsimp only at HRES
  generalize ss[n] = x at *
  clear hst hS3
  go_wp2_with fail
  refine (HWT.out _).mono ?_
  rintro e w5 ⟨rfl, hb5'⟩
  have HB5 := Lib.hid (chain HBX.out hb5')
  clear hb5' s0 s1 s2 s3 s4 e0 e3 k1
  cases hw5 : wts x
  · rw [hw5] at HRES
    go_wp2
    go_ret
    exact ⟨by rw [HRES.out]; rfl, HB5.out⟩
  · rw [hw5] at HRES
    have hzb : ((xb.length : Int) == 0) = false := beq_eq_false_iff_ne.2 (by omega)
    go_wp2
    go_ret
    refine ⟨?_, HB5.out⟩
    rw [HRES.out]
    simp [hzb]
end Go.Proofs.Ytbgjamoflbdhoaa
