/-
  sc.Right: may a state be so?
  LAYER 10: head, a live question whose answer is fixed.
  STATES THAT LIE IN AN ARGUMENT's ROWS, OR IN THE CALL's OWN; rows of bools.
  LAYER 13: rows of picks, a step's answer, and what stays behind a call that changes one box.
  LAYER 14, as mathematics: a code with fences put in, beside the code without them.
  LAYER 14, as mathematics, 2: runs with fences, beside runs without.
  LAYER 14, as mathematics, 3: runs raised; the slots that are crossed.
  LAYER 14, as mathematics, 4: Raise, Cross.
  LAYER 14: cross.at: the way of a pick that can be done.
  THE WAYS OF A RUN, AS MATHEMATICS: what an iterator along a run tells.
  tso.isThread, tso.waits, tso.can.
  THE DOCUMENT's Step of layer 11: a drain.
-/
import Derived.Test.YtlpjgaeelnlipaaGreatK12
import Derived.Test.YtlpjgaeelnlipaaGreatScY
import Derived.Deep.RegionHeld3
import Derived.Deep.DeepCutAuto
import Derived.Test.YtlpjgaeelnlipaaGreatScPs
import Derived.Test.YtlpjgaeelnlipaaGreatScPb
import Derived.Test.YtlpjgaeelnlipaaGreatK16
import Derived.Test.YtlpjgaeelnlipaaGreatK13
import Derived.Test.YtlpjgaeelnlipaaGreatScP
import Derived.Test.YtlpjgaeelnlipaaGreatK09
import Derived.Test.YtlpjgaeelnlipaaGreatK02
import Derived.Test.YtlpjgaeelnlipaaGreatScW
set_option linter.unusedVariables false
set_option linter.unusedSimpArgs false
namespace Go.Proofs.YtlpjgaeelnlipaaGreat
open Go.RowKit
open CodM (St Pg posI)
open BfM (Wr plc)
open ScM

end Go.Proofs.YtlpjgaeelnlipaaGreat
namespace Go.Proofs.YtlpjgaeelnlipaaGreat
open Go.RowKit
open CodM (St Pg rightP)
open BfM (Wr plc)
open ScM

/-- The code that is asked of. -/
def hP : Pg := ⟨[5], [[⟨1, 2, 0, 7, 0⟩, ⟨5, 2, 0, 0, 0⟩, ⟨7, 2, 0, 5, 0⟩, ⟨9, 0, 0, 0, 5⟩, ⟨4, 0, 0, 9, 0⟩]]⟩
def hS : Nat → Sta
  | 0 => beg hP
  | k + 1 => stp hP (hS k) 0
theorem OwnSt.sv {base : Nat} {w : World} {vm vt : Value} {s : Sta} {ps : List TV} (h : OwnSt base w vm vt s ps) : StaV w.heap.size w (.agg #[vm, vt]) s := ⟨_, _, rfl, h.read (Nat.le_refl _)⟩
end Go.Proofs.YtlpjgaeelnlipaaGreat
namespace Go.Proofs.YtlpjgaeelnlipaaGreat
open Go Go.ChangeShapes Go.WideShapes Go.RowKit Go.Deep
open CodM (St Pg rightP)
open BfM (Wr plc)
open ScM

/-! Rows of bools. -/
end Go.Proofs.YtlpjgaeelnlipaaGreat
namespace Go.Proofs.YtlpjgaeelnlipaaGreat
open Go Go.ChangeShapes Go.WideShapes Go.RowKit Go.Deep
set_option maxRecDepth 100000
open CodM (St Pg rightP)
open BfM (Wr plc)
open ScM

def kiC (p : Int × Bool) : List Value := [.int .i64 p.1, .bool p.2]
theorem kiC_len (p : Int × Bool) : (kiC p).length = 2 := rfl
/-- A row of picks. -/
abbrev KiR (B : Nat) (w : World) (v : Value) (b : List (Int × Bool)) : Prop := Rw kiC 2 B w v b
abbrev OwnKi (base : Nat) (w : World) (v : Value) (b : List (Int × Bool)) : Prop := w.ownsRow base 53 2 v b.length (b.flatMap kiC)
theorem ki_at {B : Nat} {w : World} {A : Option Addr} {c : Nat} {b : List (Int × Bool)} (h : 0 < b.length → ∃ g f, A = some ⟨g, f, none⟩ ∧ g < B ∧ ∀ j u, (b.flatMap kiC)[j]? = some u → w.cell? ⟨g, f + j, none⟩ = some u) :
    0 < b.length → ∃ g f, A = some ⟨g, f, none⟩ ∧ g < B ∧ ∀ j (hj : j < b.length), w.cell? ⟨g, f + j * 2, none⟩ = some (.int .i64 b[j].1) ∧ w.cell? ⟨g, f + j * 2 + 1, none⟩ = some (.bool b[j].2) := by
  intro h0
  obtain ⟨g, f, e, hg, hc⟩ := h h0
  refine ⟨g, f, e, hg, fun j hj => ⟨?_, ?_⟩⟩
  · exact hc (j * 2) _ ((fl_at kiC_len b j 0 hj (by omega)).trans rfl)
  · exact hc (j * 2 + 1) _ ((fl_at kiC_len b j 1 hj (by omega)).trans rfl)
section
variable {H : Type} {enc : TypeId × Value → H} {w : World} {base : Nat} {spare : Nat → Bool} {held : Bool}
theorem elem_ki (cs : List Value) (y : DataW H × List MemPlace) (k : Nat) (hl : cs.length = 2) (h : DataW.trod enc Tryz.prog w base spare held k 53 cs = some y) : ∃ a : Int × Bool, kiC a = cs ∧ NumM.inR a.1 := by
  have hf := open_cells Tryz.underlying53 (by kernel_rfl) h hl
  match cs, hl with
  | [c0, c1], _ =>
    obtain ⟨x0, y0, n0, e0, t0⟩ := hf 0 _ rfl
    obtain ⟨x1, y1, n1, e1, t1⟩ := hf 1 _ rfl
    obtain ⟨o, rfl, w0⟩ := int_cell Tryz.underlying3 t0
    obtain ⟨q, rfl⟩ := bool_cell Tryz.underlying4 t1
    obtain rfl := Option.some.inj e0
    obtain rfl := Option.some.inj e1
    exact ⟨(o, q), rfl, w0⟩
theorem open_picks {r : Reach} {b0 : Nat} {v : Value} {d : DataW H} {p : List MemPlace} (hv : Value.okWide Tryz.prog w r b0 26 v) (h : DataW.Trod enc Tryz.prog w base spare held 26 v d p) :
    ∃ m : List (Int × Bool), KiR w.heap.size w v m ∧ ∀ x ∈ m, NumM.inR x.1 := by
  obtain ⟨a, len, cap, rfl⟩ := okWide_slice Tryz.underlying26 hv
  obtain ⟨fuel, hf⟩ := h
  exact open_rw (fun x : Int × Bool => NumM.inR x.1) kiC_len Tryz.underlying26 (by kernel_rfl) (by decide) elem_ki (by simpa [Value.cells] using hf)
end
/-! All blocks below n but g stay, and but those of picks from B on. -/
/-- A row whose block stays. -/
theorem own_same {base T s m : Nat} {W W' : World} {v : Value} {xs : List Value} (h : W.ownsRow base T s v m xs) (hk : ∀ g cs, W.heap[g]? = some (.cells cs T (0, 0)) → v.ownBlock = some g → W'.heap[g]? = W.heap[g]?) : W'.ownsRow base T s v m xs := by
  obtain ⟨h0, h⟩ := h
  refine ⟨h0, ?_⟩
  rcases h with h | ⟨g, cap, cur, h1, h2, h3, h4⟩
  · exact .inl h
  · exact .inr ⟨g, cap, cur, h1, h2, (hk g cur h3 (by rw [h1]; rfl)).trans h3, h4⟩
/-! A step of a run. -/
/-- What hands back a step of a run: new memory, if it can be done; else whatever state. -/
def RsRet (P : Pg) (s : Sta) (t : Int) (d wk : Bool) (w : World) (e : Ending) (w' : World) : Prop :=
  ∃ A n c B m k, e = .returned (.tuple #[.agg #[.slice A n c, .slice B m k], .bool (rst P s t d wk).isSome]) ∧ (∀ s', rst P s t d wk = some s' → ∃ ps, OwnSt w.heap.size w' (.slice A n c) (.slice B m k) s' ps) ∧ Below w.heap.size w w'
theorem rs_weak {P : Pg} {s : Sta} {t : Int} {d : Bool} {w : World} {e : Ending} {w' : World} (h : TpRet P s t d w e w') : RsRet P s t d true w e w' := by
  obtain ⟨vm, vt, ps, rfl, ho, hb⟩ := h
  have hr : rst P s t d true = tst P s t d := by unfold rst; rw [if_pos rfl]
  unfold RsRet
  rw [hr]
  obtain ⟨A, c, rfl⟩ := own_slice ho.mem
  obtain ⟨B, k, rfl⟩ := own_slice ho.ths
  refine ⟨_, _, _, _, _, _, rfl, fun s' h => ⟨ps, ?_⟩, hb⟩
  rw [h] at ho ⊢
  exact ho
theorem rs_strict {P : Pg} {s : Sta} {t : Int} {w : World} {e : Ending} {w' : World} (h : StpRet P s t w e w') : RsRet P s t false false w e w' := by
  obtain ⟨vm, vt, ps, rfl, ho, hb⟩ := h
  have hr : rst P s t false false = if (atS P s t).isSome then some (stp P s t) else none := by unfold rst; rw [if_neg (by decide), if_neg (by decide)]
  obtain ⟨A, c, rfl⟩ := own_slice ho.mem
  obtain ⟨B, k, rfl⟩ := own_slice ho.ths
  have hi : (rst P s t false false).isSome = (atS P s t).isSome := by rw [hr]; cases (atS P s t).isSome <;> rfl
  unfold RsRet
  rw [hi]
  refine ⟨_, _, _, _, _, _, rfl, fun s' h => ⟨ps, ?_⟩, hb⟩
  rw [hr] at h
  split at h
  · injection h with h; subst h; exact ho
  · cases h
theorem rst_drain (P : Pg) (s : Sta) (t : Int) : rst P s t true false = none := by unfold rst; rw [if_neg (by decide), if_pos rfl]
/-- A state handed back, of the call's own. -/
def OwnRun (P : Pg) (wk : Bool) (l : List (Int × Bool)) (w : World) (e : Ending) (w' : World) : Prop :=
  ∃ vm vt ps, e = .returned (.tuple #[.agg #[vm, vt], .int .i64 ((runS P wk (beg P) l).2.1 : Nat), .bool (runS P wk (beg P) l).2.2]) ∧ OwnSt w.heap.size w' vm vt (runS P wk (beg P) l).1 ps ∧ Below w.heap.size w w'
end Go.Proofs.YtlpjgaeelnlipaaGreat
namespace Go.Proofs.YtlpjgaeelnlipaaGreat
namespace CrM
open CodM (St Pg rightP hReg hLoc)
open BfM (Wr plc)
open ScM
open SlM

/-- Place a of a row with fences is place i of the row without: ahead of the fence, or behind it, with nothing on its way. -/
def AtR (c : Nat → Bool) (n i a : Nat) (b : List Wr) : Prop := i ≤ n ∧ (a = bg c i ∨ (i < n ∧ c i = true ∧ a = bg c i + 1 ∧ b = []))
/-- A thread with fences, and without. -/
def LoTh (c : Nat → Bool) (n : Nat) (h h' : Th) : Prop := ∃ i a : Nat, h'.at' = i ∧ h.at' = a ∧ AtR c n i a h'.buf ∧ h.regs = h'.regs ∧ h.eq = h'.eq ∧ h.buf = h'.buf
theorem own_place {c : Nat → Bool} {n i a : Nat} {b : List Wr} (h : AtR c n i a b) (hi : i < n) (hn : ¬ (a = bg c i ∧ c i = true)) : a = bg c (i + 1) - 1 ∧ a + 1 = bg c (i + 1) := by
  have h2 := bg_next c i
  rcases h.2 with h | ⟨-, h3, h4, -⟩
  · have hc : c i = false := by cases e : c i; rfl; exact absurd ⟨h, e⟩ hn
    rw [hc] at h2
    simp at h2
    omega
  · rw [h3] at h2
    simp at h2
    omega
/-- What stands there. -/
theorem row_own {c : Nat → Bool} {ss : List St} {i a : Nat} {b : List Wr} (h : AtR c ss.length i a b) (hi : i < ss.length) (hn : ¬ (a = bg c i ∧ c i = true)) : ((wthN c fenS ss ss.length).map (mv c ss.length))[a]? = some (mv c ss.length ss[i]) := by
  rw [List.getElem?_map, (own_place h hi hn).1, wthN_own c fenS ss hi (Nat.le_refl _)]
  rfl
theorem row_fence {c : Nat → Bool} {ss : List St} {i : Nat} (hi : i < ss.length) (hc : c i = true) : ((wthN c fenS ss ss.length).map (mv c ss.length))[bg c i]? = some fenS := by
  rw [List.getElem?_map, wthN_fen c fenS ss hi (Nat.le_refl _) hc]
  rfl
theorem row_len {c : Nat → Bool} {ss : List St} : ((wthN c fenS ss ss.length).map (mv c ss.length)).length = bg c ss.length := by
  rw [List.length_map, wthN_bg c fenS ss _ (Nat.le_refl _)]
theorem row_end {c : Nat → Bool} {ss : List St} {a : Nat} {b : List Wr} (h : AtR c ss.length ss.length a b) : a = ((wthN c fenS ss ss.length).map (mv c ss.length)).length := by
  rw [row_len]
  rcases h.2 with h | ⟨h, -⟩
  · exact h
  · omega
/-- At its end just if without it is. -/
theorem row_over {c : Nat → Bool} {ss : List St} {i a : Nat} {b : List Wr} (h : AtR c ss.length i a b) : a = ((wthN c fenS ss ss.length).map (mv c ss.length)).length ↔ i = ss.length := by
  constructor
  · intro e
    rw [row_len] at e
    by_cases hi : i < ss.length
    · exfalso
      have h2 := bg_next c i
      have h3 := bg_mono c (show i + 1 ≤ ss.length by omega)
      rcases h.2 with h | ⟨-, h4, h5, -⟩
      · split at h2 <;> omega
      · rw [h4] at h2; simp at h2; omega
    · have := h.1; omega
  · intro e; subst e; exact row_end h
theorem mv_op (c : Nat → Bool) (n : Nat) (x : St) : (mv c n x).op = x.op ∧ (mv c n x).reg = x.reg ∧ (mv c n x).loc = x.loc ∧ (mv c n x).n = x.n := by
  unfold mv; split <;> exact ⟨rfl, rfl, rfl, rfl⟩
theorem jumps_mv (c : Nat → Bool) (n : Nat) (x : St) (e : Bool) : jumps (mv c n x) e = jumps x e := by
  unfold jumps; rw [(mv_op c n x).1]
theorem mv_to {c : Nat → Bool} {n : Nat} {x : St} {e : Bool} (h : jumps x e = true) (h1 : 0 ≤ x.to) (h2 : x.to ≤ n) : (mv c n x).to = ((bg c x.to.toNat : Nat) : Int) := by
  have hj : jmpS x = true := by
    unfold jumps at h
    unfold jmpS
    simp only [Bool.or_eq_true, Bool.and_eq_true, decide_eq_true_eq, beq_iff_eq] at h ⊢
    rcases h with (h | h) | h
    · exact .inl h
    · exact .inr (.inl h.1)
    · exact .inr (.inr h.1)
  unfold mv land bg
  rw [if_pos hj]
  dsimp only
  rw [Int.min_eq_left h2]
  omega
theorem stuck_mv (c : Nat → Bool) (n : Nat) (x : St) {h h' : Th} (hb : h.buf = h'.buf) : stuck (mv c n x) h = stuck x h' := by
  unfold stuck; rw [(mv_op c n x).1, hb]
theorem mem_mv (c : Nat → Bool) (n : Nat) (x : St) {s s' : Sta} {h h' : Th} (hm : s.mem = s'.mem) (hr : h.regs = h'.regs) : tsMm (mv c n x) s h = tsMm x s' h' := by
  obtain ⟨e1, e2, e3, e4⟩ := mv_op c n x
  unfold tsMm ScM.stM
  rw [e1, e2, e3, e4, hm, hr]
/-- Both do their own step. -/
theorem lo_own {c : Nat → Bool} {n i a : Nat} {x : St} {s s' : Sta} {h h' : Th} (hm : s.mem = s'.mem) (hi : i < n) (hi' : h'.at' = i) (ha : h.at' = a) (hat : AtR c n i a h'.buf) (hn : ¬ (a = bg c i ∧ c i = true)) (hr : h.regs = h'.regs) (he : h.eq = h'.eq) (hb : h.buf = h'.buf)
    (hto : ∀ e, jumps x e = true → 0 ≤ x.to ∧ x.to ≤ n) : LoTh c n (tsT (mv c n x) s h) (tsT x s' h') := by
  obtain ⟨e1, e2, e3, e4⟩ := mv_op c n x
  have hp := (own_place hat hi hn).2
  have nx : ∀ {r : List Int} {e : Bool} {b : List Wr}, LoTh c n ⟨h.at' + 1, r, e, b⟩ ⟨h'.at' + 1, r, e, b⟩ := fun {r e b} =>
    ⟨i + 1, a + 1, by show h'.at' + 1 = _; omega, by show h.at' + 1 = _; omega, ⟨by omega, .inl hp⟩, rfl, rfl, rfl⟩
  unfold tsT
  rw [e1]
  by_cases o2 : x.op = 2
  · rw [if_pos o2, if_pos o2, e2, e3, hr, he, hb, hm]; exact nx
  rw [if_neg o2, if_neg o2]
  by_cases o3 : x.op = 3
  · rw [if_pos o3, if_pos o3, e2, e3, hr, he, hb]; exact nx
  rw [if_neg o3, if_neg o3]
  by_cases o4 : x.op = 4
  · rw [if_pos o4, if_pos o4, e3, e4, hr, he, hb]; exact nx
  rw [if_neg o4, if_neg o4]
  have g1 : stR (mv c n x) s.mem h.regs = stR x s'.mem h'.regs := by unfold stR; rw [e1, e2, e3, e4, hm, hr]
  have g2 : stE (mv c n x) h.regs h.eq = stE x h'.regs h'.eq := by unfold stE; rw [e1, e2, e4, hr, he]
  unfold stT
  rw [jumps_mv, g1, g2, he, hb]
  by_cases hj : jumps x h'.eq = true
  · rw [if_pos hj, if_pos hj]
    obtain ⟨t1, t2⟩ := hto _ hj
    exact ⟨x.to.toNat, bg c x.to.toNat, by show x.to = _; omega, mv_to hj t1 t2, ⟨by omega, .inl rfl⟩, rfl, rfl, rfl⟩
  · rw [if_neg hj, if_neg hj]
    exact nx
/-- A fence that was put in: that without stays. -/
theorem lo_fence {c : Nat → Bool} {n i : Nat} {s : Sta} {h h' : Th} (hi : i < n) (hc : c i = true) (hi' : h'.at' = i) (ha : h.at' = ((bg c i : Nat) : Int)) (hr : h.regs = h'.regs) (he : h.eq = h'.eq) (hb : h.buf = h'.buf) (hs : stuck fenS h = false) :
    LoTh c n (tsT fenS s h) h' ∧ tsMm fenS s h = s.mem := by
  have hbe : h.buf = [] := by
    unfold stuck at hs
    simp [fenS] at hs
    exact hs
  refine ⟨⟨i, bg c i + 1, hi', ?_, ⟨by omega, .inr ⟨hi, hc, rfl, by rw [← hb]; exact hbe⟩⟩, ?_, ?_, ?_⟩, rfl⟩
  · show h.at' + 1 = _; omega
  · exact hr
  · exact he
  · exact hb
/-- Drained, both. -/
theorem lo_drain {c : Nat → Bool} {n : Nat} {h h' : Th} {m : List Int} (hl : LoTh c n h h') : LoTh c n ⟨h.at', h.regs, h.eq, drB h.buf m⟩ ⟨h'.at', h'.regs, h'.eq, drB h'.buf m⟩ := by
  obtain ⟨i, a, h1, h2, ⟨h3, h4⟩, h5, h6, h7⟩ := hl
  refine ⟨i, a, h1, h2, ⟨h3, ?_⟩, h5, h6, by show drB h.buf m = drB h'.buf m; rw [h7]⟩
  rcases h4 with h4 | ⟨g1, g2, g3, g4⟩
  · exact .inl h4
  · refine .inr ⟨g1, g2, g3, ?_⟩
    show drB h'.buf m = []
    rw [g4]
    unfold drB
    simp [can]
/-! States. -/
/-- A state with fences, and without. -/
structure LoSt (P : Pg) (g : List Int) (s s' : Sta) : Prop where
  mem : s.mem = s'.mem
  len : s.ths.length = P.ths.length
  len' : s'.ths.length = P.ths.length
  th : ∀ (t : Nat) (h1 : t < s.ths.length) (h2 : t < s'.ths.length) (h3 : t < P.ths.length), LoTh (ch anyS P.ths g t) P.ths[t].length s.ths[t] s'.ths[t]
theorem lo_beg (P : Pg) (g : List Int) : LoSt P g (beg (insP P g)) (beg P) := by
  refine ⟨rfl, by show (List.map _ _).length = _; rw [List.length_map, insP_len], by show (List.map _ _).length = _; rw [List.length_map], fun t h1 h2 h3 => ?_⟩
  have e1 : (beg (insP P g)).ths[t] = begTh := by simp [beg]
  have e2 : (beg P).ths[t] = begTh := by simp [beg]
  rw [e1, e2]
  exact ⟨0, 0, rfl, rfl, ⟨Nat.zero_le _, .inl rfl⟩, rfl, rfl, rfl⟩
theorem lo_set {P : Pg} {g : List Int} {s s' : Sta} {m m' : List Int} {k : Nat} {h h' : Th} (hl : LoSt P g s s') (hm : m = m') (hk : ∀ (h3 : k < P.ths.length), LoTh (ch anyS P.ths g k) P.ths[k].length h h') : LoSt P g ⟨m, s.ths.set k h⟩ ⟨m', s'.ths.set k h'⟩ := by
  refine ⟨hm, by show (List.set _ _ _).length = _; rw [List.length_set]; exact hl.len, by show (List.set _ _ _).length = _; rw [List.length_set]; exact hl.len', fun t h1 h2 h3 => ?_⟩
  show LoTh _ _ (List.set _ _ _)[t] (List.set _ _ _)[t]
  rw [List.getElem_set, List.getElem_set]
  by_cases e : k = t
  · subst e; rw [if_pos rfl, if_pos rfl]; exact hk h3
  · rw [if_neg e, if_neg e]; exact hl.th t (by have := hl.len; omega) (by have := hl.len'; omega) h3
theorem lo_set1 {P : Pg} {g : List Int} {s s' : Sta} {k : Nat} {h : Th} (hl : LoSt P g s s') (hk : ∀ (h2 : k < s'.ths.length) (h3 : k < P.ths.length), LoTh (ch anyS P.ths g k) P.ths[k].length h s'.ths[k]) : LoSt P g ⟨s.mem, s.ths.set k h⟩ s' := by
  refine ⟨hl.mem, by show (List.set _ _ _).length = _; rw [List.length_set]; exact hl.len, hl.len', fun t h1 h2 h3 => ?_⟩
  show LoTh _ _ (List.set _ _ _)[t] _
  rw [List.getElem_set]
  by_cases e : k = t
  · subst e; rw [if_pos rfl]; exact hk h2 h3
  · rw [if_neg e]; exact hl.th t (by have := hl.len; omega) h2 h3
/-- A step, by its row. -/
theorem tst_row {Q : Pg} {s : Sta} {k : Nat} (h1 : k < s.ths.length) (h2 : k < Q.ths.length) : tst Q s (k : Int) false = match Q.ths[k][s.ths[k].at'.toNat]? with
    | some x => if stuck x s.ths[k] then none else some (tsS x s k s.ths[k])
    | none => none := by
  unfold tst
  rw [if_neg (by decide), thO_at h1]
  have e : atS Q s (k : Int) = Q.ths[k][s.ths[k].at'.toNat]? := by
    unfold atS
    rw [if_pos (by omega)]
    simp [h1, h2]
  rw [e]
  cases Q.ths[k][s.ths[k].at'.toNat]? <;> simp
/-- Stands the thread at a fence that was put in? -/
def atF (P : Pg) (g : List Int) (s s' : Sta) (k : Nat) : Prop := ∃ i : Nat, (s'.ths.getD k begTh).at' = i ∧ i < (P.ths.getD k []).length ∧ ch anyS P.ths g k i = true ∧ (s.ths.getD k begTh).at' = ((bg (ch anyS P.ths g k) i : Nat) : Int)
/-- What a step with fences is without. -/
theorem lo_step {P : Pg} (hr : rightP P = true) {g : List Int} {s s' s1 : Sta} {k : Nat} (ho : OkSt P s') (hl : LoSt P g s s') (hk : k < P.ths.length) (h : tst (insP P g) s (k : Int) false = some s1) :
    (atF P g s s' k ∧ (s.ths.getD k begTh).buf = [] ∧ LoSt P g s1 s') ∨ (¬ atF P g s s' k ∧ ∃ s1', tst P s' (k : Int) false = some s1' ∧ LoSt P g s1 s1') := by
  have h1 : k < s.ths.length := by have := hl.len; omega
  have h1' : k < s'.ths.length := by have := hl.len'; omega
  have hq : k < (insP P g).ths.length := by rw [insP_len]; exact hk
  obtain ⟨i, a, hi, ha, hat, er, ee, eb⟩ := hl.th k h1 h1' hk
  have gs : s.ths.getD k begTh = s.ths[k] := by simp [List.getD, h1]
  have gs' : s'.ths.getD k begTh = s'.ths[k] := by simp [List.getD, h1']
  have gp : P.ths.getD k [] = P.ths[k] := by simp [List.getD, hk]
  rw [tst_row h1 hq, insP_row g hk, ha] at h
  have hta : ((a : Nat) : Int).toNat = a := by omega
  rw [hta] at h
  by_cases hin : i < P.ths[k].length
  · by_cases hf : a = bg (ch anyS P.ths g k) i ∧ ch anyS P.ths g k i = true
    · left
      rw [hf.1, row_fence hin hf.2] at h
      dsimp only at h
      cases hst : stuck fenS s.ths[k] with
      | true => rw [hst] at h; cases h
      | false =>
        rw [hst] at h
        simp only [Bool.false_eq_true, if_false] at h
        injection h with h
        subst h
        obtain ⟨f1, f2⟩ := lo_fence (s := s) hin hf.2 hi (by rw [ha, hf.1]) er ee eb hst
        refine ⟨⟨i, by rw [gs']; exact hi, by rw [gp]; exact hin, hf.2, by rw [gs, ha, hf.1]⟩, ?_, ?_⟩
        · rw [gs]
          unfold stuck at hst
          simpa [fenS] using hst
        · rw [tsS_eq, f2]
          exact lo_set1 hl (fun _ _ => f1)
    · right
      refine ⟨?_, ?_⟩
      · rintro ⟨j, j1, j2, j3, j4⟩
        rw [gs', hi] at j1
        have : i = j := by omega
        subst this
        rw [gs, ha] at j4
        exact hf ⟨by omega, j3⟩
      · rw [row_own hat hin hf] at h
        dsimp only at h
        rw [stuck_mv _ _ _ eb] at h
        rw [tst_row h1' hk, hi, show ((i : Nat) : Int).toNat = i by omega, List.getElem?_eq_getElem hin]
        dsimp only
        cases hst : stuck P.ths[k][i] s'.ths[k] with
        | true => rw [hst] at h; cases h
        | false =>
          rw [hst] at h
          simp only [Bool.false_eq_true, if_false] at h ⊢
          injection h with h
          subst h
          refine ⟨_, rfl, ?_⟩
          rw [tsS_eq, tsS_eq]
          refine lo_set hl (mem_mv _ _ _ hl.mem er) (fun _ => lo_own hl.mem hin hi ha hat hf er ee eb (fun e hj => ?_))
          have := (stp_of hr hk hin).to (jumps_op hj)
          omega
  · have : i = P.ths[k].length := by have := hat.1; omega
    subst this
    rw [row_end hat, List.getElem?_eq_none (Nat.le_refl _)] at h
    cases h
end CrM
end Go.Proofs.YtlpjgaeelnlipaaGreat
namespace Go.Proofs.YtlpjgaeelnlipaaGreat
namespace CrM
open CodM (St Pg rightP hReg hLoc)
open BfM (Wr plc)
open ScM
open SlM

theorem tst_in {P : Pg} {s s1 : Sta} {t : Int} {d : Bool} (h : tst P s t d = some s1) : ∃ k : Nat, t = k ∧ k < s.ths.length := by
  by_cases hr : 0 ≤ t ∧ t < (s.ths.length : Int)
  · exact ⟨t.toNat, by omega, by omega⟩
  · rw [tst_out hr] at h; cases h
theorem tst_dr {P : Pg} {s : Sta} {k : Nat} (h1 : k < s.ths.length) : tst P s (k : Int) true = if can s.ths[k].buf s.mem.length then some (drn s k s.ths[k]) else none := by
  unfold tst
  rw [if_pos rfl, thO_at h1]
  simp
/-- A drain, both. -/
theorem lo_dr {P Q : Pg} {g : List Int} {s s' : Sta} {k : Nat} (hl : LoSt P g s s') (hk : k < P.ths.length) :
    (tst Q s (k : Int) true = none ∧ tst P s' (k : Int) true = none) ∨ ∃ s1 s1', tst Q s (k : Int) true = some s1 ∧ tst P s' (k : Int) true = some s1' ∧ LoSt P g s1 s1' := by
  have h1 : k < s.ths.length := by have := hl.len; omega
  have h1' : k < s'.ths.length := by have := hl.len'; omega
  have ht := hl.th k h1 h1' hk
  obtain ⟨i, a, hi, ha, hat, er, ee, eb⟩ := id ht
  rw [tst_dr h1, tst_dr h1', eb, hl.mem]
  cases can s'.ths[k].buf s'.mem.length
  · exact .inl ⟨rfl, rfl⟩
  · refine .inr ⟨_, _, rfl, rfl, ?_⟩
    unfold drn
    rw [hl.mem]
    refine lo_set hl (by rw [eb]) (fun _ => ?_)
    exact lo_drain ht
theorem bg_lt (c : Nat → Bool) {i j : Nat} (h : i < j) : bg c i < bg c j ∧ (c i = true → bg c i + 1 < bg c j) := by
  have h1 := bg_next c i
  have h2 := bg_mono c (show i + 1 ≤ j from h)
  refine ⟨by split at h1 <;> omega, fun hc => ?_⟩
  rw [hc] at h1
  simp at h1
  omega
/-- Is a step of a code with fences one that was put in? -/
def fenB (P : Pg) (g : List Int) (k : Nat) (a : Int) : Bool := (List.range (P.ths.getD k []).length).any fun i => ch anyS P.ths g k i && decide (a = ((bg (ch anyS P.ths g k) i : Nat) : Int))
theorem atF_iff {P : Pg} {g : List Int} {s s' : Sta} {k : Nat} (hl : LoSt P g s s') (hk : k < P.ths.length) : atF P g s s' k ↔ fenB P g k (s.ths.getD k begTh).at' = true := by
  have h1 : k < s.ths.length := by have := hl.len; omega
  have h1' : k < s'.ths.length := by have := hl.len'; omega
  have gs : s.ths.getD k begTh = s.ths[k] := by simp [List.getD, h1]
  have gs' : s'.ths.getD k begTh = s'.ths[k] := by simp [List.getD, h1']
  unfold fenB
  rw [List.any_eq_true]
  constructor
  · rintro ⟨i, j1, j2, j3, j4⟩
    exact ⟨i, List.mem_range.2 j2, by rw [j3, j4]; simp⟩
  · rintro ⟨j, j1, j2⟩
    simp only [Bool.and_eq_true, decide_eq_true_eq] at j2
    have hj := List.mem_range.1 j1
    obtain ⟨i, a, hi, ha, hat, er, ee, eb⟩ := hl.th k h1 h1' hk
    rw [gs, ha] at j2
    have e : i = j := by
      have h4 : a = bg (ch anyS P.ths g k) j := by omega
      rcases Nat.lt_trichotomy i j with h | h | h
      · have h2 := bg_lt (ch anyS P.ths g k) h
        rcases hat.2 with h3 | ⟨-, h3, h5, -⟩
        · omega
        · have := h2.2 h3; omega
      · exact h
      · have h2 := bg_lt (ch anyS P.ths g k) h
        rcases hat.2 with h3 | ⟨-, h3, h5, -⟩ <;> omega
    subst e
    exact ⟨i, by rw [gs']; exact hi, hj, j2.1, by rw [gs, ha]; exact j2.2⟩
/-- The run without the fences. -/
def lowS (P : Pg) (g : List Int) : Sta → List (Int × Bool) → Option (List (Int × Bool))
  | s, [] => some []
  | s, k :: l => match tst (insP P g) s k.1 k.2 with
    | some s1 => (lowS P g s1 l).map fun r => if k.2 || !fenB P g k.1.toNat (s.ths.getD k.1.toNat begTh).at' then k :: r else r
    | none => none
theorem rst_weak (P : Pg) (s : Sta) (t : Int) (d : Bool) : rst P s t d true = tst P s t d := rfl
/-- One pick, lowered. -/
theorem lo_pick {P : Pg} (hr : rightP P = true) {g : List Int} {s s' s1 : Sta} {t : Int} {d : Bool} (ho : OkSt P s') (hl : LoSt P g s s') (h : tst (insP P g) s t d = some s1) :
    ((d || !fenB P g t.toNat (s.ths.getD t.toNat begTh).at') = true ∧ ∃ s1', tst P s' t d = some s1' ∧ LoSt P g s1 s1') ∨ ((d || !fenB P g t.toNat (s.ths.getD t.toNat begTh).at') = false ∧ LoSt P g s1 s') := by
  obtain ⟨k, rfl, h1⟩ := tst_in h
  have hk : k < P.ths.length := by have := hl.len; omega
  rw [show ((k : Nat) : Int).toNat = k by omega]
  cases d with
  | true =>
    rcases lo_dr (Q := insP P g) hl hk with ⟨e, -⟩ | ⟨s2, s2', e1, e2, e3⟩
    · rw [e] at h; cases h
    · rw [e1] at h
      injection h with h
      subst h
      exact .inl ⟨rfl, s2', e2, e3⟩
  | false =>
    rcases lo_step hr ho hl hk h with ⟨f, -, e⟩ | ⟨f, s1', e1, e2⟩
    · right
      rw [(atF_iff hl hk).1 f]
      exact ⟨rfl, e⟩
    · left
      have : fenB P g k (s.ths.getD k begTh).at' = false := by
        cases e : fenB P g k (s.ths.getD k begTh).at'
        · rfl
        · exact absurd ((atF_iff hl hk).2 e) f
      rw [this]
      exact ⟨rfl, s1', e1, e2⟩
/-- What is lowered is a run without the fences. -/
theorem low_run {P : Pg} (hr : rightP P = true) {g : List Int} : ∀ (l : List (Int × Bool)) {s s' : Sta}, OkSt P s' → LoSt P g s s' →
    ((runS (insP P g) true s l).2.2 = false ∧ lowS P g s l = none) ∨ ((runS (insP P g) true s l).2.2 = true ∧ ∃ m s1', lowS P g s l = some m ∧ runS P true s' m = (s1', m.length, true) ∧ LoSt P g (runS (insP P g) true s l).1 s1')
  | [], s, s', ho, hl => .inr ⟨rfl, [], s', rfl, rfl, hl⟩
  | k :: l, s, s', ho, hl => by
    cases e : tst (insP P g) s k.1 k.2 with
    | none => rw [runS_none (by rw [rst_weak]; exact e), lowS, e]; exact .inl ⟨rfl, rfl⟩
    | some s1 =>
      rw [runS_some (by rw [rst_weak]; exact e), lowS, e]
      dsimp only
      rcases lo_pick hr ho hl e with ⟨f, s1', e1, e2⟩ | ⟨f, e2⟩
      · simp only [f, if_true]
        rcases low_run hr l (tst_ok hr ho e1) e2 with ⟨g1, g2⟩ | ⟨g1, m, s2, g2, g3, g4⟩
        · left; rw [g2]; exact ⟨g1, rfl⟩
        · right
          rw [g2]
          refine ⟨g1, k :: m, s2, rfl, ?_, g4⟩
          rw [runS_some (by rw [rst_weak]; exact e1), g3]
          rfl
      · simp only [f, Bool.false_eq_true, if_false]
        rcases low_run hr l ho e2 with ⟨g1, g2⟩ | ⟨g1, m, s2, g2, g3, g4⟩
        · left; rw [g2]; exact ⟨g1, rfl⟩
        · right
          rw [g2]
          exact ⟨g1, m, s2, rfl, g3, g4⟩
end CrM
end Go.Proofs.YtlpjgaeelnlipaaGreat
namespace Go.Proofs.YtlpjgaeelnlipaaGreat
namespace CrM
open CodM (St Pg rightP hReg hLoc)
open BfM (Wr plc)
open ScM
open SlM

/-- Every thread with fences stands ahead of its place's fence. -/
structure LoE (P : Pg) (g : List Int) (s s' : Sta) : Prop where
  lo : LoSt P g s s'
  at' : ∀ (t : Nat) (h1 : t < s.ths.length) (h2 : t < s'.ths.length), s.ths[t].at' = ((bg (ch anyS P.ths g t) s'.ths[t].at'.toNat : Nat) : Int)
end CrM
end Go.Proofs.YtlpjgaeelnlipaaGreat
namespace Go.Proofs.YtlpjgaeelnlipaaGreat
namespace CrM
open CodM (St Pg rightP hReg hLoc)
open BfM (Wr plc)
open ScM
open SlM

def noBuf (s : Sta) (t : Int) : Bool := (s.ths.getD t.toNat begTh).buf.isEmpty
theorem has_ch {P : Pg} {g : List Int} {k i : Nat} (hk : k < P.ths.length) (hi : i < P.ths[k].length) : ch anyS P.ths g k i = has g ((ahd anyS P.ths k + i : Nat) : Int) := by
  unfold ch
  rw [isS_any P.ths hk hi, sl_any P.ths hk (by omega)]
  simp
end CrM
end Go.Proofs.YtlpjgaeelnlipaaGreat
namespace Go.Proofs.YtlpjgaeelnlipaaGreat
open Go.RowKit
open CodM (St Pg rightP)
open BfM (Wr plc)
open ScM
open SlM
open CrM

/-- The slot at which a pick is done, and whether it is crossed there. -/
def wayS (P : Pg) (s : Sta) (t : Int) (d : Bool) : Int × Bool := if d then (-1, false) else (numI P.ths t (s.ths.getD t.toNat begTh).at', !noBuf s t)
theorem num_plain {B : Nat} {vi vt : Value} {ths : List (List St)} (th at' : Int) (w : World) (hvi : ∃ A m c, vi = .slice A m c) (hv : Sss B w vt ths) (hBB : B ≤ w.heap.size) (hl : ths.length ≤ 1000000) (hll : ∀ ss ∈ ths, ss.length ≤ 1000000) :
    Calls Tryz.prog 80 #[.agg #[vi, vt], .int .i64 th, .int .i64 at'] w fun e w' => e = .returned (.int .i64 (numI ths th at')) ∧ Below w.heap.size w w' :=
  callsIn_wide.1 (num_in Fence.wide 10 trivial trivial trivial trivial rfl (by omega) th at' w hvi hv hBB hl hll)
theorem right_small {P : Pg} (h : rightP P = true) : P.ths.length ≤ 1000000 ∧ ∀ ss ∈ P.ths, ss.length ≤ 1000000 := by
  obtain ⟨-, -, h2, h3⟩ := right_ths h
  refine ⟨by omega, fun ss hs => ?_⟩
  obtain ⟨k, hk, rfl⟩ := List.getElem_of_mem hs
  have := h3 k hk
  omega
set_option maxHeartbeats 8000000 in
set_option maxRecDepth 100000 in
theorem crat_any {B : Nat} {v u : Value} {P : Pg} {s : Sta} (t : Int) (d : Bool) (w : World) (hv : PgV B w v P) (hu : StaV B w u s) (hBB : B ≤ w.heap.size) (hp : rightP P = true) (hd : d = false → ∃ k : Nat, t = k ∧ k < s.ths.length) (hn9 : s.ths.length ≤ 9) (hbl : ∀ x ∈ s.ths, x.buf.length ≤ 1000000) :
    Calls Tryz.prog 66 #[v, u, .agg #[.int .i64 t, .bool d]] w fun e w' => e = .returned (.agg #[.int .i64 (wayS P s t d).1, .bool (wayS P s t d).2]) ∧ Below w.heap.size w w' := by
  obtain ⟨hsm1, hsm2⟩ := right_small hp
  obtain ⟨pi, pt, rfl, hpm⟩ := hv
  obtain ⟨um, ut, rfl, hum⟩ := hu
  obtain ⟨⟨P0, d0, rfl, -⟩, hpt⟩ := hpm
  have HSV := Lib.hid hpt
  obtain ⟨P1, d1, rfl, -⟩ := hpt
  have HSS := Lib.hid (fun W (hW : Below w.heap.size w W) (a : Int) => num_plain (vi := .slice P0 P.init.length d0) t a W ⟨_, _, _, rfl⟩ (HSV.out.below (hW.mono hBB)) (Nat.le_trans hBB hW.size) hsm1 hsm2)
  obtain ⟨⟨A7, c7, rfl, -⟩, ⟨A1, c1, rfl, k1, k2, -, k3⟩⟩ := hum
  unfold maxLen at k2
  have HK3 := Lib.hid k3
  have HBL := Lib.hid hbl
  clear hsm1 hsm2 hp k3 hbl HSV
  obtain ⟨W2, hW2⟩ : ∃ W, W = ((((w.alloc (.cells #[.slice P0 P.init.length d0, .slice P1 P.ths.length d1] 25)).alloc (.cells #[.slice A7 s.mem.length c7, .slice A1 s.ths.length c1] 39)).alloc (.cells #[.int .i64 t, .bool d] 53)).alloc (.cells #[.int .i64 0, .bool false] 58)) := ⟨_, rfl⟩
  obtain ⟨gp, hgp⟩ : ∃ g, g = w.heap.size := ⟨_, rfl⟩
  obtain ⟨gs, hgs⟩ : ∃ g, g = w.heap.size + 1 := ⟨_, rfl⟩
  obtain ⟨gk, hgk⟩ : ∃ g, g = w.heap.size + 1 + 1 := ⟨_, rfl⟩
  obtain ⟨gr, hgr⟩ : ∃ g, g = w.heap.size + 1 + 1 + 1 := ⟨_, rfl⟩
  have HX := Lib.hid (show BoxC W2 gp 25 #[.slice P0 P.init.length d0, .slice P1 P.ths.length d1] from by rw [hW2, hgp]; have := (BoxC.new w 25 #[.slice P0 P.init.length d0, .slice P1 P.ths.length d1]) |>.alloc (.cells #[.slice A7 s.mem.length c7, .slice A1 s.ths.length c1] 39) |>.alloc (.cells #[.int .i64 t, .bool d] 53) |>.alloc (.cells #[.int .i64 0, .bool false] 58); (try rw [World.size_alloc] at this); (try rw [World.size_alloc] at this); (try rw [World.size_alloc] at this); exact this)
  have HY := Lib.hid (show BoxC W2 gs 39 #[.slice A7 s.mem.length c7, .slice A1 s.ths.length c1] from by rw [hW2, hgs]; have := (BoxC.new (w.alloc (.cells #[.slice P0 P.init.length d0, .slice P1 P.ths.length d1] 25)) 39 #[.slice A7 s.mem.length c7, .slice A1 s.ths.length c1]) |>.alloc (.cells #[.int .i64 t, .bool d] 53) |>.alloc (.cells #[.int .i64 0, .bool false] 58); (try rw [World.size_alloc] at this); (try rw [World.size_alloc] at this); (try rw [World.size_alloc] at this); exact this)
  have HK := Lib.hid (show BoxC W2 gk 53 #[.int .i64 t, .bool d] from by rw [hW2, hgk]; have := (BoxC.new ((w.alloc (.cells #[.slice P0 P.init.length d0, .slice P1 P.ths.length d1] 25)).alloc (.cells #[.slice A7 s.mem.length c7, .slice A1 s.ths.length c1] 39)) 53 #[.int .i64 t, .bool d]) |>.alloc (.cells #[.int .i64 0, .bool false] 58); (try rw [World.size_alloc] at this); (try rw [World.size_alloc] at this); (try rw [World.size_alloc] at this); exact this)
  have HR := Lib.hid (show BoxC W2 gr 58 #[.int .i64 0, .bool false] from by rw [hW2, hgr]; have := (BoxC.new (((w.alloc (.cells #[.slice P0 P.init.length d0, .slice P1 P.ths.length d1] 25)).alloc (.cells #[.slice A7 s.mem.length c7, .slice A1 s.ths.length c1] 39)).alloc (.cells #[.int .i64 t, .bool d] 53)) 58 #[.int .i64 0, .bool false]); (try rw [World.size_alloc] at this); (try rw [World.size_alloc] at this); (try rw [World.size_alloc] at this); exact this)
  have HG := Lib.hid (show w.heap.size ≤ gr from by omega)
  have HNE := Lib.hid (show gp ≠ gr ∧ gk ≠ gr from by omega)
  have HB2 := Lib.hid (show Below w.heap.size w W2 from by rw [hW2]; exact below_al (below_al (below_al (below_al (Below.refl _ _) _) _) _) _)
  go_enter Tryz.func66, Tryz.ntmps66
  go_upto_region 1 with fail
  rw [← hW2]
  (try rw [← hgr])
  (try rw [← hgk])
  (try rw [← hgs])
  (try rw [← hgp])
  clear hW2 hgr hgk hgs hgp
  have x0 := HX.out.cell 0 _ rfl
  have x1 := HX.out.cell 1 _ rfl
  have y1 := HY.out.cell 1 _ rfl
  have q0 := HK.out.cell 0 _ rfl
  have q1 := HK.out.cell 1 _ rfl
  cases d
  case true =>
    have r0 := HR.out.cell 0 _ rfl
    have r1 := HR.out.cell 1 _ rfl
    have f0 := HR.out.frozen 0
    have f1 := HR.out.frozen 1
    obtain ⟨W9, hW9⟩ : ∃ W, W = (W2.setCell ⟨gr, 0, none⟩ (.int .i64 (-1))).setCell ⟨gr, 1, none⟩ (.bool false) := ⟨_, rfl⟩
    have HR9 := Lib.hid (show BoxC W9 gr 58 #[(.int .i64 (-1)), (.bool false)] from by rw [hW9]; exact (HR.out.set 0 _).set 1 _)
    have HB9 := Lib.hid (show Below w.heap.size w W9 from by rw [hW9]; exact (HB2.out.setCell (p := ⟨gr, 0, none⟩) HG.out _).setCell (p := ⟨gr, 1, none⟩) HG.out _)
    have HW9 := Lib.hid hW9
    clear hW9
    go_wp2_with fail
    rw [← HW9.out]
    clear r0 r1 f0 f1
    have r0 := HR9.out.cell 0 _ rfl
    have r1 := HR9.out.cell 1 _ rfl
    have hz : Tryz.prog.cellsOf 58 = 2 := by kernel_rfl
    refine bodyPost_ret (v := .agg #[(.int .i64 (-1)), (.bool false)]) (by simp [results, Tryz.results66, go_sem, r0, r1, hz]) rfl ?_
    exact ⟨rfl, HB9.out⟩
  obtain ⟨k, rfl, hk⟩ := hd rfl
  clear hd
  obtain ⟨b1, f1, rfl, hb1, hcm⟩ := HK3.out (by omega)
  have HBF := Lib.hid (chain (Below.refl w.heap.size w) HB2.out)
  obtain ⟨vr, vb, a0, a1, a2, a3, hR, hb⟩ := (hcm k hk).below (HB2.out.mono hBB) hb1
  have HW := Lib.hid (show wayS P s (k : Int) false = (numI P.ths k s.ths[k].at', !s.ths[k].buf.isEmpty) from by
    unfold wayS noBuf
    rw [if_neg (by decide), Int.toNat_natCast, List.getD_eq_getElem?_getD, List.getElem?_eq_getElem hk]; rfl)
  have hbn := HBL.out _ (List.getElem_mem hk)
  rcases hth : s.ths[k] with ⟨xa, xr, xe, xb⟩
  rw [hth] at a0 a2 hR hb HW hbn
  dsimp only at a0 a2 hR hb HW hbn
  obtain ⟨Ar, cr, rfl, -⟩ := hR
  obtain ⟨Ab, cb, rfl, -⟩ := hb
  clear hcm hth
  go_upto_region 4 with fail
  obtain ⟨X1, hX1⟩ : ∃ W, W = W2.alloc (.cells #[.int .i64 xa, .slice Ar xr.length cr, .bool xe, .slice Ab xb.length cb] 44) := ⟨_, rfl⟩
  obtain ⟨gt, hgt⟩ : ∃ g, g = W2.heap.size := ⟨_, rfl⟩
  have HQ := Lib.hid (show BoxC X1 gt 44 #[.int .i64 xa, .slice Ar xr.length cr, .bool xe, .slice Ab xb.length cb] from by rw [hX1, hgt]; exact BoxC.new W2 _ _)
  have HX1 := Lib.hid (show Below W2.heap.size W2 X1 from by rw [hX1]; exact below_al (Below.refl _ _) _)
  rw [← hX1]
  (try rw [← hgt])
  have HGT := Lib.hid hgt
  clear hX1 hgt a0 a1 a2 a3 x0 x1 y1 q0 q1
  have HBX := Lib.hid (chain HB2.out HX1.out)
  have HRX := Lib.hid (HR.out.below HX1.out HR.out.lt)
  have x0 := (HX.out.below HX1.out HX.out.lt).cell 0 _ rfl
  have x1 := (HX.out.below HX1.out HX.out.lt).cell 1 _ rfl
  have q0 := (HK.out.below HX1.out HK.out.lt).cell 0 _ rfl
  have a0 := HQ.out.cell 0 _ rfl
  have a3 := HQ.out.cell 3 _ rfl
  have HXX := Lib.hid (HX.out.below HX1.out HX.out.lt)
  have HKX := Lib.hid (HK.out.below HX1.out HK.out.lt)
  have HNT := Lib.hid (show gt ≠ gr from by have := HR.out.lt; have := HGT.out; omega)
  have HNN := Lib.hid (show (decide (0 < xb.length)) = !xb.isEmpty from by cases xb <;> simp)
  obtain ⟨bn, hbn2⟩ : ∃ n, n = xb.length := ⟨_, rfl⟩
  rw [← hbn2] at a3 hbn HNN HQ
  have HQB := Lib.hid hbn2
  clear hbn2
  refine wp_region_held_drew (S := (fun w' => (w'.cell? ⟨gp, 0, none⟩ = some (.slice P0 P.init.length d0) ∧ w'.cell? ⟨gp, 1, none⟩ = some (.slice P1 P.ths.length d1) ∧ w'.cell? ⟨gk, 0, none⟩ = some (.int .i64 (k : Int)) ∧ w'.cell? ⟨gt, 0, none⟩ = some (.int .i64 xa) ∧ w'.cell? ⟨gt, 3, none⟩ = some (.slice Ab bn cb) ∧ True) ∧ Below w.heap.size w w')) (by kernel_rfl) ⟨⟨x0, x1, q0, a0, a3, trivial⟩, below_drewN HBX.out 1⟩ (fun hHeld => ?_)
  obtain ⟨Xs, hXs⟩ : ∃ W, W = X1.drew := ⟨_, rfl⟩
  have HXs := Lib.hid (show Below X1.heap.size X1 Xs from by rw [hXs]; exact below_drewN (Below.refl _ _) 1)
  rw [← hXs] at hHeld ⊢
  clear hXs
  refine wtk 0 ?_ ?_ ?_
  rotate_left
  · intro w hSw; (try dsimp only at hSw); go_simp; (try with_reducible rfl)
  (try simp only [Act.put, pt8])
  refine wtk 1 ?_ ?_ ?_
  rotate_left
  · intro w hSw; (try dsimp only at hSw); go_simp; (try with_reducible rfl)
  (try simp only [Act.put, pt8])
  refine wtk 2 ?_ ?_ ?_
  rotate_left
  · intro w hSw; (try dsimp only at hSw); go_simp; (try with_reducible rfl)
  (try simp only [Act.put, pt8])
  refine wtk 3 ?_ ?_ ?_
  rotate_left
  · intro w hSw; (try dsimp only at hSw); go_simp; (try with_reducible rfl)
  (try simp only [Act.put, pt8])
  refine wtk 4 ?_ ?_ ?_
  rotate_left
  · intro w hSw; (try dsimp only at hSw); go_simp; (try with_reducible rfl)
  (try simp only [Act.put, pt8])
  refine wtk 6 ?_ ?_ ?_
  rotate_left
  · intro w hSw; (try dsimp only at hSw); go_simp; (try with_reducible rfl)
  (try simp only [Act.put, pt8])
  refine wtk 7 ?_ ?_ ?_
  rotate_left
  · intro w hSw; (try dsimp only at hSw); go_simp; (try with_reducible rfl)
  (try simp only [Act.put, pt8])
  refine wtk 8 ?_ ?_ ?_
  rotate_left
  · intro w hSw; (try dsimp only at hSw); go_simp; (try with_reducible rfl)
  (try simp only [Act.put, pt8])
  refine wtk 9 ?_ ?_ ?_
  rotate_left
  · intro w hSw; (try dsimp only at hSw); go_simp; (try with_reducible rfl)
  (try simp only [Act.put, pt8])
  refine wpAnyH_ready (rs := [5]) (by kernel_rfl) (by simp) ?_
  refine AllReadyH.cons rfl (fun K hK => ?_) AllReadyH.nil
  go_simp
  refine (HSS.out _ hHeld.2 xa).mono ?_
  rintro e Xc ⟨rfl, hb⟩
  have HBC := Lib.hid (chain HXs.out hb)
  refine hK.out _ _ ⟨⟨kc HBC.out x0, kc HBC.out x1, kc HBC.out q0, kc HBC.out a0, kc HBC.out a3, trivial⟩, chain HBX.out HBC.out⟩ (fun hHeld => ?_)
  clear hb
  clear hK K
  (try simp only [Act.put, pt8])
  refine wtk 10 ?_ ?_ ?_
  rotate_left
  · intro w hSw; (try dsimp only at hSw); go_simp; (try with_reducible rfl)
  (try simp only [Act.put, pt8])
  refine wpAnyH_ready (rs := [11]) (by kernel_rfl) (by simp) ?_
  refine AllReadyH.cons rfl (fun K hK => ?_) AllReadyH.nil
  have HRC := Lib.hid (HRX.out.below HBC.out HRX.out.lt)
  have e0 := HRC.out.frozen 0
  have e1 := HRC.out.frozen 1
  have c0 := HRC.out.cell 0 _ rfl
  have c1 := HRC.out.cell 1 _ rfl
  obtain ⟨W9, hW9⟩ : ∃ W, W = (Xc.setCell ⟨gr, 0, none⟩ (.int .i64 (numI P.ths k xa))).setCell ⟨gr, 1, none⟩ (.bool (decide (0 < bn))) := ⟨_, rfl⟩
  have HR9 := Lib.hid (show BoxC W9 gr 58 #[.int .i64 (numI P.ths k xa), .bool (decide (0 < bn))] from by rw [hW9]; exact (HRC.out.set 0 _).set 1 _)
  have HB9 := Lib.hid (show Below w.heap.size w W9 from by rw [hW9]; exact ((chain HBX.out HBC.out).setCell (p := ⟨gr, 0, none⟩) HG.out _).setCell (p := ⟨gr, 1, none⟩) HG.out _)
  have HS9 := Lib.hid (show (W9.cell? ⟨gp, 0, none⟩ = some (.slice P0 P.init.length d0) ∧ W9.cell? ⟨gp, 1, none⟩ = some (.slice P1 P.ths.length d1) ∧ W9.cell? ⟨gk, 0, none⟩ = some (.int .i64 (k : Int)) ∧ W9.cell? ⟨gt, 0, none⟩ = some (.int .i64 xa) ∧ W9.cell? ⟨gt, 3, none⟩ = some (.slice Ab bn cb) ∧ True) ∧ Below w.heap.size w W9 from ⟨by rw [hW9]; exact ⟨(((HXX.out.below HBC.out HXX.out.lt).other HNE.out.1 0 _).other HNE.out.1 1 _).cell 0 _ rfl, (((HXX.out.below HBC.out HXX.out.lt).other HNE.out.1 0 _).other HNE.out.1 1 _).cell 1 _ rfl, (((HKX.out.below HBC.out HKX.out.lt).other HNE.out.2 0 _).other HNE.out.2 1 _).cell 0 _ rfl, (((HQ.out.below HBC.out HQ.out.lt).other HNT.out 0 _).other HNT.out 1 _).cell 0 _ rfl, (((HQ.out.below HBC.out HQ.out.lt).other HNT.out 0 _).other HNT.out 1 _).cell 3 _ rfl, trivial⟩, HB9.out⟩)
  have HW9 := Lib.hid hW9
  clear hW9
  go_simp
  rw [← HW9.out]
  refine hK.out _ _ HS9.out (fun hHeld => ?_)
  clear e0 e1 c0 c1
  clear hK K
  (try simp only [Act.put, pt8])
  refine wpAnyH_done (by kernel_rfl) ?_ _
  clear hHeld x0 x1 q0 a0 a3
  have r0 := HR9.out.cell 0 _ rfl
  have r1 := HR9.out.cell 1 _ rfl
  have hz : Tryz.prog.cellsOf 58 = 2 := by kernel_rfl
  go_wp2
  refine bodyPost_ret (v := .agg #[.int .i64 (numI P.ths k xa), .bool (decide (0 < bn))]) (by simp [results, Tryz.results66, go_sem, r0, r1, hz]) rfl ?_
  exact ⟨by rw [HW.out, HNN.out], HB9.out⟩
end Go.Proofs.YtlpjgaeelnlipaaGreat
namespace Go.Proofs.YtlpjgaeelnlipaaGreat
open CodM (St Pg rightP)
open BfM (Wr plc)
open ScM
open SlM
open CrM

/-- Each pick of a run with its way, up to the first that can't be done. -/
def wysS (P : Pg) : Sta → List (Int × Bool) → List ((Int × Bool) × (Int × Bool))
  | _, [] => []
  | s, k :: l => match rst P s k.1 k.2 true with
    | none => []
    | some s' => (k, wayS P s k.1 k.2) :: wysS P s' l
theorem wys_len (P : Pg) : ∀ (l : List (Int × Bool)) (s : Sta), (wysS P s l).length = (runS P true s l).2.1
  | [], s => rfl
  | k :: l, s => by
    cases h : rst P s k.1 k.2 true with
    | none => rw [runS_none h]; unfold wysS; rw [h]; rfl
    | some s' => rw [runS_some h]; unfold wysS; rw [h]; simp [wys_len P l s']
theorem wys_at (P : Pg) : ∀ (l : List (Int × Bool)) (s a b : Sta) (k : Nat) (hk : k < l.length), runS P true s (l.take k) = (a, k, true) → rst P a l[k].1 l[k].2 true = some b → (wysS P s l)[k]? = some (l[k], wayS P a l[k].1 l[k].2)
  | [], _, _, _, _, hk, _, _ => absurd hk (by simp)
  | x :: l, s, a, b, 0, hk, h1, h2 => by
    have : a = s := by have := congrArg (·.1) h1; exact this.symm
    subst this
    unfold wysS
    rw [show rst P a x.1 x.2 true = some b from h2]; rfl
  | x :: l, s, a, b, k + 1, hk, h1, h2 => by
    rw [List.take_succ_cons] at h1
    cases h : rst P s x.1 x.2 true with
    | none => rw [runS_none h] at h1; exact absurd (congrArg (·.2.2) h1) (by simp)
    | some s' =>
      rw [runS_some h] at h1
      rcases hq : runS P true s' (l.take k) with ⟨q1, q2, q3⟩
      rw [hq] at h1
      injection h1 with e1 e2
      injection e2 with e2 e3
      dsimp only at e1 e2 e3
      have hr : runS P true s' (l.take k) = (a, k, true) := by rw [hq, e1, e3, show q2 = k from by omega]
      unfold wysS
      rw [h]
      exact wys_at P l s' a b k (by simpa using hk) hr h2
theorem wys_stop (P : Pg) {l : List (Int × Bool)} {s a : Sta} {k : Nat} (hk : k < l.length) (h : runS P true s (l.take k) = (a, k, true)) (h2 : rst P a l[k].1 l[k].2 true = none) : (wysS P s l).length = k := by
  rw [wys_len, runS_halt hk h h2]
theorem wys_all (P : Pg) {l : List (Int × Bool)} {s a : Sta} (h : runS P true s (l.take l.length) = (a, l.length, true)) : (wysS P s l).length = l.length := by
  rw [List.take_length] at h
  rw [wys_len, h]
/-- All of them are told just if all can be done. -/
theorem wys_is (P : Pg) (l : List (Int × Bool)) (s : Sta) : decide ((wysS P s l).length = l.length) = (runS P true s l).2.2 := by
  rw [wys_len, (runS_many l s).2]
theorem wys_lt (P : Pg) (l : List (Int × Bool)) (s : Sta) : (wysS P s l).length ≤ l.length := by
  rw [wys_len]; exact (runS_many l s).1
end Go.Proofs.YtlpjgaeelnlipaaGreat
namespace Go.Proofs.YtlpjgaeelnlipaaGreat
open Go.RowKit
open CodM (St Pg rightP)
open BfM (Wr plc)
open ScM

set_option maxHeartbeats 4000000 in
set_option maxRecDepth 100000 in
theorem tthread_any {B : Nat} {v : Value} {P : Pg} (t : Int) (w : World) (hv : PgV B w v P) (hBB : B ≤ w.heap.size) :
    Calls Tryz.prog 93 #[v, .int .i64 t] w fun e w' => e = .returned (.bool (decide (0 ≤ t ∧ t < (P.ths.length : Int)))) ∧ Below w.heap.size w w' := by
  obtain ⟨pi, pt, rfl, ⟨P0, d0, rfl, -⟩, ⟨P1, d1, rfl, l1, l2, -⟩⟩ := hv
  unfold maxLen at l2
  have hB := below_al (Below.refl w.heap.size w) (.cells #[.slice P0 P.init.length d0, .slice P1 P.ths.length d1] 25)
  have HP := Lib.hid (PgBox.at (w := w) rfl (.slice P0 P.init.length d0) (.slice P1 P.ths.length d1) 25)
  obtain ⟨x0, x1⟩ := HP.out
  by_cases h0 : 0 ≤ t
  · by_cases h1 : t < (P.ths.length : Int)
    · rw [decide_eq_true (show 0 ≤ t ∧ t < (P.ths.length : Int) from ⟨h0, h1⟩)]
      go_enter Tryz.func93, Tryz.ntmps93
      go_wp2
      go_ret
      exact ⟨rfl, hB⟩
    · rw [decide_eq_false (show ¬ (0 ≤ t ∧ t < (P.ths.length : Int)) from fun h => h1 h.2)]
      go_enter Tryz.func93, Tryz.ntmps93
      go_wp2
      go_ret
      exact ⟨rfl, hB⟩
  · rw [decide_eq_false (show ¬ (0 ≤ t ∧ t < (P.ths.length : Int)) from fun h => h0 h.1)]
    go_enter Tryz.func93, Tryz.ntmps93
    go_wp2
    go_ret
    exact ⟨rfl, hB⟩
/-- A step that waits. -/
def wts (x : St) : Bool := decide (x.op = 6) || decide (x.op = 5)
set_option maxHeartbeats 4000000 in
set_option maxRecDepth 100000 in
theorem twaits_any (x : St) (w : World) :
    Calls Tryz.prog 94 #[.agg #[.int .i64 x.op, .int .i64 x.reg, .int .i64 x.loc, .int .i64 x.n, .int .i64 x.to]] w fun e w' => e = .returned (.bool (wts x)) ∧ Below w.heap.size w w' := by
  obtain ⟨o, r, l, n, t⟩ := x
  have hB := below_al (Below.refl w.heap.size w) (.cells #[.int .i64 o, .int .i64 r, .int .i64 l, .int .i64 n, .int .i64 t] 75)
  have x0 : (w.alloc (.cells #[.int .i64 o, .int .i64 r, .int .i64 l, .int .i64 n, .int .i64 t] 75)).cell? ⟨w.heap.size, 0, none⟩ = some (.int .i64 o) := by rw [World.cell?_alloc_at _ _ _ _ rfl]; rfl
  unfold wts
  dsimp only
  by_cases h6 : o = 6
  · subst h6
    go_enter Tryz.func94, Tryz.ntmps94
    go_wp2
    go_ret
    exact ⟨rfl, hB⟩
  by_cases h5 : o = 5
  · subst h5
    go_enter Tryz.func94, Tryz.ntmps94
    go_wp2
    go_ret
    exact ⟨rfl, hB⟩
  have b6 : (o == 6) = false := beq_eq_false_iff_ne.2 h6
  have b5 : (o == 5) = false := beq_eq_false_iff_ne.2 h5
  rw [decide_eq_false h6, decide_eq_false h5]
  go_enter Tryz.func94, Tryz.ntmps94
  go_wp2
  go_ret
  refine ⟨?_, hB⟩
  simp [b6, b5]
set_option maxHeartbeats 8000000 in
set_option maxRecDepth 100000 in
theorem tcan_any {B : Nat} {v u : Value} {P : Pg} {s : Sta} (t : Int) (d : Bool) (w : World) (hv : PgV B w v P) (hu : StaV B w u s) (hBB : B ≤ w.heap.size) (ho : OkSt P s) :
    Calls Tryz.prog 76 #[v, u, .agg #[.int .i64 t, .bool d]] w fun e w' => e = .returned (.bool (tst P s t d).isSome) ∧ Below w.heap.size w w' := by
  have HTH := Lib.hid (fun W (hW : Below w.heap.size w W) => tthread_any t W ((hv.below (hW.mono hBB)).more (Nat.le_trans hBB hW.size)) (Nat.le_refl _))
  obtain ⟨pi, pt, rfl, hpm⟩ := hv
  obtain ⟨um, ut, rfl, hum⟩ := hu
  obtain ⟨⟨P0, d0, rfl, -⟩, ⟨P1, d1, rfl, l1, l2, l3⟩⟩ := hpm
  obtain ⟨⟨A7, c7, rfl, -⟩, ⟨A1, c1, rfl, m1, m2, -, m3⟩⟩ := hum
  unfold maxLen at l2 m2
  have HL3 := Lib.hid l3
  have HM3 := Lib.hid m3
  have HO := Lib.hid ho
  have HTL := Lib.hid ho.ths
  clear l3 m3 ho
  obtain ⟨W3, hW3⟩ : ∃ W, W = ((w.alloc (.cells #[.slice P0 P.init.length d0, .slice P1 P.ths.length d1] 25)).alloc (.cells #[.slice A7 s.mem.length c7, .slice A1 s.ths.length c1] 39)).alloc (.cells #[.int .i64 t, .bool d] 53) := ⟨_, rfl⟩
  obtain ⟨gp, hgp⟩ : ∃ g, g = w.heap.size := ⟨_, rfl⟩
  obtain ⟨gs, hgs⟩ : ∃ g, g = w.heap.size + 1 := ⟨_, rfl⟩
  obtain ⟨gk, hgk⟩ : ∃ g, g = w.heap.size + 1 + 1 := ⟨_, rfl⟩
  have HX := Lib.hid (show BoxC W3 gp 25 #[.slice P0 P.init.length d0, .slice P1 P.ths.length d1] from by rw [hW3, hgp]; exact ((BoxC.new w _ _).alloc _).alloc _)
  have HY := Lib.hid (show BoxC W3 gs 39 #[.slice A7 s.mem.length c7, .slice A1 s.ths.length c1] from by rw [hW3, hgs]; have := (BoxC.new (w.alloc (.cells #[.slice P0 P.init.length d0, .slice P1 P.ths.length d1] 25)) 39 #[.slice A7 s.mem.length c7, .slice A1 s.ths.length c1]).alloc (.cells #[.int .i64 t, .bool d] 53); rw [World.size_alloc] at this; exact this)
  have HK := Lib.hid (show BoxC W3 gk 53 #[.int .i64 t, .bool d] from by rw [hW3, hgk]; have := BoxC.new ((w.alloc (.cells #[.slice P0 P.init.length d0, .slice P1 P.ths.length d1] 25)).alloc (.cells #[.slice A7 s.mem.length c7, .slice A1 s.ths.length c1] 39)) 53 #[.int .i64 t, .bool d]; rw [World.size_alloc, World.size_alloc] at this; exact this)
  have HB3 := Lib.hid (show Below w.heap.size w W3 from by rw [hW3]; exact below_al (below_al (below_al (Below.refl _ _) _) _) _)
  have x0 := HX.out.cell 0 _ rfl
  have x1 := HX.out.cell 1 _ rfl
  have k0 := HK.out.cell 0 _ rfl
  go_enter Tryz.func76, Tryz.ntmps76
  go_upto_region 1 with fail
  rw [← hW3]
  (try rw [← hgk])
  (try rw [← hgs])
  (try rw [← hgp])
  clear hW3 hgk hgs hgp
  go_wp2_with fail
  refine (HTH.out _ HB3.out).mono ?_
  rintro e w1 ⟨rfl, hb1⟩
  have HB1 := Lib.hid hb1
  have HBF := Lib.hid (chain HB3.out hb1)
  clear x0 x1 k0 HTH hb1
  by_cases hr : 0 ≤ t ∧ t < (P.ths.length : Int)
  case neg =>
    have HTO := Lib.hid (show tst P s t d = none from tst_out (by rw [HTL.out]; exact hr))
    rw [decide_eq_false hr]
    clear hr
    go_wp2
    go_ret
    exact ⟨by rw [HTO.out]; rfl, HBF.out⟩
  rw [decide_eq_true hr]
  obtain ⟨hr1, hr2⟩ := hr
  obtain ⟨k, rfl⟩ : ∃ k : Nat, t = k := ⟨t.toNat, by omega⟩
  have hkt : k < P.ths.length := by omega
  have hks : k < s.ths.length := by rw [HTL.out]; exact hkt
  have HTD := Lib.hid (tst_drain HO.out hks)
  have HTS := Lib.hid (fun h3 => tst_step (P := P) (s := s) hks hkt h3)
  have HTE := Lib.hid (atS_iff HO.out hks hkt)
  have HTN := Lib.hid (fun h => tst_end (P := P) (s := s) (t := (k : Int)) h)
  have hlo := (HO.out.th k hks hkt).lo
  obtain ⟨b1, f1, rfl, hb1, hc1⟩ := HM3.out (by omega)
  obtain ⟨vr, vb, a0, a1, a2, a3, hRg, hW⟩ := hc1 k hks
  obtain ⟨b2, f2, rfl, hb2, hc2⟩ := HL3.out (by omega)
  obtain ⟨vs, s0, hS⟩ := hc2 k hkt
  replace a0 := ((HBF.out.mono hBB).cell (p := ⟨b1, f1 + k * 4, none⟩) hb1).trans a0
  replace a1 := ((HBF.out.mono hBB).cell (p := ⟨b1, f1 + k * 4 + 1, none⟩) hb1).trans a1
  replace a2 := ((HBF.out.mono hBB).cell (p := ⟨b1, f1 + k * 4 + 2, none⟩) hb1).trans a2
  replace a3 := ((HBF.out.mono hBB).cell (p := ⟨b1, f1 + k * 4 + 3, none⟩) hb1).trans a3
  replace s0 := ((HBF.out.mono hBB).cell (p := ⟨b2, f2 + k, none⟩) hb2).trans s0
  replace hS := hS.below (HBF.out.mono hBB)
  generalize hth : s.ths[k] = h at *
  generalize hss : P.ths[k] = ss at *
  obtain ⟨xa, xr, xe, xb⟩ := h
  dsimp only at *
  obtain ⟨Ab, cb, rfl, q1, q2, -⟩ := hW
  obtain ⟨Ar, cr, rfl, -⟩ := hRg
  obtain ⟨As, cs, rfl, r1, r2, hS3⟩ := hS
  unfold maxLen at q2 r2
  have x0 := (HX.out.below HB1.out HX.out.lt).cell 0 _ rfl
  have x1 := (HX.out.below HB1.out HX.out.lt).cell 1 _ rfl
  have y0 := (HY.out.below HB1.out HY.out.lt).cell 0 _ rfl
  have y1 := (HY.out.below HB1.out HY.out.lt).cell 1 _ rfl
  have k0 := (HK.out.below HB1.out HK.out.lt).cell 0 _ rfl
  have k1 := (HK.out.below HB1.out HK.out.lt).cell 1 _ rfl
  clear hc1 hc2
  go_upto_region 3 with fail
  refine wp_region_held_drew (S := (fun w' => (w'.cell? ⟨gs, 1, none⟩ = some (.slice (some ⟨b1, f1, none⟩) s.ths.length c1) ∧ w'.cell? ⟨gp, 1, none⟩ = some (.slice (some ⟨b2, f2, none⟩) P.ths.length d1) ∧ w'.cell? ⟨gk, 0, none⟩ = some (.int .i64 (k : Int)) ∧ w'.cell? ⟨b1, f1 + k * 4, none⟩ = some (.int .i64 xa) ∧ w'.cell? ⟨b1, f1 + k * 4 + 1, none⟩ = some (.slice Ar xr.length cr) ∧ w'.cell? ⟨b1, f1 + k * 4 + 2, none⟩ = some (.bool xe) ∧ w'.cell? ⟨b1, f1 + k * 4 + 3, none⟩ = some (.slice Ab xb.length cb) ∧ w'.cell? ⟨b2, f2 + k, none⟩ = some (.slice As ss.length cs)) ∧ Below w1.heap.size w1 w')) (by kernel_rfl) ⟨⟨y1, x1, k0, a0, a1, a2, a3, s0⟩, below_drewN (Below.refl _ _) 1⟩ (fun hHeld => ?_)
  obtain ⟨Xs, hXs⟩ : ∃ W, W = w1.drew := ⟨_, rfl⟩
  have HXs := Lib.hid (show Below w1.heap.size w1 Xs from by rw [hXs]; exact below_drewN (Below.refl _ _) 1)
  rw [← hXs] at hHeld ⊢
  clear hXs
  refine wtk 0 ?_ ?_ ?_
  rotate_left
  · intro w hSw; (try dsimp only at hSw); go_simp; (try with_reducible rfl)
  (try simp only [Act.put, pt8])
  refine wtk 1 ?_ ?_ ?_
  rotate_left
  · intro w hSw; (try dsimp only at hSw); go_simp; (try with_reducible rfl)
  (try simp only [Act.put, pt8])
  refine wtk 2 ?_ ?_ ?_
  rotate_left
  · intro w hSw; (try dsimp only at hSw); go_simp; (try with_reducible rfl)
  (try simp only [Act.put, pt8])
  refine wtk 3 ?_ ?_ ?_
  rotate_left
  · intro w hSw; (try dsimp only at hSw); go_simp; (try with_reducible rfl)
  (try simp only [Act.put, pt8])
  refine wtk 4 ?_ ?_ ?_
  rotate_left
  · intro w hSw; (try dsimp only at hSw); go_simp; (try with_reducible rfl)
  (try simp only [Act.put, pt8])
  refine wtk 5 ?_ ?_ ?_
  rotate_left
  · intro w hSw; (try dsimp only at hSw); go_simp; (try with_reducible rfl)
  (try simp only [Act.put, pt8])
  refine wtk 6 ?_ ?_ ?_
  rotate_left
  · intro w hSw; (try dsimp only at hSw); go_simp; (try with_reducible rfl)
  (try simp only [Act.put, pt8])
  refine wtk 7 ?_ ?_ ?_
  rotate_left
  · intro w hSw; (try dsimp only at hSw); go_simp; (try with_reducible rfl)
  (try simp only [Act.put, pt8])
  refine wtk 8 ?_ ?_ ?_
  rotate_left
  · intro w hSw; (try dsimp only at hSw); go_simp; (try with_reducible rfl)
  (try simp only [Act.put, pt8])
  refine wtk 9 ?_ ?_ ?_
  rotate_left
  · intro w hSw; (try dsimp only at hSw); go_simp; (try with_reducible rfl)
  (try simp only [Act.put, pt8])
  refine wtk 10 ?_ ?_ ?_
  rotate_left
  · intro w hSw; (try dsimp only at hSw); go_simp; (try with_reducible rfl)
  (try simp only [Act.put, pt8])
  refine wtk 11 ?_ ?_ ?_
  rotate_left
  · intro w hSw; (try dsimp only at hSw); go_simp; (try with_reducible rfl)
  (try simp only [Act.put, pt8])
  refine wpAnyH_ready (rs := [12]) (by kernel_rfl) (by simp) ?_
  refine AllReadyH.cons rfl (fun K hK => ?_) AllReadyH.nil
  have HBA := Lib.hid (below_al hHeld.2 (.cells #[.int .i64 0, .slice none 0 0, .bool false, .slice none 0 0] 44))
  go_simp
  refine hK.out _ _ ⟨⟨kc HBA.out y1, kc HBA.out x1, kc HBA.out k0, kc HBA.out a0, kc HBA.out a1, kc HBA.out a2, kc HBA.out a3, kc HBA.out s0⟩, HBA.out⟩ (fun hHeld => ?_)
  clear hK K
  (try simp only [Act.put, pt8])
  obtain ⟨Xa, hXa⟩ : ∃ W, W = Xs.alloc (.cells #[.int .i64 0, .slice none 0 0, .bool false, .slice none 0 0] 44) := ⟨_, rfl⟩
  obtain ⟨gx, hgx⟩ : ∃ g, g = Xs.heap.size := ⟨_, rfl⟩
  rw [← hXa] at hHeld HBA ⊢
  (try rw [← hgx])
  have HQa := Lib.hid (show BoxC Xa gx 44 #[.int .i64 0, .slice none 0 0, .bool false, .slice none 0 0] from by rw [hXa, hgx]; exact BoxC.new Xs _ _)
  have HGa := Lib.hid (show w1.heap.size ≤ gx from by rw [hgx]; exact HXs.out.size)
  clear hXa hgx
  refine wpAnyH_ready (rs := [13]) (by kernel_rfl) (by simp) ?_
  refine AllReadyH.cons rfl (fun K hK => ?_) AllReadyH.nil
  have e0 := HQa.out.cell 0 _ rfl
  have e1 := HQa.out.cell 1 _ rfl
  have e2 := HQa.out.cell 2 _ rfl
  have e3 := HQa.out.cell 3 _ rfl
  have u0 := HQa.out.frozen 0
  have u1 := HQa.out.frozen 1
  have u2 := HQa.out.frozen 2
  have u3 := HQa.out.frozen 3
  have HQs := Lib.hid (show BoxC ((((Xa.setCell ⟨gx, 0, none⟩ (.int .i64 xa)).setCell ⟨gx, 1, none⟩ (.slice Ar xr.length cr)).setCell ⟨gx, 2, none⟩ (.bool xe)).setCell ⟨gx, 3, none⟩ (.slice Ab xb.length cb)) gx 44 #[.int .i64 xa, .slice Ar xr.length cr, .bool xe, .slice Ab xb.length cb] from (((HQa.out.set 0 _).set 1 _).set 2 _).set 3 _)
  have HBS := Lib.hid (show Below w1.heap.size w1 ((((Xa.setCell ⟨gx, 0, none⟩ (.int .i64 xa)).setCell ⟨gx, 1, none⟩ (.slice Ar xr.length cr)).setCell ⟨gx, 2, none⟩ (.bool xe)).setCell ⟨gx, 3, none⟩ (.slice Ab xb.length cb)) from (((HBA.out.setCell (p := ⟨gx, 0, none⟩) HGa.out _).setCell (p := ⟨gx, 1, none⟩) HGa.out _).setCell (p := ⟨gx, 2, none⟩) HGa.out _).setCell (p := ⟨gx, 3, none⟩) HGa.out _)
  go_simp
  refine hK.out _ _ ⟨⟨kc HBS.out y1, kc HBS.out x1, kc HBS.out k0, kc HBS.out a0, kc HBS.out a1, kc HBS.out a2, kc HBS.out a3, kc HBS.out s0⟩, HBS.out⟩ (fun hHeld => ?_)
  clear hK K
  (try simp only [Act.put, pt8])
  clear e0 e1 e2 e3 u0 u1 u2 u3
  refine wpAnyH_ready (rs := [14]) (by kernel_rfl) (by simp) ?_
  refine AllReadyH.cons rfl (fun K hK => ?_) AllReadyH.nil
  go_simp
  refine hK.out _ _ hHeld (fun hHeld => ?_)
  clear hK K
  (try simp only [Act.put, pt8])
  refine wpAnyH_done (by kernel_rfl) ?_ _
  obtain ⟨X2, hX2⟩ : ∃ W, W = ((((Xa.setCell ⟨gx, 0, none⟩ (.int .i64 xa)).setCell ⟨gx, 1, none⟩ (.slice Ar xr.length cr)).setCell ⟨gx, 2, none⟩ (.bool xe)).setCell ⟨gx, 3, none⟩ (.slice Ab xb.length cb)) := ⟨_, rfl⟩
  rw [← hX2] at HQs HBS hHeld ⊢
  have HBX := Lib.hid (show Below w.heap.size w X2 from chain HBF.out HBS.out)
  have HB12 := Lib.hid HBS.out
  clear hX2 HQa HBA HBS HXs HGa hHeld y0 y1 x0 x1 k0 k1 a0 a1 a2 a3 s0
  have HK2 := Lib.hid (HK.out.below (chain HB1.out HB12.out) HK.out.lt)
  have k1 := HK2.out.cell 1 _ rfl
  have e0 := HQs.out.cell 0 _ rfl
  have e3 := HQs.out.cell 3 _ rfl
  have HRES := Lib.hid (show (tst P s (k : Int) d).isSome = if d then decide (0 < xb.length) else (decide (xa < ss.length) && (decide (xb.length = 0) || !(match ss[xa.toNat]? with | some x => wts x | none => false))) from by
    have hbe : xb.isEmpty = decide (xb.length = 0) := by cases xb <;> simp
    cases d
    · rw [if_neg (by decide)]
      by_cases h3 : xa.toNat < ss.length
      · have h3' : xa < (ss.length : Int) := by omega
        rw [HTS.out h3, decide_eq_true h3', List.getElem?_eq_getElem h3]
        unfold stuck wts
        dsimp only
        rw [hbe]
        by_cases hz : xb.length = 0
        · simp [hz]
        · simp only [hz, decide_false, Bool.not_false, Bool.true_and, Bool.false_or]
          cases (decide ((ss[xa.toNat]).op = 6) || decide ((ss[xa.toNat]).op = 5)) <;> rfl
      · rw [HTN.out (by have := HTE.out; rw [decide_eq_false (by omega)] at this; simpa using this), decide_eq_false (by omega)]; rfl
    · rw [if_pos rfl, HTD.out, hbe]
      by_cases hz : xb.length = 0
      · simp [hz]
      · rw [decide_eq_false hz, decide_eq_true (by omega)]; rfl)
  clear HTS HTD HTN HTE
  cases d
  case true =>
    rw [if_pos rfl] at HRES
    by_cases hz : 0 < xb.length
    · rw [decide_eq_true hz] at HRES
      go_wp2
      go_ret
      exact ⟨by rw [HRES.out]; rfl, HBX.out⟩
    · rw [decide_eq_false hz] at HRES
      go_wp2
      go_ret
      exact ⟨by rw [HRES.out]; rfl, HBX.out⟩
  rw [if_neg (by decide)] at HRES
  by_cases h3 : xa < (ss.length : Int)
  case neg =>
    rw [decide_eq_false h3] at HRES
    go_wp2
    go_ret
    exact ⟨by rw [HRES.out]; rfl, HBX.out⟩
  rw [decide_eq_true h3] at HRES
  by_cases hz : xb.length = 0
  · rw [decide_eq_true hz] at HRES
    go_wp2
    go_ret
    exact ⟨by rw [HRES.out]; rfl, HBX.out⟩
  rw [decide_eq_false hz] at HRES
  obtain ⟨n, rfl⟩ : ∃ n : Nat, xa = n := ⟨xa.toNat, by omega⟩
  have hn : n < ss.length := by omega
  rw [Int.toNat_natCast, List.getElem?_eq_getElem hn] at HRES
  obtain ⟨b5, f5, rfl, hb5, hst⟩ := hS3 (by omega)
  obtain ⟨s0, s1, s2, s3, s4⟩ := hst n hn
  have hlt5 : b5 < w1.heap.size := Nat.lt_of_lt_of_le hb5 (Nat.le_trans hBB HBF.out.size)
  replace s0 := (HB12.out.cell (p := ⟨b5, f5 + n * 5, none⟩) hlt5).trans s0
  replace s1 := (HB12.out.cell (p := ⟨b5, f5 + n * 5 + 1, none⟩) hlt5).trans s1
  replace s2 := (HB12.out.cell (p := ⟨b5, f5 + n * 5 + 2, none⟩) hlt5).trans s2
  replace s3 := (HB12.out.cell (p := ⟨b5, f5 + n * 5 + 3, none⟩) hlt5).trans s3
  replace s4 := (HB12.out.cell (p := ⟨b5, f5 + n * 5 + 4, none⟩) hlt5).trans s4
  have HWT := Lib.hid (fun W => twaits_any ss[n] W)
  dsimp only at HRES
  generalize ss[n] = x at *
  clear hst hS3
  go_wp2_with fail
  refine (HWT.out _).mono ?_
  rintro e w5 ⟨rfl, hb5'⟩
  have HB5 := Lib.hid (chain HBX.out hb5')
  clear hb5' s0 s1 s2 s3 s4 e0 e3 k1
  cases hw5 : wts x
  · rw [hw5] at HRES
    go_wp2
    go_ret
    exact ⟨by rw [HRES.out]; rfl, HB5.out⟩
  · rw [hw5] at HRES
    have hzb : ((xb.length : Int) == 0) = false := beq_eq_false_iff_ne.2 (by omega)
    go_wp2
    go_ret
    refine ⟨?_, HB5.out⟩
    rw [HRES.out]
    simp [hzb]
end Go.Proofs.YtlpjgaeelnlipaaGreat
namespace Go.Proofs.YtlpjgaeelnlipaaGreat
open Go.RowKit
open CodM (St Pg rightP)
open BfM (Wr plc)
open ScM

theorem drM_len (b : List Wr) (m : List Int) : (drM b m).length = m.length := by
  cases b with
  | nil => rfl
  | cons x r => unfold drM; simp only []; split <;> simp [BfM.arr_len]
set_option maxHeartbeats 8000000 in
set_option maxRecDepth 100000 in
theorem rtstepD_any {B : Nat} {v u : Value} {P : Pg} {s : Sta} (t : Int) (w : World) (hv : PgV B w v P) (hu : StaV B w u s) (hBB : B ≤ w.heap.size) (hw : WideS s) :
    Calls Tryz.prog 30 #[v, u, .agg #[.int .i64 t, .bool true]] w (TpRet P s t true w) := by
  have HOWN := Lib.hid (fun W (hW : Below w.heap.size w W) => rown_any W ((hu.below (hW.mono hBB)).more (Nat.le_trans hBB hW.size)) (Nat.le_refl _) hw)
  obtain ⟨pi, pt, rfl, hpm⟩ := hv
  obtain ⟨um, ut, rfl, hum⟩ := hu
  have hwm := hw.mem
  have HWR := Lib.hid hw.regs
  obtain ⟨⟨P0, d0, rfl, -⟩, ⟨P1, d1, rfl, -⟩⟩ := hpm
  have HUM := Lib.hid hum.1
  obtain ⟨⟨A7, c7, rfl, -⟩, ⟨A1, c1, rfl, m1, m2, -, m3⟩⟩ := hum
  have HM3 := Lib.hid m3
  unfold maxLen at m2
  clear hw m3
  have HCO := Lib.hid (show Tryz.prog.cellsOf 39 = 2 from by kernel_rfl)
  obtain ⟨W3, hW3⟩ : ∃ W, W = (((w.alloc (.cells #[.slice P0 P.init.length d0, .slice P1 P.ths.length d1] 25)).alloc (.cells #[.slice A7 s.mem.length c7, .slice A1 s.ths.length c1] 39)).alloc (.cells #[.int .i64 t, .bool true] 53)).alloc (.cells #[.slice none 0 0, .slice none 0 0] 39) := ⟨_, rfl⟩
  obtain ⟨gp, hgp⟩ : ∃ g, g = w.heap.size := ⟨_, rfl⟩
  obtain ⟨gs, hgs⟩ : ∃ g, g = w.heap.size + 1 := ⟨_, rfl⟩
  obtain ⟨gk, hgk⟩ : ∃ g, g = w.heap.size + 1 + 1 := ⟨_, rfl⟩
  obtain ⟨gr, hgr⟩ : ∃ g, g = w.heap.size + 1 + 1 + 1 := ⟨_, rfl⟩
  have HY := Lib.hid (show BoxC W3 gs 39 #[.slice A7 s.mem.length c7, .slice A1 s.ths.length c1] from by rw [hW3, hgs]; have := ((BoxC.new (w.alloc (.cells #[.slice P0 P.init.length d0, .slice P1 P.ths.length d1] 25)) 39 #[.slice A7 s.mem.length c7, .slice A1 s.ths.length c1]).alloc (.cells #[.int .i64 t, .bool true] 53)).alloc (.cells #[.slice none 0 0, .slice none 0 0] 39); rw [World.size_alloc] at this; exact this)
  have HK := Lib.hid (show BoxC W3 gk 53 #[.int .i64 t, .bool true] from by rw [hW3, hgk]; have := (BoxC.new ((w.alloc (.cells #[.slice P0 P.init.length d0, .slice P1 P.ths.length d1] 25)).alloc (.cells #[.slice A7 s.mem.length c7, .slice A1 s.ths.length c1] 39)) 53 #[.int .i64 t, .bool true]).alloc (.cells #[.slice none 0 0, .slice none 0 0] 39); rw [World.size_alloc, World.size_alloc] at this; exact this)
  have HR := Lib.hid (show BoxC W3 gr 39 #[.slice none 0 0, .slice none 0 0] from by rw [hW3, hgr]; have := BoxC.new (((w.alloc (.cells #[.slice P0 P.init.length d0, .slice P1 P.ths.length d1] 25)).alloc (.cells #[.slice A7 s.mem.length c7, .slice A1 s.ths.length c1] 39)).alloc (.cells #[.int .i64 t, .bool true] 53)) 39 #[.slice none 0 0, .slice none 0 0]; rw [World.size_alloc, World.size_alloc, World.size_alloc] at this; exact this)
  have HB3 := Lib.hid (show Below w.heap.size w W3 from by rw [hW3]; exact below_al (below_al (below_al (below_al (Below.refl _ _) _) _) _) _)
  have HGR := Lib.hid (show w.heap.size ≤ gr from by omega)
  have y0 := HY.out.cell 0 _ rfl
  have y1 := HY.out.cell 1 _ rfl
  go_enter Tryz.func30, Tryz.ntmps30
  go_upto_region 1 with fail
  rw [← hW3]
  (try rw [← hgr])
  (try rw [← hgk])
  (try rw [← hgs])
  (try rw [← hgp])
  clear hW3 hgr hgs hgp hgk
  go_wp2_with fail
  refine (HOWN.out _ HB3.out).mono ?_
  rintro e w1 ⟨vm, vt, ps, rfl, hos, hb1⟩
  have HOS := Lib.hid hos
  have HB1 := Lib.hid hb1
  obtain ⟨Am, cm, rfl⟩ := own_slice hos.mem
  obtain ⟨Av, cv, rfl⟩ := own_slice hos.ths
  clear hos hb1 HOWN y0 y1
  go_upto_region 2 with fail
  obtain ⟨X1, hX1⟩ : ∃ W, W = w1.alloc (.cells #[.slice Am s.mem.length cm, .slice Av s.ths.length cv] 39) := ⟨_, rfl⟩
  obtain ⟨go, hgo⟩ : ∃ g, g = w1.heap.size := ⟨_, rfl⟩
  have HQ1 := Lib.hid (show BoxC X1 go 39 #[.slice Am s.mem.length cm, .slice Av s.ths.length cv] from by rw [hX1, hgo]; exact BoxC.new w1 _ _)
  have HL1 := Lib.hid (show Below w1.heap.size w1 X1 from by rw [hX1]; exact below_al (Below.refl _ _) _)
  have HL3 := Lib.hid (chain HB1.out HL1.out)
  have HGO := Lib.hid (show gs < go from by rw [hgo]; exact Nat.lt_of_lt_of_le HY.out.lt HB1.out.size)
  have HGO3 := Lib.hid (show W3.heap.size ≤ go from by rw [hgo]; exact HB1.out.size)
  replace HOS := Lib.hid (HOS.out.below HL1.out)
  rw [← hX1]
  (try rw [← hgo])
  clear hX1 hgo HL1 HB1
  have HRR := Lib.hid (HR.out.below HL3.out HR.out.lt)
  have HBF := Lib.hid (chain HB3.out HL3.out)
  have y1 := (HY.out.below HL3.out HY.out.lt).cell 1 _ rfl
  have k0 := (HK.out.below HL3.out HK.out.lt).cell 0 _ rfl
  have k1 := (HK.out.below HL3.out HK.out.lt).cell 1 _ rfl
  by_cases hr : 0 ≤ t ∧ t < (s.ths.length : Int)
  case neg =>
    have HFE := Lib.hid (show tst P s t true = none from by unfold tst; rw [thO_none hr]; rfl)
    by_cases h0 : t < 0
    · clear hr
      go_upto_region 4 with fail
      clear y1 k0 k1
      have y0 := HQ1.out.cell 0 _ rfl
      have y1 := HQ1.out.cell 1 _ rfl
      have r0 := HRR.out.cell 0 _ rfl
      have r1 := HRR.out.cell 1 _ rfl
      have f0 := HRR.out.frozen 0
      have f1 := HRR.out.frozen 1
      obtain ⟨W9, hW9⟩ : ∃ W, W = (X1.setCell ⟨gr, 0, none⟩ (.slice Am s.mem.length cm)).setCell ⟨gr, 1, none⟩ (.slice Av s.ths.length cv) := ⟨_, rfl⟩
      have HR9 := Lib.hid (show BoxC W9 gr 39 #[(.slice Am s.mem.length cm), (.slice Av s.ths.length cv)] from by rw [hW9]; exact (HRR.out.set 0 _).set 1 _)
      have HO9 := Lib.hid (show OwnSt W3.heap.size W9 (.slice Am s.mem.length cm) (.slice Av s.ths.length cv) (s) ps from by
        rw [hW9]
        exact (HOS.out.box HRR.out (by decide) (by decide) (by decide) 0 _).box (HRR.out.set 0 _) (by decide) (by decide) (by decide) 1 _)
      have HB9 := Lib.hid (show Below w.heap.size w W9 from by rw [hW9]; exact (HBF.out.setCell (p := ⟨gr, 0, none⟩) HGR.out _).setCell (p := ⟨gr, 1, none⟩) HGR.out _)
      have HW9 := Lib.hid hW9
      clear hW9
      go_wp2_with fail
      rw [← HW9.out]
      clear r0 r1 f0 f1
      have r0 := HR9.out.cell 0 _ rfl
      have r1 := HR9.out.cell 1 _ rfl
      have hz := HCO.out
      refine bodyPost_ret (v := .tuple #[.agg #[(.slice Am s.mem.length cm), (.slice Av s.ths.length cv)], .bool false]) (by simp [results, Tryz.results30, go_sem, r0, r1, hz]) rfl ⟨_, _, _, by rw [HFE.out]; rfl, (by rw [HFE.out]; exact HO9.out.base HB3.out.size), HB9.out⟩

    · have h1 : (s.ths.length : Int) ≤ t := by omega
      clear hr
      go_upto_region 4 with fail
      clear y1 k0 k1
      have y0 := HQ1.out.cell 0 _ rfl
      have y1 := HQ1.out.cell 1 _ rfl
      have r0 := HRR.out.cell 0 _ rfl
      have r1 := HRR.out.cell 1 _ rfl
      have f0 := HRR.out.frozen 0
      have f1 := HRR.out.frozen 1
      obtain ⟨W9, hW9⟩ : ∃ W, W = (X1.setCell ⟨gr, 0, none⟩ (.slice Am s.mem.length cm)).setCell ⟨gr, 1, none⟩ (.slice Av s.ths.length cv) := ⟨_, rfl⟩
      have HR9 := Lib.hid (show BoxC W9 gr 39 #[(.slice Am s.mem.length cm), (.slice Av s.ths.length cv)] from by rw [hW9]; exact (HRR.out.set 0 _).set 1 _)
      have HO9 := Lib.hid (show OwnSt W3.heap.size W9 (.slice Am s.mem.length cm) (.slice Av s.ths.length cv) (s) ps from by
        rw [hW9]
        exact (HOS.out.box HRR.out (by decide) (by decide) (by decide) 0 _).box (HRR.out.set 0 _) (by decide) (by decide) (by decide) 1 _)
      have HB9 := Lib.hid (show Below w.heap.size w W9 from by rw [hW9]; exact (HBF.out.setCell (p := ⟨gr, 0, none⟩) HGR.out _).setCell (p := ⟨gr, 1, none⟩) HGR.out _)
      have HW9 := Lib.hid hW9
      clear hW9
      go_wp2_with fail
      rw [← HW9.out]
      clear r0 r1 f0 f1
      have r0 := HR9.out.cell 0 _ rfl
      have r1 := HR9.out.cell 1 _ rfl
      have hz := HCO.out
      refine bodyPost_ret (v := .tuple #[.agg #[(.slice Am s.mem.length cm), (.slice Av s.ths.length cv)], .bool false]) (by simp [results, Tryz.results30, go_sem, r0, r1, hz]) rfl ⟨_, _, _, by rw [HFE.out]; rfl, (by rw [HFE.out]; exact HO9.out.base HB3.out.size), HB9.out⟩

  obtain ⟨hr1, hr2⟩ := hr
  obtain ⟨k, rfl⟩ : ∃ k : Nat, t = k := ⟨t.toNat, by omega⟩
  have hks : k < s.ths.length := by omega
  obtain ⟨b1, f1, rfl, hb1, hc1⟩ := HM3.out (by omega)
  obtain ⟨vr, vb, -, -, -, b3, -, hW⟩ := hc1 k hks
  have HFE := Lib.hid (show tst P s (k : Int) true = if can s.ths[k].buf s.mem.length then some (⟨drM s.ths[k].buf s.mem, s.ths.set k ⟨s.ths[k].at', s.ths[k].regs, s.ths[k].eq, drB s.ths[k].buf s.mem⟩⟩ : Sta) else none from by unfold tst; rw [thO_at hks]; rfl)
  have HPK := Lib.hid (HOS.out.pk hks)
  have HAL := Lib.hid (fun W (hW' : Below w.heap.size w W) => rdrain_any W ((hW.below (hW'.mono hBB)).more (Nat.le_trans hBB hW'.size)) ((HUM.out.below (hW'.mono hBB)).more (Nat.le_trans hBB hW'.size)) (Nat.le_refl _) (by have := (HWR.out _ (List.getElem_mem hks)).2; omega) (by omega))
  replace b3 := ((HBF.out.mono hBB).cell (p := ⟨b1, f1 + k * 4 + 3, none⟩) hb1).trans b3
  have HB12 := Lib.hid hb1
  generalize s.ths[k] = h at *
  obtain ⟨xa, xr, xe, xb⟩ := h
  dsimp only at *
  obtain ⟨Ab, cb, rfl, -⟩ := hW
  clear hc1 hb1
  have y0 := (HY.out.below HL3.out HY.out.lt).cell 0 _ rfl
  unfold DrRet at HAL
  by_cases hcan : can xb s.mem.length = true
  case neg =>
    have hcf : can xb s.mem.length = false := by simpa using hcan
    rw [hcf, if_neg (by decide)] at HFE
    rw [hcf] at HAL
    have HALL := HAL
    clear HAL hcan hcf
    go_upto_region 6 with fail
    refine wp_region_held_drew (S := (fun w' => w'.cell? ⟨gs, 0, none⟩ = some (.slice A7 s.mem.length c7) ∧ w'.cell? ⟨gs, 1, none⟩ = some (.slice (some ⟨b1, f1, none⟩) s.ths.length c1) ∧ w'.cell? ⟨b1, f1 + k * 4 + 3, none⟩ = some (.slice Ab xb.length cb) ∧ Below W3.heap.size W3 w' ∧ X1.heap.size ≤ w'.heap.size)) (by kernel_rfl) ⟨y0, y1, b3, below_drewN HL3.out 1, Nat.le_refl _⟩ (fun hHeld => ?_)
    obtain ⟨Xs, hXs⟩ : ∃ W, W = X1.drew := ⟨_, rfl⟩
    have HXs := Lib.hid (show Below X1.heap.size X1 Xs from by rw [hXs]; exact below_drewN (Below.refl _ _) 1)
    rw [← hXs] at hHeld ⊢
    clear hXs
    refine wtk 0 ?_ ?_ ?_
    rotate_left
    · intro w hSw; (try dsimp only at hSw); go_simp; (try with_reducible rfl)
    (try simp only [Act.put, pt8])
    refine wtk 1 ?_ ?_ ?_
    rotate_left
    · intro w hSw; (try dsimp only at hSw); go_simp; (try with_reducible rfl)
    (try simp only [Act.put, pt8])
    refine wtk 2 ?_ ?_ ?_
    rotate_left
    · intro w hSw; (try dsimp only at hSw); go_simp; (try with_reducible rfl)
    (try simp only [Act.put, pt8])
    refine wtk 3 ?_ ?_ ?_
    rotate_left
    · intro w hSw; (try dsimp only at hSw); go_simp; (try with_reducible rfl)
    (try simp only [Act.put, pt8])
    refine wtk 4 ?_ ?_ ?_
    rotate_left
    · intro w hSw; (try dsimp only at hSw); go_simp; (try with_reducible rfl)
    (try simp only [Act.put, pt8])
    refine wtk 5 ?_ ?_ ?_
    rotate_left
    · intro w hSw; (try dsimp only at hSw); go_simp; (try with_reducible rfl)
    (try simp only [Act.put, pt8])
    refine wtk 6 ?_ ?_ ?_
    rotate_left
    · intro w hSw; (try dsimp only at hSw); go_simp; (try with_reducible rfl)
    (try simp only [Act.put, pt8])
    refine wtk 7 ?_ ?_ ?_
    rotate_left
    · intro w hSw; (try dsimp only at hSw); go_simp; (try with_reducible rfl)
    (try simp only [Act.put, pt8])
    refine wpAnyH_ready (rs := [8]) (by kernel_rfl) (by simp) ?_
    refine AllReadyH.cons rfl (fun K hK => ?_) AllReadyH.nil
    obtain ⟨q0, q1, q2, q3, q4⟩ := hHeld
    go_simp
    refine (HALL.out _ (chain HB3.out q3)).mono ?_
    rintro e X2 ⟨vb2, vm2, n1, rfl, hn1, hob, hom, hyb, hb⟩
    obtain ⟨An, cn, rfl⟩ := own_slice (n := s.mem.length) (show X2.ownsRow _ _ 1 vm2 s.mem.length _ from by have e := hom; unfold OwnI at e; rwa [drM_len] at e)
    have hob1 := hob
    unfold OwnW at hob1
    obtain ⟨Bn, bn, rfl⟩ := own_slice hob1
    clear hob1
    have HOM := Lib.hid (show OwnI X1.heap.size X2 (.slice An s.mem.length cn) (drM xb s.mem) from own_base hom q4)
    have HOB := Lib.hid (show OwnW X1.heap.size X2 (.slice Bn (drB xb s.mem).length bn) (drB xb s.mem) from own_base hob (Nat.le_trans q4 hn1))
    have HB2 := Lib.hid (show Below X1.heap.size X1 X2 from chain HXs.out hb)
    refine hK.out _ _ ⟨kc hb q0, kc hb q1, kc hb q2, chain q3 hb, Nat.le_trans q4 hb.size⟩ (fun hHeld => ?_)
    clear q0 q1 q2 q3 q4
    clear hK K
    (try simp only [Act.put, pt8])
    clear hb hom hob hyb hn1
    refine wtk 9 ?_ ?_ ?_
    rotate_left
    · intro w hSw; (try dsimp only at hSw); go_simp; (try with_reducible rfl)
    (try simp only [Act.put, pt8])
    refine wtk 10 ?_ ?_ ?_
    rotate_left
    · intro w hSw; (try dsimp only at hSw); go_simp; (try with_reducible rfl)
    (try simp only [Act.put, pt8])
    refine wtk 11 ?_ ?_ ?_
    rotate_left
    · intro w hSw; (try dsimp only at hSw); go_simp; (try with_reducible rfl)
    (try simp only [Act.put, pt8])
    refine wtk 12 ?_ ?_ ?_
    rotate_left
    · intro w hSw; (try dsimp only at hSw); go_simp; (try with_reducible rfl)
    (try simp only [Act.put, pt8])
    refine wpAnyH_ready (rs := [13]) (by kernel_rfl) (by simp) ?_
    refine AllReadyH.cons rfl (fun K hK => ?_) AllReadyH.nil
    go_simp
    refine hK.out _ _ hHeld (fun hHeld => ?_)
    clear hK K
    (try simp only [Act.put, pt8])
    refine wpAnyH_ready (rs := [14]) (by kernel_rfl) (by simp) ?_
    refine AllReadyH.cons rfl (fun K hK => ?_) AllReadyH.nil
    go_simp
    refine hK.out _ _ hHeld (fun hHeld => ?_)
    clear hK K
    (try simp only [Act.put, pt8])
    refine wpAnyH_ready (rs := [15]) (by kernel_rfl) (by simp) ?_
    refine AllReadyH.cons rfl (fun K hK => ?_) AllReadyH.nil
    go_simp
    refine hK.out _ _ hHeld (fun hHeld => ?_)
    clear hK K
    (try simp only [Act.put, pt8])
    refine wpAnyH_done (by kernel_rfl) ?_ _
    clear hHeld y0 y1 b3 k0 k1
    have HRR := Lib.hid (HRR.out.below HB2.out HRR.out.lt)
    have HQ2 := Lib.hid (HQ1.out.below HB2.out HQ1.out.lt)
    have y0 := HQ2.out.cell 0 _ rfl
    have y1 := HQ2.out.cell 1 _ rfl
    go_upto_region 8 with fail
    have r0 := HRR.out.cell 0 _ rfl
    have r1 := HRR.out.cell 1 _ rfl
    have f0 := HRR.out.frozen 0
    have f1 := HRR.out.frozen 1
    obtain ⟨W9, hW9⟩ : ∃ W, W = (X2.setCell ⟨gr, 0, none⟩ (.slice Am s.mem.length cm)).setCell ⟨gr, 1, none⟩ (.slice Av s.ths.length cv) := ⟨_, rfl⟩
    have HR9 := Lib.hid (show BoxC W9 gr 39 #[(.slice Am s.mem.length cm), (.slice Av s.ths.length cv)] from by rw [hW9]; exact (HRR.out.set 0 _).set 1 _)
    have HO9 := Lib.hid (show OwnSt W3.heap.size W9 (.slice Am s.mem.length cm) (.slice Av s.ths.length cv) (s) ps from by
      rw [hW9]
      exact ((HOS.out.below HB2.out).box HRR.out (by decide) (by decide) (by decide) 0 _).box (HRR.out.set 0 _) (by decide) (by decide) (by decide) 1 _)
    have HB9 := Lib.hid (show Below w.heap.size w W9 from by rw [hW9]; exact ((chain HBF.out HB2.out).setCell (p := ⟨gr, 0, none⟩) HGR.out _).setCell (p := ⟨gr, 1, none⟩) HGR.out _)
    have HW9 := Lib.hid hW9
    clear hW9
    go_wp2_with fail
    rw [← HW9.out]
    clear r0 r1 f0 f1
    have r0 := HR9.out.cell 0 _ rfl
    have r1 := HR9.out.cell 1 _ rfl
    have hz := HCO.out
    refine bodyPost_ret (v := .tuple #[.agg #[(.slice Am s.mem.length cm), (.slice Av s.ths.length cv)], .bool false]) (by simp [results, Tryz.results30, go_sem, r0, r1, hz]) rfl ⟨_, _, _, by rw [HFE.out]; rfl, (by rw [HFE.out]; exact HO9.out.base HB3.out.size), HB9.out⟩

  rw [hcan, if_pos rfl] at HFE
  rw [hcan] at HAL
  have HALL := HAL
  clear HAL hcan
  go_upto_region 6 with fail
  refine wp_region_held_drew (S := (fun w' => w'.cell? ⟨gs, 0, none⟩ = some (.slice A7 s.mem.length c7) ∧ w'.cell? ⟨gs, 1, none⟩ = some (.slice (some ⟨b1, f1, none⟩) s.ths.length c1) ∧ w'.cell? ⟨b1, f1 + k * 4 + 3, none⟩ = some (.slice Ab xb.length cb) ∧ Below W3.heap.size W3 w' ∧ X1.heap.size ≤ w'.heap.size)) (by kernel_rfl) ⟨y0, y1, b3, below_drewN HL3.out 1, Nat.le_refl _⟩ (fun hHeld => ?_)
  obtain ⟨Xs, hXs⟩ : ∃ W, W = X1.drew := ⟨_, rfl⟩
  have HXs := Lib.hid (show Below X1.heap.size X1 Xs from by rw [hXs]; exact below_drewN (Below.refl _ _) 1)
  rw [← hXs] at hHeld ⊢
  clear hXs
  refine wtk 0 ?_ ?_ ?_
  rotate_left
  · intro w hSw; (try dsimp only at hSw); go_simp; (try with_reducible rfl)
  (try simp only [Act.put, pt8])
  refine wtk 1 ?_ ?_ ?_
  rotate_left
  · intro w hSw; (try dsimp only at hSw); go_simp; (try with_reducible rfl)
  (try simp only [Act.put, pt8])
  refine wtk 2 ?_ ?_ ?_
  rotate_left
  · intro w hSw; (try dsimp only at hSw); go_simp; (try with_reducible rfl)
  (try simp only [Act.put, pt8])
  refine wtk 3 ?_ ?_ ?_
  rotate_left
  · intro w hSw; (try dsimp only at hSw); go_simp; (try with_reducible rfl)
  (try simp only [Act.put, pt8])
  refine wtk 4 ?_ ?_ ?_
  rotate_left
  · intro w hSw; (try dsimp only at hSw); go_simp; (try with_reducible rfl)
  (try simp only [Act.put, pt8])
  refine wtk 5 ?_ ?_ ?_
  rotate_left
  · intro w hSw; (try dsimp only at hSw); go_simp; (try with_reducible rfl)
  (try simp only [Act.put, pt8])
  refine wtk 6 ?_ ?_ ?_
  rotate_left
  · intro w hSw; (try dsimp only at hSw); go_simp; (try with_reducible rfl)
  (try simp only [Act.put, pt8])
  refine wtk 7 ?_ ?_ ?_
  rotate_left
  · intro w hSw; (try dsimp only at hSw); go_simp; (try with_reducible rfl)
  (try simp only [Act.put, pt8])
  refine wpAnyH_ready (rs := [8]) (by kernel_rfl) (by simp) ?_
  refine AllReadyH.cons rfl (fun K hK => ?_) AllReadyH.nil
  obtain ⟨q0, q1, q2, q3, q4⟩ := hHeld
  go_simp
  refine (HALL.out _ (chain HB3.out q3)).mono ?_
  rintro e X2 ⟨vb2, vm2, n1, rfl, hn1, hob, hom, hyb, hb⟩
  obtain ⟨An, cn, rfl⟩ := own_slice (n := s.mem.length) (show X2.ownsRow _ _ 1 vm2 s.mem.length _ from by have e := hom; unfold OwnI at e; rwa [drM_len] at e)
  have hob1 := hob
  unfold OwnW at hob1
  obtain ⟨Bn, bn, rfl⟩ := own_slice hob1
  clear hob1
  have HOM := Lib.hid (show OwnI X1.heap.size X2 (.slice An s.mem.length cn) (drM xb s.mem) from own_base hom q4)
  have HOB := Lib.hid (show OwnW X1.heap.size X2 (.slice Bn (drB xb s.mem).length bn) (drB xb s.mem) from own_base hob (Nat.le_trans q4 hn1))
  have HB2 := Lib.hid (show Below X1.heap.size X1 X2 from chain HXs.out hb)
  refine hK.out _ _ ⟨kc hb q0, kc hb q1, kc hb q2, chain q3 hb, Nat.le_trans q4 hb.size⟩ (fun hHeld => ?_)
  clear q0 q1 q2 q3 q4
  clear hK K
  (try simp only [Act.put, pt8])
  clear hb hom hob hyb hn1
  refine wtk 9 ?_ ?_ ?_
  rotate_left
  · intro w hSw; (try dsimp only at hSw); go_simp; (try with_reducible rfl)
  (try simp only [Act.put, pt8])
  refine wtk 10 ?_ ?_ ?_
  rotate_left
  · intro w hSw; (try dsimp only at hSw); go_simp; (try with_reducible rfl)
  (try simp only [Act.put, pt8])
  refine wtk 11 ?_ ?_ ?_
  rotate_left
  · intro w hSw; (try dsimp only at hSw); go_simp; (try with_reducible rfl)
  (try simp only [Act.put, pt8])
  refine wtk 12 ?_ ?_ ?_
  rotate_left
  · intro w hSw; (try dsimp only at hSw); go_simp; (try with_reducible rfl)
  (try simp only [Act.put, pt8])
  refine wpAnyH_ready (rs := [13]) (by kernel_rfl) (by simp) ?_
  refine AllReadyH.cons rfl (fun K hK => ?_) AllReadyH.nil
  go_simp
  refine hK.out _ _ hHeld (fun hHeld => ?_)
  clear hK K
  (try simp only [Act.put, pt8])
  refine wpAnyH_ready (rs := [14]) (by kernel_rfl) (by simp) ?_
  refine AllReadyH.cons rfl (fun K hK => ?_) AllReadyH.nil
  go_simp
  refine hK.out _ _ hHeld (fun hHeld => ?_)
  clear hK K
  (try simp only [Act.put, pt8])
  refine wpAnyH_ready (rs := [15]) (by kernel_rfl) (by simp) ?_
  refine AllReadyH.cons rfl (fun K hK => ?_) AllReadyH.nil
  go_simp
  refine hK.out _ _ hHeld (fun hHeld => ?_)
  clear hK K
  (try simp only [Act.put, pt8])
  refine wpAnyH_done (by kernel_rfl) ?_ _
  clear hHeld y0 y1 b3 k0 k1
  have HQ2 := Lib.hid (HQ1.out.below HB2.out HQ1.out.lt)
  have o0 := HQ2.out.cell 0 _ rfl
  have g0 := HQ2.out.frozen 0
  go_upto_region 10 with fail
  clear o0 g0
  obtain ⟨X5, hX5⟩ : ∃ W, W = X2.setCell ⟨go, 0, none⟩ (.slice An s.mem.length cn) := ⟨_, rfl⟩
  have hgrgo : gr ≠ go := by have := HR.out.lt; have := HGO3.out; omega
  have HQ5 := Lib.hid (show BoxC X5 go 39 #[.slice An s.mem.length cn, .slice Av s.ths.length cv] from by rw [hX5]; exact HQ2.out.set 0 _)
  have HRR5 := Lib.hid (show BoxC X5 gr 39 #[.slice none 0 0, .slice none 0 0] from by rw [hX5]; exact (HRR.out.below HB2.out HRR.out.lt).other hgrgo _ _)
  have HO5 := Lib.hid (show OwnSt W3.heap.size X5 (.slice An s.mem.length cn) (.slice Av s.ths.length cv) ⟨drM xb s.mem, s.ths⟩ ps from by
    rw [hX5]
    exact ((HOS.out.below HB2.out).memRow (own_base HOM.out HL3.out.size) (fun p hp => ap_symm (ap_new (HOS.out.each p hp).1 HOM.out (Nat.le_refl _)))).box HQ2.out (by decide) (by decide) (by decide) 0 _)
  have HOB5 := Lib.hid (show OwnW W3.heap.size X5 (.slice Bn (drB xb s.mem).length bn) (drB xb s.mem) from by
    rw [hX5]
    exact own_box (own_base HOB.out HL3.out.size) HQ2.out (by decide) 0 _)
  have HB5 := Lib.hid (show Below w.heap.size w X5 from by rw [hX5]; exact (chain HBF.out HB2.out).setCell (p := ⟨go, 0, none⟩) (Nat.le_trans HB3.out.size HGO3.out) _)
  rw [← hX5]
  clear hX5
  obtain ⟨vr, vb, hpk⟩ := HPK.out
  have HPK' := Lib.hid hpk
  obtain ⟨hkp, hpe⟩ := List.getElem?_eq_some_iff.1 hpk
  obtain ⟨gv, cv', cur, hev, hgv, hbv, t0, t1, t2, t3⟩ := HO5.out.row hkp
  injection hev with hev1 hev3 hev2
  clear hev3
  subst hev1 hev2
  rw [hpe] at t3
  have HBV := Lib.hid hbv
  have HGV := Lib.hid hgv
  clear t0 t1 t2 hpk hpe hbv hgv
  have a1 := HQ5.out.cell 1 _ rfl
  have g3 := HBV.out.frozen (k * 4 + 3)
  go_upto_region 11 with fail
  obtain ⟨X6, hX6⟩ : ∃ W, W = X5.setCell ⟨gv, k * 4 + 3, none⟩ (.slice Bn (drB xb s.mem).length bn) := ⟨_, rfl⟩
  obtain ⟨ps6, ho6⟩ : ∃ ps6, OwnSt W3.heap.size X6 (.slice An s.mem.length cn) (.slice (some ⟨gv, 0, none⟩) s.ths.length cv) ⟨drM xb s.mem, s.ths.set k ⟨xa, xr, xe, drB xb s.mem⟩⟩ ps6 := ⟨_, by rw [hX6]; exact HO5.out.setVB' HPK'.out HOB5.out⟩
  have HO6 := Lib.hid ho6
  have HQ6 := Lib.hid (show BoxC X6 go 39 #[.slice An s.mem.length cn, .slice (some ⟨gv, 0, none⟩) s.ths.length cv] from by rw [hX6]; exact HQ5.out.other (HQ5.out.unlike HBV.out (by decide)) _ _)
  have HRR := Lib.hid (show BoxC X6 gr 39 #[.slice none 0 0, .slice none 0 0] from by rw [hX6]; exact HRR5.out.other (HRR5.out.unlike HBV.out (by decide)) _ _)
  have HB6 := Lib.hid (show Below w.heap.size w X6 from by rw [hX6]; exact HB5.out.setCell (p := ⟨gv, k * 4 + 3, none⟩) (Nat.le_trans HB3.out.size HGV.out) _)
  rw [← hX6]
  clear hX6 ho6 a1 g3 t3 hkp
  have y0 := HQ6.out.cell 0 _ rfl
  have y1 := HQ6.out.cell 1 _ rfl
  have r0 := HRR.out.cell 0 _ rfl
  have r1 := HRR.out.cell 1 _ rfl
  have f0 := HRR.out.frozen 0
  have f1 := HRR.out.frozen 1
  obtain ⟨W9, hW9⟩ : ∃ W, W = (X6.setCell ⟨gr, 0, none⟩ (.slice An s.mem.length cn)).setCell ⟨gr, 1, none⟩ (.slice (some ⟨gv, 0, none⟩) s.ths.length cv) := ⟨_, rfl⟩
  have HR9 := Lib.hid (show BoxC W9 gr 39 #[(.slice An s.mem.length cn), (.slice (some ⟨gv, 0, none⟩) s.ths.length cv)] from by rw [hW9]; exact (HRR.out.set 0 _).set 1 _)
  have HO9 := Lib.hid (show OwnSt W3.heap.size W9 (.slice An s.mem.length cn) (.slice (some ⟨gv, 0, none⟩) s.ths.length cv) (⟨drM xb s.mem, s.ths.set k ⟨xa, xr, xe, drB xb s.mem⟩⟩) ps6 from by
    rw [hW9]
    exact (HO6.out.box HRR.out (by decide) (by decide) (by decide) 0 _).box (HRR.out.set 0 _) (by decide) (by decide) (by decide) 1 _)
  have HB9 := Lib.hid (show Below w.heap.size w W9 from by rw [hW9]; exact (HB6.out.setCell (p := ⟨gr, 0, none⟩) HGR.out _).setCell (p := ⟨gr, 1, none⟩) HGR.out _)
  have HW9 := Lib.hid hW9
  clear hW9
  go_wp2_with fail
  rw [← HW9.out]
  clear r0 r1 f0 f1
  have r0 := HR9.out.cell 0 _ rfl
  have r1 := HR9.out.cell 1 _ rfl
  have hz := HCO.out
  refine bodyPost_ret (v := .tuple #[.agg #[(.slice An s.mem.length cn), (.slice (some ⟨gv, 0, none⟩) s.ths.length cv)], .bool true]) (by simp [results, Tryz.results30, go_sem, r0, r1, hz]) rfl ⟨_, _, _, by rw [HFE.out]; rfl, (by rw [HFE.out]; exact HO9.out.base HB3.out.size), HB9.out⟩

end Go.Proofs.YtlpjgaeelnlipaaGreat
