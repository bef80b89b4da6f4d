/-
  LAYER 11, as mathematics: what a pick makes; writes flushed. STATES OF THE CALL's OWN, 5: another row of locations, another row of writes.
  LAYER 11, as mathematics, 2: picks keep a right state right; which can be done; writes flushed; the steps that are left.
-/
import Derived.Test.YtkbnppidkhbbeaaK04
import Derived.Test.YtkbnppidkhbbeaaK02
import Derived.Test.YtkbnppidkhbbeaaSuV
set_option linter.unusedVariables false
set_option linter.unusedSimpArgs false
namespace Go.Proofs.Ytkbnppidkhbbeaa
open Go.RowKit
set_option linter.unusedVariables false
set_option linter.unusedSimpArgs false
open CodM (St Pg rightP)
open BfM (Wr plc)
open ScM

/-- The thread of that number. -/
def thO (s : Sta) (t : Int) : Option Th := if 0 ≤ t then s.ths[t.toNat]? else none
theorem thO_some {s : Sta} {t : Int} {h : Th} (e : thO s t = some h) : ∃ k : Nat, t = k ∧ ∃ hk : k < s.ths.length, h = s.ths[k] := by
  unfold thO at e
  split at e
  · obtain ⟨hk, e⟩ := List.getElem?_eq_some_iff.1 e
    exact ⟨t.toNat, by omega, hk, e.symm⟩
  · cases e
theorem thO_at {s : Sta} {k : Nat} (hk : k < s.ths.length) : thO s (k : Int) = some s.ths[k] := by
  unfold thO
  rw [if_pos (by omega)]
  simp [hk]
theorem thO_none {s : Sta} {t : Int} (h : ¬ (0 ≤ t ∧ t < (s.ths.length : Int))) : thO s t = none := by
  unfold thO
  split
  · exact List.getElem?_eq_none (by omega)
  · rfl
/-- A write came there. -/
def drn (s : Sta) (k : Nat) (h : Th) : Sta := ⟨drM h.buf s.mem, s.ths.set k ⟨h.at', h.regs, h.eq, drB h.buf s.mem⟩⟩
/-- A thread's step, as it is. -/
def tsS (x : St) (s : Sta) (k : Nat) (h : Th) : Sta :=
  if x.op = 2 then ⟨s.mem, s.ths.set k ⟨h.at' + 1, h.regs.set x.reg.toNat ((BfM.view h.buf s.mem x.loc).getD 0), h.eq, h.buf⟩⟩
  else if x.op = 3 then ⟨s.mem, s.ths.set k ⟨h.at' + 1, h.regs, h.eq, h.buf ++ [⟨x.loc, nth h.regs x.reg⟩]⟩⟩
  else if x.op = 4 then ⟨s.mem, s.ths.set k ⟨h.at' + 1, h.regs, h.eq, h.buf ++ [⟨x.loc, x.n⟩]⟩⟩
  else ⟨ScM.stM x s.mem h.regs, s.ths.set k (stT x s.mem h)⟩
/-- A step that can't be done. -/
def stuck (x : St) (h : Th) : Bool := !h.buf.isEmpty && (decide (x.op = 6) || decide (x.op = 5))
/-- What a pick makes; none: it can't be done. -/
def tst (P : Pg) (s : Sta) (t : Int) (d : Bool) : Option Sta :=
  if d then
    match thO s t with
    | some h => if can h.buf s.mem.length then some (drn s t.toNat h) else none
    | none => none
  else
    match atS P s t, thO s t with
    | some x, some h => if stuck x h then none else some (tsS x s t.toNat h)
    | _, _ => none
/-- All writes of a thread came there. -/
def flu (s : Sta) (t : Int) : Sta := match thO s t with
  | some h => ⟨BfM.all h.buf s.mem, s.ths.set t.toNat ⟨h.at', h.regs, h.eq, []⟩⟩
  | none => s
/-- What hands back the state behind a pick. -/
def TpRet (P : Pg) (s : Sta) (t : Int) (d : Bool) (w : World) (e : Ending) (w' : World) : Prop := ∃ vm vt ps, e = .returned (.tuple #[.agg #[vm, vt], .bool (tst P s t d).isSome]) ∧ OwnSt w.heap.size w' vm vt ((tst P s t d).getD s) ps ∧ Below w.heap.size w w'
/-! Memory. -/
/-- Another row of locations. -/
theorem OwnSt.memRow {base : Nat} {w : World} {vm vm' vt : Value} {s : Sta} {ps : List TV} {m : List Int} (h : OwnSt base w vm vt s ps) (hm : OwnI base w vm' m) (ha : ∀ p ∈ ps, Ap vm' p.vr) : OwnSt base w vm' vt ⟨m, s.ths⟩ ps :=
  ⟨hm, h.ths, h.eq, fun p hp => ⟨(h.each p hp).1, (h.each p hp).2.1, ha p hp⟩, h.ap⟩
/-- A new row in place of a thread's writes. -/
theorem OwnSt.setVB {base g n c k : Nat} {w : World} {vm : Value} {s : Sta} {ps : List TV} (h : OwnSt base w vm (.slice (some ⟨g, 0, none⟩) n c) s ps) (hk : k < ps.length) (q : TV) (hx : thC q = (thC ps[k]).set 3 q.vb) (h2 : q.vr = ps[k].vr) (h4 : q.t.regs = ps[k].t.regs)
    (h1 : OwnW base w q.vb q.t.buf) :
    OwnSt base (w.setCell ⟨g, k * 4 + 3, none⟩ q.vb) vm (.slice (some ⟨g, 0, none⟩) n c) ⟨s.mem, s.ths.set k q.t⟩ (ps.set k q) := by
  have hg : (Value.slice (some ⟨g, 0, none⟩) n c).ownBlock = some g := rfl
  have hn : n = s.ths.length := by
    obtain ⟨A, c', e'⟩ := own_slice h.ths
    injection e' with _ e' _
  have hT : (w.setCell ⟨g, k * 4 + 3, none⟩ q.vb).ownsRow base 43 4 (.slice (some ⟨g, 0, none⟩) n c) n ((ps.set k q).flatMap thC) := by
    have e := h.ths
    rw [← hn] at e
    have := (e.stored (k * 4 + 3) q.vb).1
    rw [flat_set1 ps k q 3 q.vb hk (by decide) hx] at this
    exact this
  refine ⟨own_keep h.mem (fun e => own_unlike neT h.mem h.ths g e hg) _, by rw [List.length_set, ← hn]; exact hT, by rw [List.map_set, h.eq], fun p hp => ?_, by rw [map_vr_set hk q h2]; exact h.ap⟩
  obtain ⟨j, hj, rfl⟩ := List.mem_iff_getElem.1 hp
  have hj' : j < ps.length := by simpa using hj
  rw [List.getElem_set]
  by_cases e : k = j
  · rw [if_pos e]
    obtain ⟨d1, d2, d3⟩ := h.each _ (List.getElem_mem hk)
    rw [h2, h4]
    exact ⟨own_keep d1 (fun e' => own_unlike neT d1 h.ths g e' hg) _, own_keep h1 (fun e' => own_unlike neV h1 h.ths g e' hg) _, d3⟩
  · rw [if_neg e]
    obtain ⟨d1, d2, d3⟩ := h.each _ (List.getElem_mem hj')
    exact ⟨own_keep d1 (fun e' => own_unlike neT d1 h.ths g e' hg) _, own_keep d2 (fun e' => own_unlike neV d2 h.ths g e' hg) _, d3⟩
theorem OwnSt.setVB' {base g n c k : Nat} {w : World} {vm vr vb vb' : Value} {s : Sta} {ps : List TV} {a : Th} {b : List Wr} (h : OwnSt base w vm (.slice (some ⟨g, 0, none⟩) n c) s ps) (hk : ps[k]? = some ⟨a, vr, vb⟩) (h1 : OwnW base w vb' b) :
    OwnSt base (w.setCell ⟨g, k * 4 + 3, none⟩ vb') vm (.slice (some ⟨g, 0, none⟩) n c) ⟨s.mem, s.ths.set k ⟨a.at', a.regs, a.eq, b⟩⟩ (ps.set k ⟨⟨a.at', a.regs, a.eq, b⟩, vr, vb'⟩) := by
  obtain ⟨hkp, e⟩ := List.getElem?_eq_some_iff.1 hk
  exact h.setVB hkp ⟨⟨a.at', a.regs, a.eq, b⟩, vr, vb'⟩ (by rw [e]; rfl) (by rw [e]) (by rw [e]) h1
end Go.Proofs.Ytkbnppidkhbbeaa
namespace Go.Proofs.Ytkbnppidkhbbeaa
set_option linter.unusedVariables false
set_option linter.unusedSimpArgs false
open CodM (St Pg rightP hReg hLoc)
open BfM (Wr plc)
open ScM

theorem can_ok {m : Nat} {b : List Wr} (h : BfM.ok m b) : can b m = !b.isEmpty := by
  cases b with
  | nil => rfl
  | cons w r => exact h w List.mem_cons_self
theorem buf_ok {P : Pg} {s : Sta} (ho : OkSt P s) {k : Nat} (hk : k < s.ths.length) : BfM.ok s.mem.length s.ths[k].buf := (ho.th k hk (by have := ho.ths; omega)).buf
theorem atS_iff {P : Pg} {s : Sta} {k : Nat} (ho : OkSt P s) (hk : k < s.ths.length) (h2 : k < P.ths.length) : (atS P s (k : Int)).isSome = decide (s.ths[k].at' < P.ths[k].length) := by
  have ht := ho.th k hk h2
  have := ht.lo
  by_cases h3 : s.ths[k].at'.toNat < P.ths[k].length
  · rw [atS_at hk h2 h3, decide_eq_true (by omega)]; rfl
  · rw [atS_none (fun ⟨j, e, a, b, c⟩ => by have : j = k := by omega
                                            subst this; exact h3 c), decide_eq_false (by omega)]; rfl
theorem tst_drain {P : Pg} {s : Sta} {k : Nat} (ho : OkSt P s) (hk : k < s.ths.length) : tst P s (k : Int) true = if s.ths[k].buf.isEmpty then none else some (drn s k s.ths[k]) := by
  unfold tst
  rw [if_pos rfl, thO_at hk]
  dsimp only
  rw [can_ok (buf_ok ho hk)]
  cases s.ths[k].buf.isEmpty <;> simp
theorem tst_step {P : Pg} {s : Sta} {k : Nat} (h1 : k < s.ths.length) (h2 : k < P.ths.length) (h3 : s.ths[k].at'.toNat < P.ths[k].length) :
    tst P s (k : Int) false = if stuck P.ths[k][s.ths[k].at'.toNat] s.ths[k] then none else some (tsS P.ths[k][s.ths[k].at'.toNat] s k s.ths[k]) := by
  unfold tst
  rw [if_neg (by decide), atS_at h1 h2 h3, thO_at h1]
  simp
theorem tst_out {P : Pg} {s : Sta} {t : Int} {d : Bool} (h : ¬ (0 ≤ t ∧ t < (s.ths.length : Int))) : tst P s t d = none := by
  unfold tst
  rw [thO_none h]
  cases d
  · cases atS P s t <;> rfl
  · rfl
theorem tst_end {P : Pg} {s : Sta} {t : Int} (h : atS P s t = none) : tst P s t false = none := by
  unfold tst; rw [h]; rfl
/-- The ways of a pick that is done. -/
theorem tst_some {P : Pg} {s s' : Sta} {t : Int} {d : Bool} (ho : OkSt P s) (h : tst P s t d = some s') : ∃ k : Nat, t = k ∧ ∃ (h1 : k < s.ths.length) (h2 : k < P.ths.length),
    (d = true ∧ s.ths[k].buf.isEmpty = false ∧ s' = drn s k s.ths[k]) ∨
    (d = false ∧ ∃ h3 : s.ths[k].at'.toNat < P.ths[k].length, stuck P.ths[k][s.ths[k].at'.toNat] s.ths[k] = false ∧ s' = tsS P.ths[k][s.ths[k].at'.toNat] s k s.ths[k]) := by
  by_cases hr : 0 ≤ t ∧ t < (s.ths.length : Int)
  · obtain ⟨k, rfl⟩ : ∃ k : Nat, t = k := ⟨t.toNat, by omega⟩
    have h1 : k < s.ths.length := by omega
    have h2 : k < P.ths.length := by have := ho.ths; omega
    refine ⟨k, rfl, h1, h2, ?_⟩
    cases d
    · refine .inr ⟨rfl, ?_⟩
      by_cases h3 : s.ths[k].at'.toNat < P.ths[k].length
      · rw [tst_step h1 h2 h3] at h
        refine ⟨h3, ?_⟩
        cases hs : stuck P.ths[k][s.ths[k].at'.toNat] s.ths[k]
        · rw [hs] at h; exact ⟨rfl, (by injection h with h; exact h.symm)⟩
        · rw [hs] at h; cases h
      · rw [tst_end (atS_none (fun ⟨j, e, a, b, c⟩ => by have : j = k := by omega
                                                         subst this; exact h3 c))] at h; cases h
    · rw [tst_drain ho h1] at h
      cases hb : s.ths[k].buf.isEmpty
      · rw [hb] at h; exact .inl ⟨rfl, rfl, (by injection h with h; exact h.symm)⟩
      · rw [hb] at h; cases h
  · rw [tst_out hr] at h; cases h
theorem drn_eq {s : Sta} {k : Nat} {h : Th} {w : Wr} {r : List Wr} (hb : h.buf = w :: r) (ho : BfM.ok s.mem.length h.buf) : drn s k h = ⟨BfM.arr s.mem w, s.ths.set k ⟨h.at', h.regs, h.eq, r⟩⟩ := by
  have hp : plc s.mem.length w.loc = true := ho w (by rw [hb]; exact List.mem_cons_self)
  unfold drn drM drB
  rw [hb]
  simp [can, hp]
theorem tsS_len (x : St) (s : Sta) (k : Nat) (h : Th) : (tsS x s k h).mem.length = s.mem.length ∧ (tsS x s k h).ths.length = s.ths.length := by
  unfold tsS
  split
  · simp
  split
  · simp
  split
  · simp
  · simp [stM_len]
/-- The thread behind its step. -/
def tsT (x : St) (s : Sta) (h : Th) : Th :=
  if x.op = 2 then ⟨h.at' + 1, h.regs.set x.reg.toNat ((BfM.view h.buf s.mem x.loc).getD 0), h.eq, h.buf⟩
  else if x.op = 3 then ⟨h.at' + 1, h.regs, h.eq, h.buf ++ [⟨x.loc, nth h.regs x.reg⟩]⟩
  else if x.op = 4 then ⟨h.at' + 1, h.regs, h.eq, h.buf ++ [⟨x.loc, x.n⟩]⟩
  else stT x s.mem h
def tsMm (x : St) (s : Sta) (h : Th) : List Int := if x.op = 5 then ScM.stM x s.mem h.regs else s.mem
theorem tsS_eq (x : St) (s : Sta) (k : Nat) (h : Th) : tsS x s k h = ⟨tsMm x s h, s.ths.set k (tsT x s h)⟩ := by
  unfold tsS tsT tsMm
  by_cases h2 : x.op = 2
  · simp [h2]
  by_cases h3 : x.op = 3
  · simp [h3]
  by_cases h4 : x.op = 4
  · simp [h4]
  simp only [h2, h3, h4, if_false]
  by_cases h5 : x.op = 5
  · simp [h5]
  · rw [if_neg h5]; unfold ScM.stM; simp [h3, h4, h5]
theorem tsMm_len (x : St) (s : Sta) (h : Th) : (tsMm x s h).length = s.mem.length := by
  unfold tsMm; split
  · exact stM_len _ _ _
  · rfl
/-- What a step keeps of its thread. -/
theorem tsT_ok {P : Pg} (hr : rightP P = true) {s : Sta} (ho : OkSt P s) {k : Nat} (h1 : k < s.ths.length) (h2 : k < P.ths.length) (h3 : s.ths[k].at'.toNat < P.ths[k].length) :
    OkTh P.ths[k].length s.mem.length (tsT P.ths[k][s.ths[k].at'.toNat] s s.ths[k]) ∧ s.ths[k].at' < (tsT P.ths[k][s.ths[k].at'.toNat] s s.ths[k]).at' ∧ (tsT P.ths[k][s.ths[k].at'.toNat] s s.ths[k]).buf.length ≤ s.ths[k].buf.length + 1 := by
  have hp := stp_of hr h2 h3
  have hg := goes hr ho h1 h2 h3
  have ht := ho.th k h1 h2
  have lo := ht.lo
  have hi := ht.hi
  have hm := ho.mem
  generalize P.ths[k][s.ths[k].at'.toNat] = x at *
  unfold tsT
  by_cases e2 : x.op = 2
  · rw [if_pos e2]
    exact ⟨⟨by show (0 : Int) ≤ s.ths[k].at' + 1; omega, by show s.ths[k].at' + 1 ≤ (P.ths[k].length : Int); omega, by show (List.set _ _ _).length = 4; rw [List.length_set]; exact ht.regs, ht.buf⟩, by show s.ths[k].at' < s.ths[k].at' + 1; omega, Nat.le_succ _⟩
  rw [if_neg e2]
  have hb : ∀ (y : Wr), y.loc = x.loc → hLoc x.op = true → ∀ w ∈ s.ths[k].buf ++ [y], plc s.mem.length w.loc = true := fun y hy hl w hw => by
    rcases List.mem_append.1 hw with hw | hw
    · exact ht.buf w hw
    · rw [List.mem_singleton.1 hw, hy]
      have := hp.loc hl
      unfold plc; rw [decide_eq_true_eq]; omega
  by_cases e3 : x.op = 3
  · rw [if_pos e3]
    exact ⟨⟨by show (0 : Int) ≤ s.ths[k].at' + 1; omega, by show s.ths[k].at' + 1 ≤ (P.ths[k].length : Int); omega, ht.regs, hb _ rfl (by rw [e3]; rfl)⟩, by show s.ths[k].at' < s.ths[k].at' + 1; omega, by simp⟩
  rw [if_neg e3]
  by_cases e4 : x.op = 4
  · rw [if_pos e4]
    exact ⟨⟨by show (0 : Int) ≤ s.ths[k].at' + 1; omega, by show s.ths[k].at' + 1 ≤ (P.ths[k].length : Int); omega, ht.regs, hb _ rfl (by rw [e4]; rfl)⟩, by show s.ths[k].at' < s.ths[k].at' + 1; omega, by simp⟩
  rw [if_neg e4]
  exact ⟨⟨by omega, hg.2, (stR_len _ _ _).trans ht.regs, ht.buf⟩, hg.1, Nat.le_succ _⟩
theorem set_th {P : Pg} {s : Sta} {m : List Int} {k : Nat} {h : Th} (ho : OkSt P s) (hm : m.length = s.mem.length) (hk : k < s.ths.length) (h2 : k < P.ths.length) (hh : OkTh P.ths[k].length s.mem.length h) : OkSt P ⟨m, s.ths.set k h⟩ := by
  refine ⟨hm.trans ho.mem, by show (List.set _ _ _).length = _; rw [List.length_set]; exact ho.ths, fun t ht ht2 => ?_⟩
  have ht' : t < s.ths.length := by simpa using ht
  show OkTh _ m.length _
  rw [hm]
  show OkTh _ _ (List.set _ _ _)[t]
  rw [List.getElem_set]
  by_cases e : k = t
  · subst e; rw [if_pos rfl]; exact hh
  · rw [if_neg e]; exact ho.th t ht' ht2
theorem drn_ok {P : Pg} {s : Sta} {k : Nat} (ho : OkSt P s) (hk : k < s.ths.length) : OkSt P (drn s k s.ths[k]) := by
  have h2 : k < P.ths.length := by have := ho.ths; omega
  have ht := ho.th k hk h2
  cases hb : s.ths[k].buf with
  | nil =>
    unfold drn; rw [hb]
    exact set_th ho (by rfl) hk h2 ⟨ht.lo, ht.hi, ht.regs, fun w hw => by cases hw⟩
  | cons w r =>
    rw [drn_eq hb ht.buf]
    exact set_th ho (BfM.arr_len _ _) hk h2 ⟨ht.lo, ht.hi, ht.regs, fun y hy => ht.buf y (by rw [hb]; exact List.mem_cons_of_mem _ hy)⟩
/-- A right state stays right. -/
theorem tst_ok {P : Pg} (hr : rightP P = true) {s s' : Sta} {t : Int} {d : Bool} (ho : OkSt P s) (h : tst P s t d = some s') : OkSt P s' := by
  obtain ⟨k, rfl, h1, h2, ⟨rfl, hb, rfl⟩ | ⟨rfl, h3, hs, rfl⟩⟩ := tst_some ho h
  · exact drn_ok ho h1
  · rw [tsS_eq]
    exact set_th ho (tsMm_len _ _ _) h1 h2 (tsT_ok hr ho h1 h2 h3).1
theorem tst_getD_ok {P : Pg} (hr : rightP P = true) {s : Sta} {t : Int} {d : Bool} (ho : OkSt P s) : OkSt P ((tst P s t d).getD s) := by
  cases h : tst P s t d with
  | none => exact ho
  | some s' => exact tst_ok hr ho h
theorem flu_at {s : Sta} {k : Nat} (hk : k < s.ths.length) : flu s (k : Int) = ⟨BfM.all s.ths[k].buf s.mem, s.ths.set k ⟨s.ths[k].at', s.ths[k].regs, s.ths[k].eq, []⟩⟩ := by
  unfold flu; rw [thO_at hk]; rfl
theorem flu_ok {P : Pg} {s : Sta} (t : Int) (ho : OkSt P s) : OkSt P (flu s t) := by
  by_cases hr : 0 ≤ t ∧ t < (s.ths.length : Int)
  · obtain ⟨k, rfl⟩ : ∃ k : Nat, t = k := ⟨t.toNat, by omega⟩
    have hk : k < s.ths.length := by omega
    have h2 : k < P.ths.length := by have := ho.ths; omega
    have ht := ho.th k hk h2
    rw [flu_at hk]
    exact set_th ho (BfM.all_len _ _) hk h2 ⟨ht.lo, ht.hi, ht.regs, fun w hw => by cases hw⟩
  · unfold flu; rw [thO_none hr]; exact ho
theorem sta_eq {m m' : List Int} {l l' : List Th} (h1 : m = m') (h2 : l = l') : (⟨m, l⟩ : Sta) = ⟨m', l'⟩ := by rw [h1, h2]
theorem view_nth {b : List Wr} {m : List Int} {l : Int} (hb : BfM.ok m.length b) (hl : plc m.length l = true) : (BfM.view b m l).getD 0 = nth (BfM.all b m) l := by
  rw [← BfM.all_view b m l hb hl]
  unfold nth; simp [List.getD]
theorem all_snoc {b : List Wr} {m : List Int} {y : Wr} (hb : BfM.ok m.length b) (hy : plc m.length y.loc = true) : BfM.all (b ++ [y]) m = (BfM.all b m).set y.loc.toNat y.n := by
  rw [BfM.all_app b [y] m hb, BfM.all, if_pos (by rw [BfM.all_len]; exact hy)]
  rfl
/-- Flushed, a drain is nothing. -/
theorem flu_drn {P : Pg} {s : Sta} {k : Nat} (ho : OkSt P s) (hk : k < s.ths.length) : flu (drn s k s.ths[k]) (k : Int) = flu s (k : Int) := by
  have hl : k < (drn s k s.ths[k]).ths.length := by show k < (List.set _ _ _).length; rw [List.length_set]; exact hk
  rw [flu_at hl, flu_at hk]
  have hbo := buf_ok ho hk
  cases hb : s.ths[k].buf with
  | nil => unfold drn; simp [hb, drM, drB, can, BfM.all]
  | cons w r =>
    have hp : plc s.mem.length w.loc = true := hbo w (by rw [hb]; exact List.mem_cons_self)
    simp only [drn_eq hb hbo, List.getElem_set_self, List.set_set]
    rw [BfM.all, if_pos hp]
/-- Flushed, a step is that whose writes come there at once. -/
theorem flu_tsS {P : Pg} (hr : rightP P = true) {s : Sta} (ho : OkSt P s) {k : Nat} (h1 : k < s.ths.length) (h2 : k < P.ths.length) (h3 : s.ths[k].at'.toNat < P.ths[k].length) (hs : stuck P.ths[k][s.ths[k].at'.toNat] s.ths[k] = false) :
    flu (tsS P.ths[k][s.ths[k].at'.toNat] s k s.ths[k]) (k : Int) = stp P (flu s (k : Int)) (k : Int) := by
  have hbo := buf_ok ho h1
  have hp := stp_of hr h2 h3
  have hl : k < (tsS P.ths[k][s.ths[k].at'.toNat] s k s.ths[k]).ths.length := by rw [(tsS_len _ _ _ _).2]; exact h1
  have hf : k < (flu s (k : Int)).ths.length := by rw [flu_at h1]; simpa using h1
  have hfa : (flu s (k : Int)).ths[k] = ⟨s.ths[k].at', s.ths[k].regs, s.ths[k].eq, []⟩ := by simp [flu_at h1]
  have hfm : (flu s (k : Int)).mem = BfM.all s.ths[k].buf s.mem := by rw [flu_at h1]
  have hft : (flu s (k : Int)).ths = s.ths.set k ⟨s.ths[k].at', s.ths[k].regs, s.ths[k].eq, []⟩ := by rw [flu_at h1]
  have h3' : (flu s (k : Int)).ths[k].at'.toNat < P.ths[k].length := by rw [hfa]; exact h3
  have hx : P.ths[k][(flu s (k : Int)).ths[k].at'.toNat]'h3' = P.ths[k][s.ths[k].at'.toNat] := by simp only [hfa]
  rw [flu_at hl, stp_at hf h2 h3', hx]
  clear hx
  simp only [hfa, hfm, hft, List.set_set]
  have hm := ho.mem
  generalize P.ths[k][s.ths[k].at'.toNat] = x at *
  rw [show (tsS x s k s.ths[k]).ths[k] = tsT x s s.ths[k] from by simp only [tsS_eq, List.getElem_set_self]]
  simp only [tsS_eq, List.set_set]
  generalize s.ths[k] = h at *
  obtain ⟨xa, xr, xe, xb⟩ := h
  have hop : ∀ b, 8 > x.op → jumps x b = false := fun b hb => by unfold jumps; simp; omega
  have hpl : hLoc x.op = true → plc s.mem.length x.loc = true := fun e => by
    have := hp.loc e; unfold plc; rw [decide_eq_true_eq]; omega
  by_cases e2 : x.op = 2
  · refine sta_eq ?_ ?_
    · simp [tsMm, tsT, ScM.stM, e2]
    · simp [tsT, stT, stR, stE, e2, hop xe (by omega), view_nth hbo (hpl (by rw [e2]; rfl))]
  by_cases e3 : x.op = 3
  · refine sta_eq ?_ ?_
    · simp only [tsMm, tsT, ScM.stM, e3]
      simp only [show ¬ (3 : Int) = 5 by decide, show ¬ (3 : Int) = 2 by decide, if_true, if_false]
      rw [all_snoc hbo (by exact hpl (by rw [e3]; rfl))]
      simp
    · simp [tsT, stT, stR, stE, e3, hop xe (by omega)]
  by_cases e4 : x.op = 4
  · refine sta_eq ?_ ?_
    · simp only [tsMm, tsT, ScM.stM, e4]
      simp only [show ¬ (4 : Int) = 5 by decide, show ¬ (4 : Int) = 2 by decide, show ¬ (4 : Int) = 3 by decide, if_true, if_false]
      rw [all_snoc hbo (by exact hpl (by rw [e4]; rfl))]
    · simp [tsT, stT, stR, stE, e4, hop xe (by omega)]
  by_cases e5 : x.op = 5
  · have hbe : xb = [] := by
      unfold stuck at hs
      simp only [e5, decide_true, Bool.or_true, Bool.and_true, Bool.not_eq_false'] at hs
      exact List.isEmpty_iff.1 hs
    subst hbe
    refine sta_eq ?_ ?_
    · simp [tsMm, tsT, ScM.stM, stT, e5, BfM.all]
    · simp [tsT, stT, stR, stE, e5, BfM.all]
  refine sta_eq ?_ ?_
  · simp [tsMm, tsT, ScM.stM, stT, e2, e3, e4, e5]
  · simp [tsT, stT, stR, stE, e2, e3, e4, e5]
/-! What is wide. -/
/-- The picks that can be done, of thread t. -/
def cnd (P : Pg) (s : Sta) (t : Nat) (d : Bool) : List (Nat × Bool) := if (tst P s (t : Int) d).isSome then [(t, d)] else []
def pkN (P : Pg) (s : Sta) (n : Nat) : List (Nat × Bool) := (List.range n).flatMap (fun t => cnd P s t false ++ cnd P s t true)
theorem pkN_zero (P : Pg) (s : Sta) : pkN P s 0 = [] := rfl
theorem pkN_next (P : Pg) (s : Sta) (n : Nat) : pkN P s (n + 1) = pkN P s n ++ (cnd P s n false ++ cnd P s n true) := by
  unfold pkN; rw [List.range_succ, List.flatMap_append]; simp
def pks (P : Pg) (s : Sta) : List (Nat × Bool) := pkN P s s.ths.length
theorem cnd_len (P : Pg) (s : Sta) (t : Nat) (d : Bool) : (cnd P s t d).length ≤ 1 := by unfold cnd; split <;> simp
theorem pkN_len (P : Pg) (s : Sta) : ∀ n, (pkN P s n).length ≤ 2 * n
  | 0 => Nat.le_refl _
  | n + 1 => by
    rw [pkN_next, List.length_append, List.length_append]
    have := pkN_len P s n
    have := cnd_len P s n false
    have := cnd_len P s n true
    omega
theorem cnd_mem {P : Pg} {s : Sta} {t : Nat} {d : Bool} {p : Nat × Bool} (h : p ∈ cnd P s t d) : p = (t, d) ∧ (tst P s (t : Int) d).isSome = true := by
  unfold cnd at h
  split at h
  · rename_i e; exact ⟨List.mem_singleton.1 h, e⟩
  · cases h
theorem pkN_mem {P : Pg} {s : Sta} {n : Nat} {p : Nat × Bool} : p ∈ pkN P s n ↔ p.1 < n ∧ (tst P s (p.1 : Int) p.2).isSome = true := by
  unfold pkN
  rw [List.mem_flatMap]
  constructor
  · rintro ⟨t, ht, hp⟩
    rw [List.mem_range] at ht
    rcases List.mem_append.1 hp with hp | hp
    · obtain ⟨rfl, h⟩ := cnd_mem hp; exact ⟨ht, h⟩
    · obtain ⟨rfl, h⟩ := cnd_mem hp; exact ⟨ht, h⟩
  · rintro ⟨h1, h2⟩
    obtain ⟨t, d⟩ := p
    refine ⟨t, List.mem_range.2 h1, ?_⟩
    cases d
    · refine List.mem_append_left _ ?_
      unfold cnd; rw [if_pos h2]; exact List.mem_singleton.2 rfl
    · refine List.mem_append_right _ ?_
      unfold cnd; rw [if_pos h2]; exact List.mem_singleton.2 rfl
theorem pks_mem {P : Pg} {s : Sta} {p : Nat × Bool} : p ∈ pks P s ↔ (tst P s (p.1 : Int) p.2).isSome = true := by
  unfold pks
  rw [pkN_mem]
  refine ⟨fun h => h.2, fun h => ⟨?_, h⟩⟩
  by_cases hr : 0 ≤ (p.1 : Int) ∧ (p.1 : Int) < (s.ths.length : Int)
  · omega
  · rw [tst_out hr] at h; cases h
/-- The picks rise. -/
def lessK (p q : Nat × Bool) : Prop := p.1 < q.1 ∨ (p.1 = q.1 ∧ p.2 = false ∧ q.2 = true)
theorem pkN_rise (P : Pg) (s : Sta) : ∀ n, (pkN P s n).Pairwise lessK
  | 0 => List.Pairwise.nil
  | n + 1 => by
    rw [pkN_next]
    refine List.pairwise_append.2 ⟨pkN_rise P s n, List.pairwise_append.2 ⟨?_, ?_, fun a ha b hb => ?_⟩, fun a ha b hb => .inl ?_⟩
    · unfold cnd; split
      · exact List.pairwise_singleton _ _
      · exact List.Pairwise.nil
    · unfold cnd; split
      · exact List.pairwise_singleton _ _
      · exact List.Pairwise.nil
    · obtain ⟨rfl, -⟩ := cnd_mem ha
      obtain ⟨rfl, -⟩ := cnd_mem hb
      exact .inr ⟨rfl, rfl, rfl⟩
    · have h1 := (pkN_mem.1 ha).1
      rcases List.mem_append.1 hb with hb | hb
      · obtain ⟨rfl, -⟩ := cnd_mem hb; exact h1
      · obtain ⟨rfl, -⟩ := cnd_mem hb; exact h1
end Go.Proofs.Ytkbnppidkhbbeaa
