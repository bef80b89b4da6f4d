/-
  LAYER 11, as mathematics, 2: picks keep a right state right; which can be done; writes flushed; the steps that are left.
  LAYER 11, as mathematics, 3: what is left: twice the steps, and the writes that are on their way.
  LAYER 13, as mathematics: picks, one behind the other.
  ALL STATES OF A CODE, as mathematics: what follows a state; what leads to one, as runs; strict in weak; there is an end. Of no program.
  A CODE OF ONE THREAD, as mathematics: its states one behind the other, one end, of both kinds of runs. Of no program.
  EXPLORE'S ANSWER, as mathematics: with whatever fuel; what the laws ask of it. Of no program.
  LAYER 13, as mathematics, 2: how wide what picks lead to is.
  THE SEARCH, mathematics: all numbers of what is reached are small; what is reached, with whence it came. Of no program.
-/
import Derived.Test.YtbffjhdocicfoaaK15
import Derived.Test.YtbffjhdocicfoaaK00
import Derived.Test.YtbffjhdocicfoaaScW
import Derived.Test.YtbffjhdocicfoaaK10
set_option linter.unusedVariables false
set_option linter.unusedSimpArgs false
namespace Go.Proofs.Ytbffjhdocicfoaa
set_option linter.unusedVariables false
set_option linter.unusedSimpArgs false
open CodM (St Pg rightP hReg hLoc)
open BfM (Wr plc)
open ScM

theorem can_ok {m : Nat} {b : List Wr} (h : BfM.ok m b) : can b m = !b.isEmpty := by
  cases b with
  | nil => rfl
  | cons w r => exact h w List.mem_cons_self
theorem buf_ok {P : Pg} {s : Sta} (ho : OkSt P s) {k : Nat} (hk : k < s.ths.length) : BfM.ok s.mem.length s.ths[k].buf := (ho.th k hk (by have := ho.ths; omega)).buf
theorem atS_iff {P : Pg} {s : Sta} {k : Nat} (ho : OkSt P s) (hk : k < s.ths.length) (h2 : k < P.ths.length) : (atS P s (k : Int)).isSome = decide (s.ths[k].at' < P.ths[k].length) := by
  have ht := ho.th k hk h2
  have := ht.lo
  by_cases h3 : s.ths[k].at'.toNat < P.ths[k].length
  · rw [atS_at hk h2 h3, decide_eq_true (by omega)]; rfl
  · rw [atS_none (fun ⟨j, e, a, b, c⟩ => by have : j = k := by omega
                                            subst this; exact h3 c), decide_eq_false (by omega)]; rfl
theorem tst_drain {P : Pg} {s : Sta} {k : Nat} (ho : OkSt P s) (hk : k < s.ths.length) : tst P s (k : Int) true = if s.ths[k].buf.isEmpty then none else some (drn s k s.ths[k]) := by
  unfold tst
  rw [if_pos rfl, thO_at hk]
  dsimp only
  rw [can_ok (buf_ok ho hk)]
  cases s.ths[k].buf.isEmpty <;> simp
theorem tst_step {P : Pg} {s : Sta} {k : Nat} (h1 : k < s.ths.length) (h2 : k < P.ths.length) (h3 : s.ths[k].at'.toNat < P.ths[k].length) :
    tst P s (k : Int) false = if stuck P.ths[k][s.ths[k].at'.toNat] s.ths[k] then none else some (tsS P.ths[k][s.ths[k].at'.toNat] s k s.ths[k]) := by
  unfold tst
  rw [if_neg (by decide), atS_at h1 h2 h3, thO_at h1]
  simp
theorem tst_out {P : Pg} {s : Sta} {t : Int} {d : Bool} (h : ¬ (0 ≤ t ∧ t < (s.ths.length : Int))) : tst P s t d = none := by
  unfold tst
  rw [thO_none h]
  cases d
  · cases atS P s t <;> rfl
  · rfl
theorem tst_end {P : Pg} {s : Sta} {t : Int} (h : atS P s t = none) : tst P s t false = none := by
  unfold tst; rw [h]; rfl
/-- The ways of a pick that is done. -/
theorem tst_some {P : Pg} {s s' : Sta} {t : Int} {d : Bool} (ho : OkSt P s) (h : tst P s t d = some s') : ∃ k : Nat, t = k ∧ ∃ (h1 : k < s.ths.length) (h2 : k < P.ths.length),
    (d = true ∧ s.ths[k].buf.isEmpty = false ∧ s' = drn s k s.ths[k]) ∨
    (d = false ∧ ∃ h3 : s.ths[k].at'.toNat < P.ths[k].length, stuck P.ths[k][s.ths[k].at'.toNat] s.ths[k] = false ∧ s' = tsS P.ths[k][s.ths[k].at'.toNat] s k s.ths[k]) := by
  by_cases hr : 0 ≤ t ∧ t < (s.ths.length : Int)
  · obtain ⟨k, rfl⟩ : ∃ k : Nat, t = k := ⟨t.toNat, by omega⟩
    have h1 : k < s.ths.length := by omega
    have h2 : k < P.ths.length := by have := ho.ths; omega
    refine ⟨k, rfl, h1, h2, ?_⟩
    cases d
    · refine .inr ⟨rfl, ?_⟩
      by_cases h3 : s.ths[k].at'.toNat < P.ths[k].length
      · rw [tst_step h1 h2 h3] at h
        refine ⟨h3, ?_⟩
        cases hs : stuck P.ths[k][s.ths[k].at'.toNat] s.ths[k]
        · rw [hs] at h; exact ⟨rfl, (by injection h with h; exact h.symm)⟩
        · rw [hs] at h; cases h
      · rw [tst_end (atS_none (fun ⟨j, e, a, b, c⟩ => by have : j = k := by omega
                                                         subst this; exact h3 c))] at h; cases h
    · rw [tst_drain ho h1] at h
      cases hb : s.ths[k].buf.isEmpty
      · rw [hb] at h; exact .inl ⟨rfl, rfl, (by injection h with h; exact h.symm)⟩
      · rw [hb] at h; cases h
  · rw [tst_out hr] at h; cases h
theorem drn_eq {s : Sta} {k : Nat} {h : Th} {w : Wr} {r : List Wr} (hb : h.buf = w :: r) (ho : BfM.ok s.mem.length h.buf) : drn s k h = ⟨BfM.arr s.mem w, s.ths.set k ⟨h.at', h.regs, h.eq, r⟩⟩ := by
  have hp : plc s.mem.length w.loc = true := ho w (by rw [hb]; exact List.mem_cons_self)
  unfold drn drM drB
  rw [hb]
  simp [can, hp]
theorem tsS_len (x : St) (s : Sta) (k : Nat) (h : Th) : (tsS x s k h).mem.length = s.mem.length ∧ (tsS x s k h).ths.length = s.ths.length := by
  unfold tsS
  split
  · simp
  split
  · simp
  split
  · simp
  · simp [stM_len]
/-- The thread behind its step. -/
def tsT (x : St) (s : Sta) (h : Th) : Th :=
  if x.op = 2 then ⟨h.at' + 1, h.regs.set x.reg.toNat ((BfM.view h.buf s.mem x.loc).getD 0), h.eq, h.buf⟩
  else if x.op = 3 then ⟨h.at' + 1, h.regs, h.eq, h.buf ++ [⟨x.loc, nth h.regs x.reg⟩]⟩
  else if x.op = 4 then ⟨h.at' + 1, h.regs, h.eq, h.buf ++ [⟨x.loc, x.n⟩]⟩
  else stT x s.mem h
def tsMm (x : St) (s : Sta) (h : Th) : List Int := if x.op = 5 then ScM.stM x s.mem h.regs else s.mem
theorem tsS_eq (x : St) (s : Sta) (k : Nat) (h : Th) : tsS x s k h = ⟨tsMm x s h, s.ths.set k (tsT x s h)⟩ := by
  unfold tsS tsT tsMm
  by_cases h2 : x.op = 2
  · simp [h2]
  by_cases h3 : x.op = 3
  · simp [h3]
  by_cases h4 : x.op = 4
  · simp [h4]
  simp only [h2, h3, h4, if_false]
  by_cases h5 : x.op = 5
  · simp [h5]
  · rw [if_neg h5]; unfold ScM.stM; simp [h3, h4, h5]
theorem tsMm_len (x : St) (s : Sta) (h : Th) : (tsMm x s h).length = s.mem.length := by
  unfold tsMm; split
  · exact stM_len _ _ _
  · rfl
/-- What a step keeps of its thread. -/
theorem tsT_ok {P : Pg} (hr : rightP P = true) {s : Sta} (ho : OkSt P s) {k : Nat} (h1 : k < s.ths.length) (h2 : k < P.ths.length) (h3 : s.ths[k].at'.toNat < P.ths[k].length) :
    OkTh P.ths[k].length s.mem.length (tsT P.ths[k][s.ths[k].at'.toNat] s s.ths[k]) ∧ s.ths[k].at' < (tsT P.ths[k][s.ths[k].at'.toNat] s s.ths[k]).at' ∧ (tsT P.ths[k][s.ths[k].at'.toNat] s s.ths[k]).buf.length ≤ s.ths[k].buf.length + 1 := by
  have hp := stp_of hr h2 h3
  have hg := goes hr ho h1 h2 h3
  have ht := ho.th k h1 h2
  have lo := ht.lo
  have hi := ht.hi
  have hm := ho.mem
  generalize P.ths[k][s.ths[k].at'.toNat] = x at *
  unfold tsT
  by_cases e2 : x.op = 2
  · rw [if_pos e2]
    exact ⟨⟨by show (0 : Int) ≤ s.ths[k].at' + 1; omega, by show s.ths[k].at' + 1 ≤ (P.ths[k].length : Int); omega, by show (List.set _ _ _).length = 4; rw [List.length_set]; exact ht.regs, ht.buf⟩, by show s.ths[k].at' < s.ths[k].at' + 1; omega, Nat.le_succ _⟩
  rw [if_neg e2]
  have hb : ∀ (y : Wr), y.loc = x.loc → hLoc x.op = true → ∀ w ∈ s.ths[k].buf ++ [y], plc s.mem.length w.loc = true := fun y hy hl w hw => by
    rcases List.mem_append.1 hw with hw | hw
    · exact ht.buf w hw
    · rw [List.mem_singleton.1 hw, hy]
      have := hp.loc hl
      unfold plc; rw [decide_eq_true_eq]; omega
  by_cases e3 : x.op = 3
  · rw [if_pos e3]
    exact ⟨⟨by show (0 : Int) ≤ s.ths[k].at' + 1; omega, by show s.ths[k].at' + 1 ≤ (P.ths[k].length : Int); omega, ht.regs, hb _ rfl (by rw [e3]; rfl)⟩, by show s.ths[k].at' < s.ths[k].at' + 1; omega, by simp⟩
  rw [if_neg e3]
  by_cases e4 : x.op = 4
  · rw [if_pos e4]
    exact ⟨⟨by show (0 : Int) ≤ s.ths[k].at' + 1; omega, by show s.ths[k].at' + 1 ≤ (P.ths[k].length : Int); omega, ht.regs, hb _ rfl (by rw [e4]; rfl)⟩, by show s.ths[k].at' < s.ths[k].at' + 1; omega, by simp⟩
  rw [if_neg e4]
  exact ⟨⟨by omega, hg.2, (stR_len _ _ _).trans ht.regs, ht.buf⟩, hg.1, Nat.le_succ _⟩
theorem set_th {P : Pg} {s : Sta} {m : List Int} {k : Nat} {h : Th} (ho : OkSt P s) (hm : m.length = s.mem.length) (hk : k < s.ths.length) (h2 : k < P.ths.length) (hh : OkTh P.ths[k].length s.mem.length h) : OkSt P ⟨m, s.ths.set k h⟩ := by
  refine ⟨hm.trans ho.mem, by show (List.set _ _ _).length = _; rw [List.length_set]; exact ho.ths, fun t ht ht2 => ?_⟩
  have ht' : t < s.ths.length := by simpa using ht
  show OkTh _ m.length _
  rw [hm]
  show OkTh _ _ (List.set _ _ _)[t]
  rw [List.getElem_set]
  by_cases e : k = t
  · subst e; rw [if_pos rfl]; exact hh
  · rw [if_neg e]; exact ho.th t ht' ht2
theorem drn_ok {P : Pg} {s : Sta} {k : Nat} (ho : OkSt P s) (hk : k < s.ths.length) : OkSt P (drn s k s.ths[k]) := by
  have h2 : k < P.ths.length := by have := ho.ths; omega
  have ht := ho.th k hk h2
  cases hb : s.ths[k].buf with
  | nil =>
    unfold drn; rw [hb]
    exact set_th ho (by rfl) hk h2 ⟨ht.lo, ht.hi, ht.regs, fun w hw => by cases hw⟩
  | cons w r =>
    rw [drn_eq hb ht.buf]
    exact set_th ho (BfM.arr_len _ _) hk h2 ⟨ht.lo, ht.hi, ht.regs, fun y hy => ht.buf y (by rw [hb]; exact List.mem_cons_of_mem _ hy)⟩
/-- A right state stays right. -/
theorem tst_ok {P : Pg} (hr : rightP P = true) {s s' : Sta} {t : Int} {d : Bool} (ho : OkSt P s) (h : tst P s t d = some s') : OkSt P s' := by
  obtain ⟨k, rfl, h1, h2, ⟨rfl, hb, rfl⟩ | ⟨rfl, h3, hs, rfl⟩⟩ := tst_some ho h
  · exact drn_ok ho h1
  · rw [tsS_eq]
    exact set_th ho (tsMm_len _ _ _) h1 h2 (tsT_ok hr ho h1 h2 h3).1
theorem flu_at {s : Sta} {k : Nat} (hk : k < s.ths.length) : flu s (k : Int) = ⟨BfM.all s.ths[k].buf s.mem, s.ths.set k ⟨s.ths[k].at', s.ths[k].regs, s.ths[k].eq, []⟩⟩ := by
  unfold flu; rw [thO_at hk]; rfl
theorem sta_eq {m m' : List Int} {l l' : List Th} (h1 : m = m') (h2 : l = l') : (⟨m, l⟩ : Sta) = ⟨m', l'⟩ := by rw [h1, h2]
theorem view_nth {b : List Wr} {m : List Int} {l : Int} (hb : BfM.ok m.length b) (hl : plc m.length l = true) : (BfM.view b m l).getD 0 = nth (BfM.all b m) l := by
  rw [← BfM.all_view b m l hb hl]
  unfold nth; simp [List.getD]
theorem all_snoc {b : List Wr} {m : List Int} {y : Wr} (hb : BfM.ok m.length b) (hy : plc m.length y.loc = true) : BfM.all (b ++ [y]) m = (BfM.all b m).set y.loc.toNat y.n := by
  rw [BfM.all_app b [y] m hb, BfM.all, if_pos (by rw [BfM.all_len]; exact hy)]
  rfl
/-- Flushed, a drain is nothing. -/
theorem flu_drn {P : Pg} {s : Sta} {k : Nat} (ho : OkSt P s) (hk : k < s.ths.length) : flu (drn s k s.ths[k]) (k : Int) = flu s (k : Int) := by
  have hl : k < (drn s k s.ths[k]).ths.length := by show k < (List.set _ _ _).length; rw [List.length_set]; exact hk
  rw [flu_at hl, flu_at hk]
  have hbo := buf_ok ho hk
  cases hb : s.ths[k].buf with
  | nil => unfold drn; simp [hb, drM, drB, can, BfM.all]
  | cons w r =>
    have hp : plc s.mem.length w.loc = true := hbo w (by rw [hb]; exact List.mem_cons_self)
    simp only [drn_eq hb hbo, List.getElem_set_self, List.set_set]
    rw [BfM.all, if_pos hp]
/-- Flushed, a step is that whose writes come there at once. -/
theorem flu_tsS {P : Pg} (hr : rightP P = true) {s : Sta} (ho : OkSt P s) {k : Nat} (h1 : k < s.ths.length) (h2 : k < P.ths.length) (h3 : s.ths[k].at'.toNat < P.ths[k].length) (hs : stuck P.ths[k][s.ths[k].at'.toNat] s.ths[k] = false) :
    flu (tsS P.ths[k][s.ths[k].at'.toNat] s k s.ths[k]) (k : Int) = stp P (flu s (k : Int)) (k : Int) := by
  have hbo := buf_ok ho h1
  have hp := stp_of hr h2 h3
  have hl : k < (tsS P.ths[k][s.ths[k].at'.toNat] s k s.ths[k]).ths.length := by rw [(tsS_len _ _ _ _).2]; exact h1
  have hf : k < (flu s (k : Int)).ths.length := by rw [flu_at h1]; simpa using h1
  have hfa : (flu s (k : Int)).ths[k] = ⟨s.ths[k].at', s.ths[k].regs, s.ths[k].eq, []⟩ := by simp [flu_at h1]
  have hfm : (flu s (k : Int)).mem = BfM.all s.ths[k].buf s.mem := by rw [flu_at h1]
  have hft : (flu s (k : Int)).ths = s.ths.set k ⟨s.ths[k].at', s.ths[k].regs, s.ths[k].eq, []⟩ := by rw [flu_at h1]
  have h3' : (flu s (k : Int)).ths[k].at'.toNat < P.ths[k].length := by rw [hfa]; exact h3
  have hx : P.ths[k][(flu s (k : Int)).ths[k].at'.toNat]'h3' = P.ths[k][s.ths[k].at'.toNat] := by simp only [hfa]
  rw [flu_at hl, stp_at hf h2 h3', hx]
  clear hx
  simp only [hfa, hfm, hft, List.set_set]
  have hm := ho.mem
  generalize P.ths[k][s.ths[k].at'.toNat] = x at *
  rw [show (tsS x s k s.ths[k]).ths[k] = tsT x s s.ths[k] from by simp only [tsS_eq, List.getElem_set_self]]
  simp only [tsS_eq, List.set_set]
  generalize s.ths[k] = h at *
  obtain ⟨xa, xr, xe, xb⟩ := h
  have hop : ∀ b, 8 > x.op → jumps x b = false := fun b hb => by unfold jumps; simp; omega
  have hpl : hLoc x.op = true → plc s.mem.length x.loc = true := fun e => by
    have := hp.loc e; unfold plc; rw [decide_eq_true_eq]; omega
  by_cases e2 : x.op = 2
  · refine sta_eq ?_ ?_
    · simp [tsMm, tsT, ScM.stM, e2]
    · simp [tsT, stT, stR, stE, e2, hop xe (by omega), view_nth hbo (hpl (by rw [e2]; rfl))]
  by_cases e3 : x.op = 3
  · refine sta_eq ?_ ?_
    · simp only [tsMm, tsT, ScM.stM, e3]
      simp only [show ¬ (3 : Int) = 5 by decide, show ¬ (3 : Int) = 2 by decide, if_true, if_false]
      rw [all_snoc hbo (by exact hpl (by rw [e3]; rfl))]
      simp
    · simp [tsT, stT, stR, stE, e3, hop xe (by omega)]
  by_cases e4 : x.op = 4
  · refine sta_eq ?_ ?_
    · simp only [tsMm, tsT, ScM.stM, e4]
      simp only [show ¬ (4 : Int) = 5 by decide, show ¬ (4 : Int) = 2 by decide, show ¬ (4 : Int) = 3 by decide, if_true, if_false]
      rw [all_snoc hbo (by exact hpl (by rw [e4]; rfl))]
    · simp [tsT, stT, stR, stE, e4, hop xe (by omega)]
  by_cases e5 : x.op = 5
  · have hbe : xb = [] := by
      unfold stuck at hs
      simp only [e5, decide_true, Bool.or_true, Bool.and_true, Bool.not_eq_false'] at hs
      exact List.isEmpty_iff.1 hs
    subst hbe
    refine sta_eq ?_ ?_
    · simp [tsMm, tsT, ScM.stM, stT, e5, BfM.all]
    · simp [tsT, stT, stR, stE, e5, BfM.all]
  refine sta_eq ?_ ?_
  · simp [tsMm, tsT, ScM.stM, stT, e2, e3, e4, e5]
  · simp [tsT, stT, stR, stE, e2, e3, e4, e5]
/-! What is wide. -/
/-- The picks that can be done, of thread t. -/
def cnd (P : Pg) (s : Sta) (t : Nat) (d : Bool) : List (Nat × Bool) := if (tst P s (t : Int) d).isSome then [(t, d)] else []
def pkN (P : Pg) (s : Sta) (n : Nat) : List (Nat × Bool) := (List.range n).flatMap (fun t => cnd P s t false ++ cnd P s t true)
theorem pkN_next (P : Pg) (s : Sta) (n : Nat) : pkN P s (n + 1) = pkN P s n ++ (cnd P s n false ++ cnd P s n true) := by
  unfold pkN; rw [List.range_succ, List.flatMap_append]; simp
def pks (P : Pg) (s : Sta) : List (Nat × Bool) := pkN P s s.ths.length
theorem cnd_len (P : Pg) (s : Sta) (t : Nat) (d : Bool) : (cnd P s t d).length ≤ 1 := by unfold cnd; split <;> simp
theorem pkN_len (P : Pg) (s : Sta) : ∀ n, (pkN P s n).length ≤ 2 * n
  | 0 => Nat.le_refl _
  | n + 1 => by
    rw [pkN_next, List.length_append, List.length_append]
    have := pkN_len P s n
    have := cnd_len P s n false
    have := cnd_len P s n true
    omega
theorem cnd_mem {P : Pg} {s : Sta} {t : Nat} {d : Bool} {p : Nat × Bool} (h : p ∈ cnd P s t d) : p = (t, d) ∧ (tst P s (t : Int) d).isSome = true := by
  unfold cnd at h
  split at h
  · rename_i e; exact ⟨List.mem_singleton.1 h, e⟩
  · cases h
theorem pkN_mem {P : Pg} {s : Sta} {n : Nat} {p : Nat × Bool} : p ∈ pkN P s n ↔ p.1 < n ∧ (tst P s (p.1 : Int) p.2).isSome = true := by
  unfold pkN
  rw [List.mem_flatMap]
  constructor
  · rintro ⟨t, ht, hp⟩
    rw [List.mem_range] at ht
    rcases List.mem_append.1 hp with hp | hp
    · obtain ⟨rfl, h⟩ := cnd_mem hp; exact ⟨ht, h⟩
    · obtain ⟨rfl, h⟩ := cnd_mem hp; exact ⟨ht, h⟩
  · rintro ⟨h1, h2⟩
    obtain ⟨t, d⟩ := p
    refine ⟨t, List.mem_range.2 h1, ?_⟩
    cases d
    · refine List.mem_append_left _ ?_
      unfold cnd; rw [if_pos h2]; exact List.mem_singleton.2 rfl
    · refine List.mem_append_right _ ?_
      unfold cnd; rw [if_pos h2]; exact List.mem_singleton.2 rfl
theorem pks_mem {P : Pg} {s : Sta} {p : Nat × Bool} : p ∈ pks P s ↔ (tst P s (p.1 : Int) p.2).isSome = true := by
  unfold pks
  rw [pkN_mem]
  refine ⟨fun h => h.2, fun h => ⟨?_, h⟩⟩
  by_cases hr : 0 ≤ (p.1 : Int) ∧ (p.1 : Int) < (s.ths.length : Int)
  · omega
  · rw [tst_out hr] at h; cases h
/-- The picks rise. -/
def lessK (p q : Nat × Bool) : Prop := p.1 < q.1 ∨ (p.1 = q.1 ∧ p.2 = false ∧ q.2 = true)
theorem pkN_rise (P : Pg) (s : Sta) : ∀ n, (pkN P s n).Pairwise lessK
  | 0 => List.Pairwise.nil
  | n + 1 => by
    rw [pkN_next]
    refine List.pairwise_append.2 ⟨pkN_rise P s n, List.pairwise_append.2 ⟨?_, ?_, fun a ha b hb => ?_⟩, fun a ha b hb => .inl ?_⟩
    · unfold cnd; split
      · exact List.pairwise_singleton _ _
      · exact List.Pairwise.nil
    · unfold cnd; split
      · exact List.pairwise_singleton _ _
      · exact List.Pairwise.nil
    · obtain ⟨rfl, -⟩ := cnd_mem ha
      obtain ⟨rfl, -⟩ := cnd_mem hb
      exact .inr ⟨rfl, rfl, rfl⟩
    · have h1 := (pkN_mem.1 ha).1
      rcases List.mem_append.1 hb with hb | hb
      · obtain ⟨rfl, -⟩ := cnd_mem hb; exact h1
      · obtain ⟨rfl, -⟩ := cnd_mem hb; exact h1
end Go.Proofs.Ytbffjhdocicfoaa
namespace Go.Proofs.Ytbffjhdocicfoaa
set_option linter.unusedVariables false
set_option linter.unusedSimpArgs false
open CodM (St Pg rightP hReg hLoc)
open BfM (Wr plc)
open ScM

def trm (ss : List St) (h : Th) : Nat := 2 * (ss.length - h.at'.toNat) + h.buf.length
def msrN (P : Pg) (s : Sta) : Nat → Nat
  | 0 => 0
  | n + 1 => msrN P s n + trm (P.ths.getD n []) (s.ths.getD n begTh)
theorem msrN_next {P : Pg} {s : Sta} {n : Nat} (h1 : n < s.ths.length) (h2 : n < P.ths.length) : msrN P s (n + 1) = msrN P s n + trm P.ths[n] s.ths[n] := by
  rw [msrN]; simp [List.getD, h1, h2]
theorem msrN_set {P : Pg} {s : Sta} {m : List Int} {k : Nat} {h : Th} (hk : k < s.ths.length) (h2 : k < P.ths.length) (ht : trm P.ths[k] h + 1 ≤ trm P.ths[k] s.ths[k]) : ∀ n, msrN P ⟨m, s.ths.set k h⟩ n + (if k < n then 1 else 0) ≤ msrN P s n
  | 0 => by simp [msrN]
  | n + 1 => by
    have ih := msrN_set (m := m) hk h2 ht n
    rw [msrN, msrN]
    by_cases e : n = k
    · subst e
      have e1 : ((s.ths.set n h).getD n begTh) = h := by simp [List.getD, hk]
      have e2 : s.ths.getD n begTh = s.ths[n] := by simp [List.getD, hk]
      have e3 : P.ths.getD n [] = P.ths[n] := by simp [List.getD, h2]
      rw [if_neg (Nat.lt_irrefl n)] at ih
      rw [if_pos (Nat.lt_succ_self n)]
      show msrN P _ n + trm (P.ths.getD n []) ((s.ths.set n h).getD n begTh) + 1 ≤ _
      rw [e1, e2, e3]
      omega
    · have e1 : ((s.ths.set k h).getD n begTh) = s.ths.getD n begTh := by
        simp only [List.getD]
        rw [List.getElem?_set_ne (Ne.symm e)]
      show msrN P _ n + trm (P.ths.getD n []) ((s.ths.set k h).getD n begTh) + _ ≤ _
      rw [e1]
      by_cases c : k < n
      · rw [if_pos c] at ih; rw [if_pos (by omega)]; omega
      · rw [if_neg c] at ih; rw [if_neg (by omega)]; omega
def msr (P : Pg) (s : Sta) : Nat := msrN P s s.ths.length
/-- A pick leaves less. -/
theorem tst_less {P : Pg} (hr : rightP P = true) {s s' : Sta} {t : Int} {d : Bool} (ho : OkSt P s) (h : tst P s t d = some s') : msr P s' + 1 ≤ msr P s := by
  obtain ⟨k, rfl, h1, h2, ⟨rfl, hb, rfl⟩ | ⟨rfl, h3, hs, rfl⟩⟩ := tst_some ho h
  · cases hbb : s.ths[k].buf with
    | nil => rw [hbb] at hb; cases hb
    | cons y r =>
      rw [drn_eq hbb (buf_ok ho h1)]
      have := msrN_set (m := BfM.arr s.mem y) (h := ⟨s.ths[k].at', s.ths[k].regs, s.ths[k].eq, r⟩) h1 h2 (by unfold trm; rw [hbb]; simp; omega) s.ths.length
      rw [if_pos h1] at this
      unfold msr
      simpa using this
  · rw [tsS_eq]
    have hk := tsT_ok hr ho h1 h2 h3
    have hlo := (ho.th k h1 h2).lo
    have := msrN_set (m := tsMm P.ths[k][s.ths[k].at'.toNat] s s.ths[k]) (h := tsT P.ths[k][s.ths[k].at'.toNat] s s.ths[k]) h1 h2 (by
      unfold trm
      have a := hk.2.1
      have b := hk.2.2
      have c := hk.1.hi
      omega) s.ths.length
    rw [if_pos h1] at this
    unfold msr
    simpa using this
/-- Where no pick is left, all is done. -/
theorem pks_nil {P : Pg} {s : Sta} (ho : OkSt P s) (h : pks P s = []) {k : Nat} (h1 : k < s.ths.length) (h2 : k < P.ths.length) : s.ths[k].at' = P.ths[k].length ∧ s.ths[k].buf = [] := by
  have hno : ∀ d, (tst P s (k : Int) d).isSome = false := fun d => by
    cases e : (tst P s (k : Int) d).isSome
    · rfl
    · have : (k, d) ∈ pks P s := pks_mem.2 e
      rw [h] at this; cases this
  have hb : s.ths[k].buf = [] := by
    have := hno true
    rw [tst_drain ho h1] at this
    cases e : s.ths[k].buf with
    | nil => rfl
    | cons y r => rw [e] at this; cases this
  refine ⟨?_, hb⟩
  have ht := ho.th k h1 h2
  have lo := ht.lo
  have hi := ht.hi
  by_cases h3 : s.ths[k].at'.toNat < P.ths[k].length
  · have := hno false
    rw [tst_step h1 h2 h3, show stuck P.ths[k][s.ths[k].at'.toNat] s.ths[k] = false from by unfold stuck; rw [hb]; rfl] at this
    cases this
  · omega
end Go.Proofs.Ytbffjhdocicfoaa
namespace Go.Proofs.Ytbffjhdocicfoaa
set_option linter.unusedVariables false
set_option linter.unusedSimpArgs false
open CodM (St Pg rightP hReg hLoc)
open BfM (Wr plc)
open ScM

/-- What a pick of a run makes; none: it can't be done. -/
def rst (P : Pg) (s : Sta) (t : Int) (d wk : Bool) : Option Sta :=
  if wk then tst P s t d else if d then none else if (atS P s t).isSome then some (stp P s t) else none
theorem rst_ok {P : Pg} (hr : rightP P = true) {s s' : Sta} {t : Int} {d wk : Bool} (ho : OkSt P s) (h : rst P s t d wk = some s') : OkSt P s' := by
  unfold rst at h
  cases wk with
  | true => rw [if_pos rfl] at h; exact tst_ok hr ho h
  | false =>
    rw [if_neg (by decide)] at h
    cases d with
    | true => rw [if_pos rfl] at h; cases h
    | false =>
      rw [if_neg (by decide)] at h
      split at h
      · injection h with h; subst h; exact stp_ok hr ho t
      · cases h
/-- The state behind picks, how many were done, and whether all were. -/
def runS (P : Pg) (wk : Bool) : Sta → List (Int × Bool) → Sta × Nat × Bool
  | s, [] => (s, 0, true)
  | s, k :: l => match rst P s k.1 k.2 wk with
    | some s' => ((runS P wk s' l).1, (runS P wk s' l).2.1 + 1, (runS P wk s' l).2.2)
    | none => (s, 0, false)
theorem runS_some {P : Pg} {wk : Bool} {s s' : Sta} {k : Int × Bool} {l : List (Int × Bool)} (h : rst P s k.1 k.2 wk = some s') : runS P wk s (k :: l) = ((runS P wk s' l).1, (runS P wk s' l).2.1 + 1, (runS P wk s' l).2.2) := by
  rw [runS, h]
theorem runS_none {P : Pg} {wk : Bool} {s : Sta} {k : Int × Bool} {l : List (Int × Bool)} (h : rst P s k.1 k.2 wk = none) : runS P wk s (k :: l) = (s, 0, false) := by
  rw [runS, h]
theorem runS_ok {P : Pg} (hr : rightP P = true) {wk : Bool} : ∀ (l : List (Int × Bool)) {s : Sta}, OkSt P s → OkSt P (runS P wk s l).1
  | [], s, ho => ho
  | k :: l, s, ho => by
    cases e : rst P s k.1 k.2 wk with
    | none => rw [runS_none e]; exact ho
    | some s' => rw [runS_some e]; exact runS_ok hr l (rst_ok hr ho e)
/-- With more behind. -/
theorem runS_app {P : Pg} {wk : Bool} : ∀ (l : List (Int × Bool)) (s : Sta) (m : List (Int × Bool)), runS P wk s (l ++ m) = if (runS P wk s l).2.2 then ((runS P wk (runS P wk s l).1 m).1, (runS P wk s l).2.1 + (runS P wk (runS P wk s l).1 m).2.1, (runS P wk (runS P wk s l).1 m).2.2) else runS P wk s l
  | [], s, m => by simp [runS]
  | k :: l, s, m => by
    cases e : rst P s k.1 k.2 wk with
    | none => rw [List.cons_append, runS_none e, runS_none e]; simp
    | some s' =>
      rw [List.cons_append, runS_some e, runS_some e, runS_app l s' m]
      cases h : (runS P wk s' l).2.2
      · simp [h]
      · simp [h]; omega
theorem runS_one {P : Pg} {wk : Bool} {s : Sta} {k : Int × Bool} : runS P wk s [k] = match rst P s k.1 k.2 wk with | some s' => (s', 1, true) | none => (s, 0, false) := by
  rw [runS]
  cases rst P s k.1 k.2 wk <;> rfl
/-- One more that is done; one more that is not. -/
theorem runS_snoc {P : Pg} {wk : Bool} {s a b : Sta} {l : List (Int × Bool)} {n : Nat} {k : Int × Bool} (h : runS P wk s l = (a, n, true)) (h2 : rst P a k.1 k.2 wk = some b) : runS P wk s (l ++ [k]) = (b, n + 1, true) := by
  rw [runS_app, h]
  simp [runS_one, h2]
theorem runS_stop {P : Pg} {wk : Bool} {s a : Sta} {l m : List (Int × Bool)} {n : Nat} {k : Int × Bool} (h : runS P wk s l = (a, n, true)) (h2 : rst P a k.1 k.2 wk = none) : runS P wk s (l ++ k :: m) = (a, n, false) := by
  rw [runS_app, h]
  simp [runS_none h2]
/-- Is it over? -/
def overB (P : Pg) (s : Sta) : Bool := (List.range s.ths.length).all fun t => decide ((s.ths.getD t begTh).at' = ((P.ths.getD t []).length : Int)) && (s.ths.getD t begTh).buf.isEmpty
theorem over_iff {P : Pg} {s : Sta} (ho : OkSt P s) : overB P s = true ↔ ∀ (k : Nat) (h1 : k < s.ths.length) (h2 : k < P.ths.length), s.ths[k].at' = P.ths[k].length ∧ s.ths[k].buf = [] := by
  unfold overB
  rw [List.all_eq_true]
  constructor
  · intro h k h1 h2
    have := h k (List.mem_range.2 h1)
    simp only [Bool.and_eq_true, decide_eq_true_eq, List.isEmpty_iff] at this
    simpa [List.getD, h1, h2] using this
  · intro h k hk
    have h1 := List.mem_range.1 hk
    have h2 : k < P.ths.length := by have := ho.ths; omega
    have := h k h1 h2
    simp only [Bool.and_eq_true, decide_eq_true_eq, List.isEmpty_iff]
    simpa [List.getD, h1, h2] using this
/-- Over: no pick is left. -/
theorem over_pks {P : Pg} {s : Sta} (ho : OkSt P s) : overB P s = true ↔ pks P s = [] := by
  rw [over_iff ho]
  constructor
  · intro h
    refine List.eq_nil_iff_forall_not_mem.2 fun p hp => ?_
    have hs := pks_mem.1 hp
    obtain ⟨t, d⟩ := p
    dsimp only at hs
    by_cases hr : 0 ≤ (t : Int) ∧ (t : Int) < (s.ths.length : Int)
    · have h1 : t < s.ths.length := by omega
      have h2 : t < P.ths.length := by have := ho.ths; omega
      obtain ⟨ha, hb⟩ := h t h1 h2
      cases d with
      | true => rw [tst_drain ho h1, hb] at hs; cases hs
      | false =>
        rw [tst_end (atS_none (fun ⟨j, e, a, b, c⟩ => by have : j = t := by omega
                                                         subst this; omega))] at hs
        cases hs
    · rw [tst_out hr] at hs; cases hs
  · intro h k h1 h2
    exact pks_nil ho h h1 h2
/-! Strict is weak. -/
/-- Nothing is on its way. -/
def nbuf (s : Sta) : Prop := ∀ t ∈ s.ths, t.buf = []
theorem nbuf_beg (P : Pg) : nbuf (beg P) := by
  intro t ht
  obtain ⟨x, _, rfl⟩ := List.mem_map.1 ht
  rfl
theorem nbuf_stp {P : Pg} {s : Sta} (h : nbuf s) (t : Int) : nbuf (stp P s t) := by
  cases e : atS P s t with
  | none => rw [stp_no e]; exact h
  | some x =>
    obtain ⟨k, rfl, h1, h2, h3, rfl⟩ := atS_some e
    rw [stp_at h1 h2 h3]
    intro y hy
    rcases List.mem_or_eq_of_mem_set hy with hy | rfl
    · exact h y hy
    · exact h s.ths[k] (List.getElem_mem h1)
theorem flu_nbuf {s : Sta} {k : Nat} (hk : k < s.ths.length) (h : s.ths[k].buf = []) : flu s (k : Int) = s := by
  rw [flu_at hk, h]
  have : (⟨s.ths[k].at', s.ths[k].regs, s.ths[k].eq, []⟩ : Th) = s.ths[k] := by rw [← h]
  rw [this, List.set_getElem_self]
  simp [BfM.all]
theorem rst_strict {P : Pg} {s s' : Sta} {t : Int} {d : Bool} (h : rst P s t d false = some s') : d = false ∧ ∃ k : Nat, t = k ∧ ∃ (h1 : k < s.ths.length) (h2 : k < P.ths.length) (h3 : s.ths[k].at'.toNat < P.ths[k].length), atS P s t = some P.ths[k][s.ths[k].at'.toNat] ∧ s' = stp P s k := by
  unfold rst at h
  rw [if_neg (by decide)] at h
  cases d with
  | true => rw [if_pos rfl] at h; cases h
  | false =>
    rw [if_neg (by decide)] at h
    split at h
    · rename_i hs
      injection h with h
      cases e : atS P s t with
      | none => rw [e] at hs; cases hs
      | some x =>
        obtain ⟨k, rfl, h1, h2, h3, rfl⟩ := atS_some e
        exact ⟨rfl, k, rfl, h1, h2, h3, rfl, h.symm⟩
    · cases h
/-! How many. -/
theorem msrN_setc {P : Pg} {s : Sta} {m : List Int} {k c : Nat} {h : Th} (hk : k < s.ths.length) (h2 : k < P.ths.length) (ht : trm P.ths[k] h + c ≤ trm P.ths[k] s.ths[k]) : ∀ n, msrN P ⟨m, s.ths.set k h⟩ n + (if k < n then c else 0) ≤ msrN P s n
  | 0 => by simp [msrN]
  | n + 1 => by
    have ih := msrN_setc (m := m) hk h2 ht n
    rw [msrN, msrN]
    by_cases e : n = k
    · subst e
      have e1 : ((s.ths.set n h).getD n begTh) = h := by simp [List.getD, hk]
      have e2 : s.ths.getD n begTh = s.ths[n] := by simp [List.getD, hk]
      have e3 : P.ths.getD n [] = P.ths[n] := by simp [List.getD, h2]
      rw [if_neg (Nat.lt_irrefl n)] at ih
      rw [if_pos (Nat.lt_succ_self n)]
      show msrN P _ n + trm (P.ths.getD n []) ((s.ths.set n h).getD n begTh) + c ≤ _
      rw [e1, e2, e3]
      omega
    · have e1 : ((s.ths.set k h).getD n begTh) = s.ths.getD n begTh := by
        simp only [List.getD]
        rw [List.getElem?_set_ne (Ne.symm e)]
      show msrN P _ n + trm (P.ths.getD n []) ((s.ths.set k h).getD n begTh) + _ ≤ _
      rw [e1]
      by_cases d : k < n
      · rw [if_pos d] at ih; rw [if_pos (by omega)]; omega
      · rw [if_neg d] at ih; rw [if_neg (by omega)]; omega
theorem stp_less {P : Pg} (hr : rightP P = true) {s : Sta} (ho : OkSt P s) {k : Nat} (h1 : k < s.ths.length) (h2 : k < P.ths.length) (h3 : s.ths[k].at'.toNat < P.ths[k].length) : msr P (stp P s k) + 2 ≤ msr P s := by
  have hg := goes hr ho h1 h2 h3
  have ht := ho.th k h1 h2
  have lo := ht.lo
  rw [stp_at h1 h2 h3]
  have := msrN_setc (m := stM P.ths[k][s.ths[k].at'.toNat] s.mem s.ths[k].regs) (h := stT P.ths[k][s.ths[k].at'.toNat] s.mem s.ths[k]) (c := 2) h1 h2 (by
    have hb : (stT P.ths[k][s.ths[k].at'.toNat] s.mem s.ths[k]).buf = s.ths[k].buf := rfl
    unfold trm
    rw [hb]
    omega) s.ths.length
  rw [if_pos h1] at this
  unfold msr
  simpa using this
theorem msrN_beg (P : Pg) : ∀ n, n ≤ P.ths.length → msrN P (beg P) n = 2 * ((P.ths.take n).map List.length).sum
  | 0, _ => rfl
  | n + 1, h => by
    have h2 : n < P.ths.length := by omega
    have h1 : n < (beg P).ths.length := by show n < (List.map _ _).length; rw [List.length_map]; exact h2
    rw [msrN_next h1 h2, msrN_beg P n (by omega), List.take_succ_eq_append_getElem h2, List.map_append, List.sum_append]
    have : (beg P).ths[n] = begTh := by simp [beg]
    rw [this]
    unfold trm
    simp [begTh]
    omega
theorem msr_beg (P : Pg) : msr P (beg P) = 2 * (P.ths.map List.length).sum := by
  have hl : (beg P).ths.length = P.ths.length := by show (List.map _ _).length = _; rw [List.length_map]
  unfold msr
  rw [hl, msrN_beg P _ (Nat.le_refl _), List.take_length]
theorem runS_weak {P : Pg} (hr : rightP P = true) : ∀ (l : List (Int × Bool)) {s : Sta}, OkSt P s → msr P (runS P true s l).1 + (runS P true s l).2.1 ≤ msr P s
  | [], s, ho => Nat.le_refl _
  | k :: l, s, ho => by
    cases e : rst P s k.1 k.2 true with
    | none => rw [runS_none e]; exact Nat.le_refl _
    | some s' =>
      have h1 := runS_weak hr l (rst_ok hr ho e)
      have h2 : msr P s' + 1 ≤ msr P s := tst_less hr ho (by unfold rst at e; rw [if_pos rfl] at e; exact e)
      rw [runS_some e]
      show msr P (runS P true s' l).1 + ((runS P true s' l).2.1 + 1) ≤ _
      omega
theorem runS_strict {P : Pg} (hr : rightP P = true) : ∀ (l : List (Int × Bool)) {s : Sta}, OkSt P s → msr P (runS P false s l).1 + 2 * (runS P false s l).2.1 ≤ msr P s
  | [], s, ho => Nat.le_refl _
  | k :: l, s, ho => by
    cases e : rst P s k.1 k.2 false with
    | none => rw [runS_none e]; exact Nat.le_refl _
    | some s' =>
      have h1 := runS_strict hr l (rst_ok hr ho e)
      obtain ⟨hd, j, hj, g1, g2, g3, ha, rfl⟩ := rst_strict e
      have h2 := stp_less hr ho g1 g2 g3
      rw [runS_some e]
      show msr P (runS P false (stp P s j) l).1 + 2 * ((runS P false (stp P s j) l).2.1 + 1) ≤ _
      omega
/-- RunLong. -/
theorem run_long {P : Pg} (hr : rightP P = true) (l : List (Int × Bool)) (wk : Bool) : (runS P wk (beg P) l).2.1 ≤ if wk then 2 * (P.ths.map List.length).sum else (P.ths.map List.length).sum := by
  have hb := beg_ok P
  have hm := msr_beg P
  cases wk with
  | true => have := runS_weak hr l hb; rw [if_pos rfl]; omega
  | false => have := runS_strict hr l hb; rw [if_neg (by decide)]; omega
/-! The end. -/
def endR (s : Sta) : List Int := s.ths.flatMap fun t => t.regs
/-! Prefixes (loops). -/
end Go.Proofs.Ytbffjhdocicfoaa
namespace Go.Proofs.Ytbffjhdocicfoaa
set_option linter.unusedVariables false
set_option linter.unusedSimpArgs false
open CodM (St Pg rightP hReg hLoc)
open BfM (Wr plc)
open ScM
namespace ExP
open ExM ExN
instance : DecidableEq Th := fun a b => decidable_of_iff (a.at' = b.at' ∧ a.regs = b.regs ∧ a.eq = b.eq ∧ a.buf = b.buf) ⟨fun h => by cases a; cases b; obtain ⟨h1, h2, h3, h4⟩ := h; simp only at h1 h2 h3 h4; rw [h1, h2, h3, h4], fun h => by rw [h]; exact ⟨rfl, rfl, rfl, rfl⟩⟩
instance : DecidableEq Sta := fun a b => decidable_of_iff (a.mem = b.mem ∧ a.ths = b.ths) ⟨fun h => by cases a; cases b; obtain ⟨h1, h2⟩ := h; simp only at h1 h2; rw [h1, h2], fun h => by rw [h]; exact ⟨rfl, rfl⟩⟩
abbrev toI (p : Nat × Bool) : Int × Bool := ((p.1 : Int), p.2)
/-- What follows a state, in the order of picks. -/
def nx (P : Pg) (wk : Bool) (s : Sta) : List ((Nat × Bool) × Sta) := (pks P s).filterMap fun p => (rst P s (p.1 : Int) p.2 wk).map fun t => (p, t)
theorem nx_rise (P : Pg) (wk : Bool) (s : Sta) : (nx P wk s).Pairwise fun x y => lessK x.1 y.1 := by
  unfold nx
  refine List.pairwise_filterMap.2 ((pkN_rise P s s.ths.length).imp ?_)
  intro a b h x hx y hy
  obtain ⟨_, _, rfl⟩ := Option.map_eq_some_iff.1 hx
  obtain ⟨_, _, rfl⟩ := Option.map_eq_some_iff.1 hy
  exact h
theorem nx_mem {P : Pg} {wk : Bool} {s t : Sta} {p : Nat × Bool} : (p, t) ∈ nx P wk s ↔ p ∈ pks P s ∧ rst P s (p.1 : Int) p.2 wk = some t := by
  unfold nx
  rw [List.mem_filterMap]
  constructor
  · rintro ⟨q, h1, h2⟩
    obtain ⟨u, h3, h4⟩ := Option.map_eq_some_iff.1 h2
    injection h4 with h4 h5
    subst h4; subst h5
    exact ⟨h1, h3⟩
  · rintro ⟨h1, h2⟩
    exact ⟨p, h1, by rw [h2]; rfl⟩
/-- What a reached state is. -/
structure Rc (P : Pg) (wk : Bool) (s : Sta) : Prop where
  ok : OkSt P s
  nb : wk = false → nbuf s
theorem rc_beg (P : Pg) (wk : Bool) : Rc P wk (beg P) := ⟨beg_ok P, fun _ => nbuf_beg P⟩
theorem rc_rst {P : Pg} (hr : rightP P = true) {wk : Bool} {s s' : Sta} {t : Int} {d : Bool} (h : Rc P wk s) (e : rst P s t d wk = some s') : Rc P wk s' := by
  refine ⟨rst_ok hr h.ok e, fun hw => ?_⟩
  subst hw
  obtain ⟨-, k, rfl, -, -, -, -, rfl⟩ := rst_strict e
  exact nbuf_stp (h.nb rfl) _
/-- A pick that can be done is one of those that are asked. -/
theorem rst_pks {P : Pg} {wk : Bool} {s s' : Sta} {t : Int} {d : Bool} (h : Rc P wk s) (e : rst P s t d wk = some s') : ∃ k : Nat, t = k ∧ (k, d) ∈ pks P s := by
  cases wk with
  | true =>
    have e2 : tst P s t d = some s' := by unfold rst at e; rwa [if_pos rfl] at e
    obtain ⟨k, rfl, -⟩ := tst_some h.ok e2
    exact ⟨k, rfl, pks_mem.2 (by show (tst P s (k : Int) d).isSome = true; rw [e2]; rfl)⟩
  | false =>
    obtain ⟨rfl, k, rfl, h1, h2, h3, -, -⟩ := rst_strict e
    refine ⟨k, rfl, pks_mem.2 ?_⟩
    show (tst P s (k : Int) false).isSome = true
    rw [tst_step h1 h2 h3, if_neg]
    · rfl
    · unfold stuck; rw [h.nb rfl _ (List.getElem_mem h1)]; simp
theorem leads_run {P : Pg} (hr : rightP P = true) {wk : Bool} {w : List (Nat × Bool)} {s : Sta} (h : Leads (nx P wk) (beg P) w s) : runS P wk (beg P) (w.map toI) = (s, w.length, true) ∧ Rc P wk s := by
  induction h with
  | nil => exact ⟨rfl, rc_beg P wk⟩
  | snoc hw he ih =>
    obtain ⟨ih1, ih2⟩ := ih
    have e := (nx_mem.1 he).2
    refine ⟨?_, rc_rst hr ih2 e⟩
    rw [List.map_append, List.length_append]
    exact runS_snoc ih1 e
/-- What is not over goes on. -/
theorem goes_on {P : Pg} (hr : rightP P = true) {wk : Bool} {s : Sta} (h : Rc P wk s) (ho : overB P s = false) : ∃ p t, (p, t) ∈ nx P wk s ∧ msr P t + 1 ≤ msr P s := by
  cases wk with
  | true =>
    cases hp : pks P s with
    | nil => rw [(over_pks h.ok).2 hp] at ho; cases ho
    | cons p l =>
      have hm : p ∈ pks P s := by rw [hp]; exact List.mem_cons_self ..
      cases e : tst P s (p.1 : Int) p.2 with
      | none => have := pks_mem.1 hm; rw [e] at this; cases this
      | some t => exact ⟨p, t, nx_mem.2 ⟨hm, by unfold rst; rw [if_pos rfl]; exact e⟩, tst_less hr h.ok e⟩
  | false =>
    have hn : ¬ ∀ (k : Nat) (h1 : k < s.ths.length) (h2 : k < P.ths.length), s.ths[k].at' = P.ths[k].length ∧ s.ths[k].buf = [] := by
      intro g; rw [(over_iff h.ok).2 g] at ho; cases ho
    have : ∃ (k : Nat) (h1 : k < s.ths.length) (h2 : k < P.ths.length), s.ths[k].at' ≠ P.ths[k].length := by
      apply Classical.byContradiction
      intro g
      refine hn fun k h1 h2 => ⟨?_, h.nb rfl _ (List.getElem_mem h1)⟩
      apply Classical.byContradiction
      intro g2; exact g ⟨k, h1, h2, g2⟩
    obtain ⟨k, h1, h2, h3⟩ := this
    have ht := h.ok.th k h1 h2
    have hlo := ht.lo
    have hhi := ht.hi
    have h4 : s.ths[k].at'.toNat < P.ths[k].length := by omega
    have e : rst P s (k : Int) false false = some (stp P s (k : Int)) := by
      unfold rst
      rw [if_neg (by decide), if_neg (by decide), if_pos]
      rw [atS_at h1 h2 h4]; rfl
    obtain ⟨n, hn, hp⟩ := rst_pks h e
    have hkn : k = n := by exact_mod_cast hn
    subst hkn
    have := stp_less hr h.ok h1 h2 h4
    exact ⟨(k, false), stp P s (k : Int), nx_mem.2 ⟨hp, e⟩, by omega⟩
/-- From each state that is reached an end is. -/
theorem ends_from {P : Pg} (hr : rightP P = true) {wk : Bool} : ∀ (n : Nat) {w : List (Nat × Bool)} {s : Sta}, Leads (nx P wk) (beg P) w s → msr P s ≤ n → ∃ w' s', Leads (nx P wk) (beg P) w' s' ∧ overB P s' = true := by
  intro n
  induction n with
  | zero =>
    intro w s h hn
    cases e : overB P s with
    | true => exact ⟨w, s, h, e⟩
    | false => obtain ⟨p, t, h1, h2⟩ := goes_on hr (leads_run hr h).2 e; omega
  | succ n ih =>
    intro w s h hn
    cases e : overB P s with
    | true => exact ⟨w, s, h, e⟩
    | false =>
      obtain ⟨p, t, h1, h2⟩ := goes_on hr (leads_run hr h).2 e
      exact ih (.snoc h h1) (by omega)
theorem some_end {P : Pg} (hr : rightP P = true) (wk : Bool) {l : List (Nd Sta (Nat × Bool))} (h : Full (nx P wk) (beg P) l) (en : Sta → OtM.Ot) : fnd (ExO.endsOf (overB P) en l) ≠ [] := by
  obtain ⟨w, s, h1, h2⟩ := ends_from hr (wk := wk) _ .nil (Nat.le_refl _)
  obtain ⟨f, hf, -⟩ := ExO.found_all (overB P) en (nx_rise P wk) h h1 h2
  exact List.ne_nil_of_mem hf
end ExP
end Go.Proofs.Ytbffjhdocicfoaa
namespace Go.Proofs.Ytbffjhdocicfoaa
set_option linter.unusedVariables false
set_option linter.unusedSimpArgs false
open CodM (St Pg rightP hReg hLoc)
open BfM (Wr plc)
open ScM
namespace ExQ
open ExM ExN ExP
theorem srtF_one {π : Type} {a : List (OtM.Ot × List π)} (h : SrtF a) (hn : a ≠ []) {o : OtM.Ot} (ho : ∀ f ∈ a, f.1 = o) : ∃ v, a = [(o, v)] := by
  match a, h, hn, ho with
  | [], _, hn, _ => exact absurd rfl hn
  | [x], _, _, ho => exact ⟨x.2, by rw [← ho x (List.mem_cons_self ..)]⟩
  | x :: y :: l, h, _, ho =>
    have h1 := (List.pairwise_cons.1 h).1 y (List.mem_cons_self ..)
    rw [ho x (List.mem_cons_self ..), ho y (List.mem_cons_of_mem _ (List.mem_cons_self ..))] at h1
    exact absurd h1 (OtM.Lt.irrefl _)
theorem pick_alone {P : Pg} (h1 : P.ths.length = 1) {s s' : Sta} {p : Nat × Bool} (hc : Rc P false s) (h : (p, s') ∈ nx P false s) : p = (0, false) := by
  obtain ⟨hd, k, hk, hl, -⟩ := rst_strict (nx_mem.1 h).2
  have := hc.ok.ths
  obtain ⟨n, d⟩ := p
  have e : n = k := by
    have : (n : Int) = (k : Int) := hk
    omega
  have : d = false := hd
  subst this; subst e
  have : n = 0 := by omega
  rw [this]
theorem over_stop {P : Pg} {wk : Bool} {s : Sta} (hc : Rc P wk s) (ho : overB P s = true) (k : Int × Bool) : rst P s k.1 k.2 wk = none := by
  cases e : rst P s k.1 k.2 wk with
  | none => rfl
  | some t =>
    obtain ⟨n, -, hm⟩ := rst_pks hc e
    rw [(over_pks hc.ok).1 ho] at hm; cases hm
section
variable {P : Pg} (hr : rightP P = true) (h1 : P.ths.length = 1)
include hr h1
theorem way_alone {w : List (Nat × Bool)} {s : Sta} (h : Leads (nx P false) (beg P) w s) : w = List.replicate w.length (0, false) := by
  induction h with
  | nil => rfl
  | snoc hw he ih =>
    rw [List.length_append, List.length_singleton, List.replicate_succ', ← ih, pick_alone h1 (leads_run hr hw).2 he]
theorem end_alone {w v : List (Nat × Bool)} {s t : Sta} (hw : Leads (nx P false) (beg P) w s) (hv : Leads (nx P false) (beg P) v t) (hs : overB P s = true) (ht : overB P t = true) : s = t := by
  have key : ∀ {w v : List (Nat × Bool)} {s t : Sta}, Leads (nx P false) (beg P) w s → Leads (nx P false) (beg P) v t → overB P s = true → w.length ≤ v.length → s = t := by
    intro w v s t hw hv hs hl
    obtain ⟨a1, a2⟩ := leads_run hr hw
    obtain ⟨b1, b2⟩ := leads_run hr hv
    have hww := way_alone hr h1 hw
    have hvv := way_alone hr h1 hv
    obtain ⟨d, hd⟩ := Nat.exists_eq_add_of_le hl
    cases d with
    | zero =>
      have e : w = v := by rw [hww, hvv, hd, Nat.add_zero]
      subst e
      rw [a1] at b1
      exact congrArg Prod.fst b1
    | succ d =>
      have e : v = w ++ (0, false) :: List.replicate d (0, false) := by
        rw [hvv, hd, ← List.replicate_append_replicate, ← hww, List.replicate_succ]
      rw [e, List.map_append, List.map_cons, runS_stop a1 (over_stop a2 hs _)] at b1
      exact absurd (congrArg (fun x => x.2.2) b1) Bool.false_ne_true
  rcases Nat.le_total w.length v.length with c | c
  · exact key hw hv hs c
  · exact (key hv hw ht c).symm
/-- A weak run's state, when all its writes came there, is a strict one's. -/
theorem flu_alone {w : List (Nat × Bool)} {s : Sta} (h : Leads (nx P true) (beg P) w s) : ∃ w', Leads (nx P false) (beg P) w' (flu s 0) := by
  induction h with
  | nil =>
    have hb : 0 < (beg P).ths.length := by rw [(beg_ok P).ths, h1]; decide
    refine ⟨[], ?_⟩
    have := flu_nbuf hb (nbuf_beg P _ (List.getElem_mem hb))
    rw [show ((0 : Nat) : Int) = 0 from rfl] at this
    rw [this]; exact .nil
  | @snoc w s t p hw he ih =>
    obtain ⟨w', ih⟩ := ih
    have hc := (leads_run hr hw).2
    have e := (nx_mem.1 he).2
    have e2 : tst P s (p.1 : Int) p.2 = some t := by unfold rst at e; rwa [if_pos rfl] at e
    obtain ⟨k, hk, hl, hl2, g⟩ := tst_some hc.ok e2
    have hk0 : k = 0 := by omega
    subst hk0
    rcases g with ⟨-, -, rfl⟩ | ⟨-, h3, hs, rfl⟩
    · have := flu_drn hc.ok hl
      rw [show ((0 : Nat) : Int) = 0 from rfl] at this
      rw [this]; exact ⟨w', ih⟩
    · have e3 := flu_tsS hr hc.ok hl hl2 h3 hs
      rw [show ((0 : Nat) : Int) = 0 from rfl] at e3
      have hf := flu_at hl
      rw [show ((0 : Nat) : Int) = 0 from rfl] at hf
      have hcf := (leads_run hr ih).2
      have hlf : 0 < (flu s 0).ths.length := by rw [hf]; simpa using hl
      have hat : (flu s 0).ths[0].at' = s.ths[0].at' := by simp [hf]
      have er : rst P (flu s 0) ((0 : Nat) : Int) false false = some (stp P (flu s 0) ((0 : Nat) : Int)) := by
        unfold rst
        rw [if_neg (by decide), if_neg (by decide), if_pos]
        rw [atS_at hlf hl2 (by rw [hat]; exact h3)]; rfl
      obtain ⟨n, hn, hp⟩ := rst_pks hcf er
      have hn0 : n = 0 := by omega
      subst hn0
      rw [e3]
      exact ⟨w' ++ [(0, false)], .snoc ih (nx_mem.2 ⟨hp, er⟩)⟩
/-- A weak end is a strict one. -/
theorem over_alone {w : List (Nat × Bool)} {s : Sta} (h : Leads (nx P true) (beg P) w s) (ho : overB P s = true) : ∃ w', Leads (nx P false) (beg P) w' s := by
  have hc := (leads_run hr h).2
  obtain ⟨w', h'⟩ := flu_alone hr h1 h
  have hl : 0 < s.ths.length := by rw [hc.ok.ths, h1]; decide
  have hb := ((over_iff hc.ok).1 ho 0 hl (by omega)).2
  have := flu_nbuf hl hb
  rw [show ((0 : Nat) : Int) = 0 from rfl] at this
  rw [this] at h'
  exact ⟨w', h'⟩
/-- Its strict states are few. -/
theorem few_alone : ∃ l, Full (nx P false) (beg P) l ∧ l.length ≤ 81 := by
  have hsum : (P.ths.map List.length).sum ≤ 80 := by
    obtain ⟨-, -, -, h4⟩ := right_ths hr
    match hp : P.ths, h1 with
    | [x], _ =>
      have := h4 0 (by omega)
      simp only [hp] at this
      simpa using this
  obtain ⟨l, hf, hl⟩ := full_ex (nx P false) (beg P) (W := (List.range 81).map fun n => (runS P false (beg P) (List.map toI (List.replicate n (0, false)))).1) fun w s h => by
    have hrun := (leads_run hr h).1
    have hlong := run_long hr (w.map toI) false
    rw [hrun, if_neg (by decide)] at hlong
    refine List.mem_map.2 ⟨w.length, List.mem_range.2 (by have : w.length ≤ _ := hlong; omega), ?_⟩
    rw [← way_alone hr h1 h, hrun]
  exact ⟨l, hf, by simpa using hl⟩
/-- One end. -/
theorem one_end (en : Sta → OtM.Ot) : ∃ o, ∀ (wk : Bool) (l : List (Nd Sta (Nat × Bool))), Full (nx P wk) (beg P) l → ∃ v, fnd (ExO.endsOf (overB P) en l) = [(o, v)] := by
  obtain ⟨w0, s0, g1, g2⟩ := ends_from hr (wk := false) _ .nil (Nat.le_refl _)
  refine ⟨en s0, fun wk l hf => ?_⟩
  refine srtF_one (ExO.fnd_ok _).srt (some_end hr wk hf en) fun f hm => ?_
  obtain ⟨s, a1, a2, a3⟩ := ExO.found_is (overB P) en hf hm
  cases wk with
  | false => rw [← a3, end_alone hr h1 a1 g1 a2 g2]
  | true =>
    obtain ⟨w', a4⟩ := over_alone hr h1 a1 a2
    rw [← a3, end_alone hr h1 a4 g1 a2 g2]
end
end ExQ
end Go.Proofs.Ytbffjhdocicfoaa
namespace Go.Proofs.Ytbffjhdocicfoaa
set_option linter.unusedVariables false
set_option linter.unusedSimpArgs false
open CodM (St Pg rightP hReg hLoc)
open ScM
namespace ExR
open ExM ExN ExP
abbrev FdE := OtM.Ot × List (Nat × Bool)
/-- An end, as two rows of numbers. -/
def enS (s : Sta) : OtM.Ot := (s.mem, endR s)
def mostN (fuel : Int) : Nat := (min fuel 20000).toNat
/-- All ends, how many states, and whether the fuel was enough. -/
def expS (P : Pg) (wk : Bool) (fuel : Int) : List FdE × Nat × Bool := match lim (nx P wk) (beg P) (mostN fuel) (mostN fuel) with
  | some l => (fnd (ExO.endsOf (overB P) enS l), l.length, true)
  | none => ([], 0, false)
theorem exp_full {P : Pg} {wk : Bool} {l : List (Nd Sta (Nat × Bool))} (h : Full (nx P wk) (beg P) l) (fuel : Int) : expS P wk fuel = if (l.length : Int) ≤ min fuel 20000 then (fnd (ExO.endsOf (overB P) enS l), l.length, true) else ([], 0, false) := by
  have hp := full_pos (nx P wk) (beg P) h
  unfold expS
  by_cases c : (l.length : Int) ≤ min fuel 20000
  · rw [if_pos c, (lim_full (nx P wk) (beg P) (Nat.le_refl (mostN fuel))).2 ⟨h, by unfold mostN; omega⟩]
  · rw [if_neg c, (lim_none (nx P wk) (beg P) (Nat.le_refl (mostN fuel))).2]
    rintro ⟨l', h', hl⟩
    rw [full_one (nx P wk) (beg P) h' h] at hl
    unfold mostN at hl; omega
theorem exp_cases (P : Pg) (wk : Bool) (fuel : Int) : (∃ l, Full (nx P wk) (beg P) l ∧ (l.length : Int) ≤ min fuel 20000 ∧ expS P wk fuel = (fnd (ExO.endsOf (overB P) enS l), l.length, true)) ∨ (expS P wk fuel = ([], 0, false) ∧ ∀ l, Full (nx P wk) (beg P) l → min fuel 20000 < (l.length : Int)) := by
  cases e : lim (nx P wk) (beg P) (mostN fuel) (mostN fuel) with
  | some l =>
    obtain ⟨h1, h2⟩ := (lim_full (nx P wk) (beg P) (Nat.le_refl (mostN fuel))).1 e
    have hp := full_pos (nx P wk) (beg P) h1
    exact .inl ⟨l, h1, by unfold mostN at h2; omega, by unfold expS; rw [e]⟩
  | none =>
    refine .inr ⟨by unfold expS; rw [e], fun l h => ?_⟩
    have := (lim_none (nx P wk) (beg P) (Nat.le_refl (mostN fuel))).1 e
    apply Classical.byContradiction
    intro g
    exact this ⟨l, h, by unfold mostN; omega⟩
/-! What the laws ask. -/
theorem law_alone {P : Pg} (hr : rightP P = true) (h1 : P.ths.length = 1) : ∃ o v n, expS P false 400 = ([(o, v)], n, true) ∧ (expS P true 400 = ([], 0, false) ∨ ∃ v' n', expS P true 400 = ([(o, v')], n', true)) := by
  obtain ⟨o, ho⟩ := ExQ.one_end hr h1 enS
  obtain ⟨l, hl, hn⟩ := ExQ.few_alone hr h1
  obtain ⟨v, hv⟩ := ho false l hl
  refine ⟨o, v, l.length, by rw [exp_full hl, if_pos (by omega), hv], ?_⟩
  rcases exp_cases P true 400 with ⟨l', g1, -, g3⟩ | ⟨g, -⟩
  · obtain ⟨v', hv'⟩ := ho true l' g1
    exact .inr ⟨v', _, by rw [g3, hv']⟩
  · exact .inl g
end ExR
end Go.Proofs.Ytbffjhdocicfoaa
namespace Go.Proofs.Ytbffjhdocicfoaa
set_option linter.unusedVariables false
set_option linter.unusedSimpArgs false
open CodM (St Pg rightP hReg hLoc)
open BfM (Wr plc)
open ScM

/-- No more than n writes of a thread are on their way. -/
def bufN (n : Nat) (s : Sta) : Prop := ∀ t ∈ s.ths, t.buf.length ≤ n
theorem bufN_beg (P : Pg) : bufN 0 (beg P) := by
  intro t ht
  obtain ⟨x, _, rfl⟩ := List.mem_map.1 ht
  exact Nat.le_refl _
theorem bufN_set {n : Nat} {s : Sta} {m : List Int} {k : Nat} {h : Th} (hs : bufN n s) (hh : h.buf.length ≤ n + 1) : bufN (n + 1) ⟨m, s.ths.set k h⟩ := by
  intro y hy
  rcases List.mem_or_eq_of_mem_set hy with hy | hy
  · exact Nat.le_succ_of_le (hs y hy)
  · rw [hy]; exact hh
theorem bufN_mono {n m : Nat} {s : Sta} (h : bufN n s) (hm : n ≤ m) : bufN m s := fun t ht => Nat.le_trans (h t ht) hm
theorem bufN_rst {P : Pg} (hr : rightP P = true) {n : Nat} {s s' : Sta} {t : Int} {d wk : Bool} (ho : OkSt P s) (hs : bufN n s) (h : rst P s t d wk = some s') : bufN (n + 1) s' := by
  cases wk with
  | true =>
    unfold rst at h
    rw [if_pos rfl] at h
    obtain ⟨k, rfl, h1, h2, ⟨rfl, hb, rfl⟩ | ⟨rfl, h3, hst, rfl⟩⟩ := tst_some ho h
    · have hk := hs _ (List.getElem_mem h1)
      cases hbb : s.ths[k].buf with
      | nil => rw [hbb] at hb; cases hb
      | cons y r =>
        rw [drn_eq hbb (buf_ok ho h1)]
        rw [hbb, List.length_cons] at hk
        exact bufN_set hs (by show r.length ≤ n + 1; omega)
    · rw [tsS_eq]
      have hk := hs _ (List.getElem_mem h1)
      exact bufN_set hs (Nat.le_trans (tsT_ok hr ho h1 h2 h3).2.2 (by omega))
  | false =>
    obtain ⟨hd, k, hj, h1, h2, h3, ha, rfl⟩ := rst_strict h
    rw [stp_at h1 h2 h3]
    exact bufN_set hs (by have hk := hs _ (List.getElem_mem h1); show s.ths[k].buf.length ≤ n + 1; omega)
theorem bufN_run {P : Pg} (hr : rightP P = true) {wk : Bool} : ∀ (l : List (Int × Bool)) {n : Nat} {s : Sta}, OkSt P s → bufN n s → bufN (n + l.length) (runS P wk s l).1
  | [], n, s, ho, hs => hs
  | k :: l, n, s, ho, hs => by
    cases e : rst P s k.1 k.2 wk with
    | none => rw [runS_none e]; exact bufN_mono hs (by omega)
    | some s' =>
      rw [runS_some e]
      have := bufN_run hr (wk := wk) l (rst_ok hr ho e) (bufN_rst hr ho hs e)
      rw [List.length_cons, show n + (l.length + 1) = n + 1 + l.length by omega]
      exact this
/-- What is wide enough. -/
theorem wide_buf {P : Pg} (hr : rightP P = true) {s : Sta} {n m : Nat} (ho : OkSt P s) (hs : bufN m s) (hm : m ≤ n) (h9 : 9 ≤ n) : WideN n s := by
  obtain ⟨a, b, c, -⟩ := right_ths hr
  have h1 := ho.mem
  have h2 := ho.ths
  have h4 : ∀ t ∈ s.ths, t.regs.length = 4 := fun t ht => by
    obtain ⟨k, hk, rfl⟩ := List.mem_iff_getElem.1 ht
    exact (ho.th k hk (by omega)).regs
  exact ⟨by omega, by omega, fun t ht => ⟨by have := h4 t ht; omega, by have := hs t ht; omega⟩⟩
theorem wide_run {P : Pg} (hr : rightP P = true) (wk : Bool) (l : List (Int × Bool)) {n : Nat} (hl : l.length ≤ n) (h9 : 9 ≤ n) : WideN n (runS P wk (beg P) l).1 :=
  wide_buf hr (runS_ok hr l (beg_ok P)) (bufN_run hr l (beg_ok P) (bufN_beg P)) (by omega) h9
end Go.Proofs.Ytbffjhdocicfoaa
namespace Go.Proofs.Ytbffjhdocicfoaa
set_option linter.unusedVariables false
set_option linter.unusedSimpArgs false
open CodM (St Pg rightP hReg hLoc)
open BfM (Wr plc)
open NumM (inR)
open EnM
open ScM
namespace EyP
open ExM ExN ExP
abbrev InL (l : List Int) : Prop := ∀ n ∈ l, inR n
structure InP (P : Pg) : Prop where
  init : InL P.init
  step : ∀ ss ∈ P.ths, ∀ x ∈ ss, inR x.n
structure InS (s : Sta) : Prop where
  mem : InL s.mem
  ths : ∀ t ∈ s.ths, InL t.regs ∧ ∀ w ∈ t.buf, inR w.n
theorem in0 : inR 0 := by unfold inR; omega
theorem inl_set {l : List Int} (h : InL l) {k : Nat} {n : Int} (hn : inR n) : InL (l.set k n) := fun x hx => by
  rcases List.mem_or_eq_of_mem_set hx with hx | hx
  · exact h x hx
  · rw [hx]; exact hn
theorem inl_nth {l : List Int} (h : InL l) (k : Int) : inR (nth l k) := by
  unfold nth
  rw [List.getD_eq_getElem?_getD]
  cases e : l[k.toNat]? with
  | none => exact in0
  | some n => exact h n (List.mem_of_getElem? e)
theorem stM_in {x : St} {m r : List Int} (hx : inR x.n) (hm : InL m) (hr : InL r) : InL (ScM.stM x m r) := by
  unfold ScM.stM
  split
  · exact inl_set hm (inl_nth hr _)
  · split
    · exact inl_set hm hx
    · split
      · exact inl_set hm (inl_nth hr _)
      · exact hm
theorem stR_in {x : St} {m r : List Int} (hx : inR x.n) (hm : InL m) (hr : InL r) : InL (stR x m r) := by
  unfold stR
  split
  · exact inl_set hr hx
  · split
    · exact inl_set hr (inl_nth hm _)
    · split
      · exact inl_set hr (inl_nth hm _)
      · exact hr
theorem last_in : ∀ {b : List Wr} {l n : Int}, (∀ w ∈ b, inR w.n) → BfM.last b l = some n → inR n
  | [], _, _, _, h => by cases h
  | w :: r, l, n, hb, h => by
    unfold BfM.last at h
    cases e : BfM.last r l with
    | some k =>
      rw [e] at h; injection h with h; rw [← h]
      exact last_in (fun x hx => hb x (List.mem_cons_of_mem _ hx)) e
    | none =>
      rw [e] at h
      dsimp only at h
      split at h
      · injection h with h; rw [← h]; exact hb w (List.mem_cons_self ..)
      · cases h
theorem view_in {b : List Wr} {m : List Int} {l : Int} (hb : ∀ w ∈ b, inR w.n) (hm : InL m) : inR ((BfM.view b m l).getD 0) := by
  unfold BfM.view
  cases e : BfM.last b l with
  | some k => exact last_in hb e
  | none =>
    dsimp only
    split
    · cases e2 : m[l.toNat]? with
      | none => exact in0
      | some n => exact hm n (List.mem_of_getElem? e2)
    · exact in0
theorem inS_set {s : Sta} (h : InS s) {m : List Int} {k : Nat} {t : Th} (hm : InL m) (ht : InL t.regs ∧ ∀ w ∈ t.buf, inR w.n) : InS ⟨m, s.ths.set k t⟩ := ⟨hm, fun x hx => by
  rcases List.mem_or_eq_of_mem_set hx with hx | hx
  · exact h.ths x hx
  · rw [hx]; exact ht⟩
theorem inS_beg {P : Pg} (h : InP P) : InS (beg P) := ⟨h.init, fun t ht => by
  obtain ⟨x, _, rfl⟩ := List.mem_map.1 ht
  exact ⟨fun n hn => by
    simp only [begTh, List.mem_cons, List.not_mem_nil, or_false, or_self] at hn
    rw [hn]; exact in0, fun w hw => by cases hw⟩⟩
theorem inS_tsS {s : Sta} {x : St} (h : InS s) (hx : inR x.n) {k : Nat} (hk : k < s.ths.length) : InS (tsS x s k s.ths[k]) := by
  obtain ⟨h1, h2⟩ := h.ths _ (List.getElem_mem hk)
  unfold tsS
  split
  · exact inS_set h h.mem ⟨inl_set h1 (view_in h2 h.mem), h2⟩
  · split
    · exact inS_set h h.mem ⟨h1, fun w hw => by
        rcases List.mem_append.1 hw with hw | hw
        · exact h2 w hw
        · rw [List.mem_singleton.1 hw]; exact inl_nth h1 _⟩
    · split
      · exact inS_set h h.mem ⟨h1, fun w hw => by
          rcases List.mem_append.1 hw with hw | hw
          · exact h2 w hw
          · rw [List.mem_singleton.1 hw]; exact hx⟩
      · exact inS_set h (stM_in hx h.mem h1) ⟨stR_in hx h.mem h1, h2⟩
theorem inS_drn {s : Sta} (h : InS s) {k : Nat} (hk : k < s.ths.length) : InS (drn s k s.ths[k]) := by
  obtain ⟨h1, h2⟩ := h.ths _ (List.getElem_mem hk)
  unfold drn
  refine inS_set h ?_ ⟨h1, ?_⟩
  · unfold drM
    split
    · exact h.mem
    · rename_i w r e
      split
      · exact inl_set h.mem (h2 w (by rw [e]; exact List.mem_cons_self ..))
      · exact h.mem
  · intro w hw
    unfold drB at hw
    dsimp only at hw
    split at hw
    · exact h2 w (List.mem_of_mem_tail hw)
    · exact h2 w hw
theorem inS_rst {P : Pg} (hp : InP P) {wk : Bool} {s s' : Sta} {t : Int} {d : Bool} (ho : OkSt P s) (h : InS s) (e : rst P s t d wk = some s') : InS s' := by
  cases wk with
  | true =>
    have e2 : tst P s t d = some s' := by unfold rst at e; rwa [if_pos rfl] at e
    obtain ⟨k, rfl, h1, h2, ⟨-, -, rfl⟩ | ⟨-, h3, -, rfl⟩⟩ := tst_some ho e2
    · exact inS_drn h h1
    · exact inS_tsS h (hp.step _ (List.getElem_mem h2) _ (List.getElem_mem h3)) h1
  | false =>
    obtain ⟨-, k, rfl, h1, h2, h3, -, rfl⟩ := rst_strict e
    rw [stp_at h1 h2 h3]
    have hx := hp.step _ (List.getElem_mem h2) _ (List.getElem_mem h3)
    obtain ⟨k1, k2⟩ := h.ths _ (List.getElem_mem h1)
    exact inS_set h (stM_in hx h.mem k1) ⟨stR_in hx h.mem k1, k2⟩
theorem leads_in {P : Pg} (hr : rightP P = true) (hp : InP P) {wk : Bool} {w : List (Nat × Bool)} {s : Sta} (h : Leads (nx P wk) (beg P) w s) : InS s := by
  induction h with
  | nil => exact inS_beg hp
  | snoc hw he ih => exact inS_rst hp (leads_run hr hw).2.ok ih (nx_mem.1 he).2
/-- What may be said of a state that is reached. -/
structure Rd (P : Pg) (wk : Bool) (s : Sta) : Prop where
  rc : Rc P wk s
  wide : WideN 1000 s
  nums : InL (numsS s)
  len : (numsS s).length ≤ 1000000
theorem leads_rd {P : Pg} (hr : rightP P = true) (hp : InP P) {wk : Bool} {w : List (Nat × Bool)} {s : Sta} (h : Leads (nx P wk) (beg P) w s) : Rd P wk s := by
  obtain ⟨h1, h2⟩ := leads_run hr h
  obtain ⟨a, b, c, d⟩ := right_ths hr
  have hsum : (P.ths.map List.length).sum ≤ 240 := by
    match hq : P.ths, b, c with
    | [x], _, _ =>
      have h0 := d 0 (by rw [hq]; simp)
      simp only [hq] at h0; simp at h0 ⊢; omega
    | [x, y], _, _ =>
      have h0 := d 0 (by rw [hq]; simp); have h1 := d 1 (by rw [hq]; simp)
      simp only [hq] at h0 h1; simp at h0 h1 ⊢; omega
    | [x, y, z], _, _ =>
      have h0 := d 0 (by rw [hq]; simp); have h1 := d 1 (by rw [hq]; simp); have h2 := d 2 (by rw [hq]; simp)
      simp only [hq] at h0 h1 h2; simp at h0 h1 h2 ⊢; omega
  have hlen : w.length ≤ 1000 := by
    have hl := run_long hr (w.map toI) wk
    rw [h1] at hl
    have hl : w.length ≤ _ := hl
    split at hl <;> omega
  have hw := wide_run hr wk (w.map toI) (n := 1000) (by rw [List.length_map]; exact hlen) (by decide)
  rw [h1] at hw
  have hin := leads_in hr hp h
  have hmem := h2.ok.mem
  have hths := h2.ok.ths
  refine ⟨h2, hw, nums_in hin.mem (by omega) (by omega) (fun t ht => ?_), ?_⟩
  · obtain ⟨k, hk, rfl⟩ := List.mem_iff_getElem.1 ht
    have hok := h2.ok.th k hk (by omega)
    have hd := d k (by omega)
    have h4 := hok.lo
    have h5 := hok.hi
    obtain ⟨i1, i2⟩ := hin.ths _ ht
    refine th_in (by unfold inR; omega) i1 (fun x hx => ⟨?_, i2 x hx⟩) (by rw [hok.regs]; decide) (by have := (hw.regs _ ht).2; omega)
    have := hok.buf x hx
    unfold plc at this
    have := of_decide_eq_true this
    unfold inR; omega
  · have hf : ∀ (ts : List Th), (∀ t ∈ ts, t.regs.length ≤ 300 ∧ t.buf.length ≤ 1000) → (ts.flatMap thN).length ≤ ts.length * 3000 := by
      intro ts
      induction ts with
      | nil => intro _; simp
      | cons t ts ih =>
        intro hq
        have := ih (fun x hx => hq x (List.mem_cons_of_mem _ hx))
        obtain ⟨q1, q2⟩ := hq t (List.mem_cons_self ..)
        have e : (wrN t.buf).length = t.buf.length * 2 := by
          unfold wrN
          generalize t.buf = bb
          induction bb with
          | nil => rfl
          | cons z bb ih => rw [List.flatMap_cons, List.length_append, ih]; simp; omega
        rw [List.flatMap_cons, List.length_append, List.length_cons]
        have : (thN t).length ≤ 3000 := by unfold thN rowN; simp only [List.length_cons, List.length_append, e]; omega
        omega
    have := hf s.ths hw.regs
    unfold numsS rowN
    simp only [List.length_append, List.length_cons]
    have := hw.ths; have := hw.mem
    omega
/-- A state that is reached, where it came from, by what pick. -/
structure RN where
  s : Sta
  fr : Nat
  k : Nat × Bool
/-- The row, as the program holds it, and as it is. -/
structure Lk (xs : List RN) (l : List (Nd Sta (Nat × Bool))) : Prop where
  len : xs.length = l.length
  st : ∀ i (h : i < xs.length) (h2 : i < l.length), xs[i].s = l[i].1
  zero : ∀ (h : 0 < l.length), l[0].2 = []
  way : ∀ i (h : i < xs.length) (h2 : i < l.length), 0 < i → ∃ (h3 : xs[i].fr < l.length), xs[i].fr < i ∧ l[i].2 = l[xs[i].fr].2 ++ [xs[i].k]
theorem Lk.sts {xs : List RN} {l : List (Nd Sta (Nat × Bool))} (h : Lk xs l) : sts l = xs.map (·.s) := by
  show l.map (·.1) = _
  refine List.ext_getElem (by rw [List.length_map, List.length_map, h.len]) fun i h1 h2 => ?_
  rw [List.length_map] at h1 h2
  rw [List.getElem_map, List.getElem_map]
  exact (h.st i h2 h1).symm
theorem Lk.start (P : Pg) : Lk [⟨beg P, 0, (0, false)⟩] [(beg P, [])] := ⟨rfl, fun i h _ => by
  have : i = 0 := by simpa using h
  subst this; rfl, fun _ => rfl, fun i h _ hi => by simp at h; omega⟩
/-- One more. -/
theorem Lk.add {xs : List RN} {l : List (Nd Sta (Nat × Bool))} (h : Lk xs l) {at' : Nat} (ha : at' < l.length) (p : Nat × Bool) (t : Sta) : Lk (if t ∈ xs.map (·.s) then xs else xs ++ [⟨t, at', p⟩]) (addN l[at'].2 l (p, t)) := by
  have hs := h.sts
  have hl := h.len
  unfold addN
  rw [hs]
  by_cases c : t ∈ xs.map (·.s)
  · rw [if_pos c, if_pos c]; exact h
  · rw [if_neg c, if_neg c]
    refine ⟨by simp [hl], fun i h1 h2 => ?_, fun h0 => ?_, fun i h1 h2 hi => ?_⟩
    · rw [List.length_append, List.length_singleton] at h1 h2
      rw [List.getElem_append, List.getElem_append]
      by_cases ci : i < xs.length
      · rw [dif_pos ci, dif_pos (by omega)]; exact h.st i ci (by omega)
      · rw [dif_neg ci, dif_neg (by omega)]
        simp
    · rw [List.getElem_append_left (by omega)]; exact h.zero (by omega)
    · have h2' := h2
      rw [List.length_append, List.length_singleton] at h1 h2
      by_cases ci : i < xs.length
      · obtain ⟨q1, q2, q3⟩ := h.way i ci (by omega) hi
        have e : (xs ++ [⟨t, at', p⟩])[i]'(by simp; omega) = xs[i] := List.getElem_append_left ci
        refine ⟨by rw [e, List.length_append]; omega, by rw [e]; exact q2, ?_⟩
        simp only [e]
        rw [List.getElem_append_left (by omega), List.getElem_append_left (by omega)]
        exact q3
      · obtain rfl : i = xs.length := by omega
        have e : (xs ++ [⟨t, at', p⟩])[xs.length]'(by simp) = ⟨t, at', p⟩ := by simp
        have k1 : at' < (l ++ [(t, l[at'].2 ++ [p])]).length := by rw [List.length_append]; omega
        have k2 : (l ++ [(t, l[at'].2 ++ [p])])[xs.length]'h2' = (t, l[at'].2 ++ [p]) := by simp [hl]
        have k3 : (l ++ [(t, l[at'].2 ++ [p])])[at']'k1 = l[at'] := List.getElem_append_left ha
        refine ⟨by rw [e]; exact k1, by rw [e]; show at' < _; omega, ?_⟩
        simp only [e]
        rw [k2, k3]
/-- All picks of what is reached can be done. -/
theorem nx_picks {P : Pg} {wk : Bool} {s : Sta} (h : Rc P wk s) : ∀ p ∈ pks P s, ∃ t, rst P s (p.1 : Int) p.2 wk = some t := by
  intro p hp
  have h1 := pks_mem.1 hp
  cases wk with
  | true =>
    unfold rst; rw [if_pos rfl]
    exact Option.isSome_iff_exists.1 h1
  | false =>
    obtain ⟨s', e⟩ := Option.isSome_iff_exists.1 h1
    obtain ⟨k, hk, k1, k2, ⟨-, hb, -⟩ | ⟨hd, h3, -, -⟩⟩ := tst_some h.ok e
    · rw [h.nb rfl _ (List.getElem_mem k1)] at hb; cases hb
    · refine ⟨stp P s (p.1 : Int), ?_⟩
      unfold rst
      rw [if_neg (by decide), hd, if_neg (by decide), if_pos]
      rw [hk, atS_at k1 k2 h3]; rfl
theorem nx_map {P : Pg} {wk : Bool} {s : Sta} (h : Rc P wk s) : (nx P wk s).map (·.1) = pks P s := by
  unfold nx
  have key : ∀ l : List (Nat × Bool), (∀ p ∈ l, ∃ t, rst P s (p.1 : Int) p.2 wk = some t) → (l.filterMap fun p => (rst P s (p.1 : Int) p.2 wk).map fun t => (p, t)).map (·.1) = l := by
    intro l
    induction l with
    | nil => intro _; rfl
    | cons p l ih =>
      intro hl
      obtain ⟨t, ht⟩ := hl p (List.mem_cons_self ..)
      rw [List.filterMap_cons, ht]
      simp only [Option.map_some, List.map_cons]
      rw [ih (fun q hq => hl q (List.mem_cons_of_mem _ hq))]
  exact key _ (nx_picks h)
/-- Along the search: what has been put in of the k-th state's successors, j of them. -/
def part (P : Pg) (wk : Bool) (k j : Nat) : List (Nd Sta (Nat × Bool)) := match (row (nx P wk) (beg P) k)[k]? with
  | some n => ((nx P wk n.1).take j).foldl (addN n.2) (row (nx P wk) (beg P) k)
  | none => row (nx P wk) (beg P) k
theorem part_zero (P : Pg) (wk : Bool) (k : Nat) : part P wk k 0 = row (nx P wk) (beg P) k := by
  unfold part; split <;> rfl
theorem part_pre (P : Pg) (wk : Bool) (k j : Nat) : ∃ r, row (nx P wk) (beg P) (k + 1) = part P wk k j ++ r := by
  unfold part
  rw [row]
  cases (row (nx P wk) (beg P) k)[k]? with
  | none => exact ⟨[], by simp⟩
  | some n =>
    dsimp only
    unfold expand
    conv => enter [1, r, 1]; rw [← List.take_append_drop j (nx P wk n.1)]
    rw [List.foldl_append]
    exact fold_pre _ _ _
theorem part_len (P : Pg) (wk : Bool) (k j : Nat) : (row (nx P wk) (beg P) k).length ≤ (part P wk k j).length := by
  unfold part
  split
  · obtain ⟨r, hr⟩ := fold_pre _ ((nx P wk _).take j) (row (nx P wk) (beg P) k)
    rw [hr, List.length_append]; omega
  · exact Nat.le_refl _
theorem part_leads (P : Pg) (wk : Bool) (k j : Nat) : ∀ m ∈ part P wk k j, Leads (nx P wk) (beg P) m.2 m.1 := fun m hm => by
  obtain ⟨r, hr⟩ := part_pre P wk k j
  exact row_leads _ _ (k + 1) m (by rw [hr]; exact List.mem_append_left _ hm)
theorem full_len {P : Pg} {wk : Bool} {L : List (Nd Sta (Nat × Bool))} (h : Full (nx P wk) (beg P) L) (k : Nat) : (row (nx P wk) (beg P) k).length ≤ L.length := by
  obtain ⟨j, rfl, hj⟩ := h
  rcases Nat.le_total k j with c | c
  · obtain ⟨r, hr⟩ := row_pre2 (nx P wk) (beg P) k (j - k)
    rw [show k + (j - k) = j by omega] at hr
    rw [hr, List.length_append]; omega
  · have := full_stay (nx P wk) (beg P) hj (k - j)
    rw [show j + (k - j) = k by omega] at this
    rw [this]; exact Nat.le_refl _
/-- Too many: there is no full row that is short. -/
theorem part_over {P : Pg} {wk : Bool} {k j : Nat} {most : Int} (h : most < ((part P wk k j).length : Int)) : ∀ L, Full (nx P wk) (beg P) L → most < (L.length : Int) := fun L hL => by
  obtain ⟨r, hr⟩ := part_pre P wk k j
  have h1 := full_len hL (k + 1)
  rw [hr, List.length_append] at h1
  omega
theorem part_done {P : Pg} {wk : Bool} {k j : Nat} {s : Sta} {w : List (Nat × Bool)} (h : (row (nx P wk) (beg P) k)[k]? = some (s, w)) (hj : j = (nx P wk s).length) : part P wk k j = row (nx P wk) (beg P) (k + 1) := by
  unfold part
  rw [row, h]
  dsimp only
  rw [hj, List.take_length]; rfl
theorem part_succ {P : Pg} {wk : Bool} {k j : Nat} {s : Sta} {w : List (Nat × Bool)} (h : (row (nx P wk) (beg P) k)[k]? = some (s, w)) (hj : j < (nx P wk s).length) : part P wk k (j + 1) = addN w (part P wk k j) (nx P wk s)[j] := by
  unfold part
  rw [h]
  dsimp only
  rw [List.take_succ_eq_append_getElem hj, List.foldl_append]; rfl
end EyP
end Go.Proofs.Ytbffjhdocicfoaa
