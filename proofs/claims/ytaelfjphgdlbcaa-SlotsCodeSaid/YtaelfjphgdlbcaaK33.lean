/-
  code.joined, and the steps of a thread.
  code.Code's closures: the steps of a thread.
  Each thread's steps, as a row of rows.
  code.Code: a program's code.
  WHAT LOCATIONS HAVE AT FIRST, as mathematics: the last cell of a location is its first.
  THE DOCUMENT's way to what locations have at first, as mathematics: cell by cell.
  WHAT THE DOCUMENT's step wants of a right thread's lines, as mathematics.
  THE DOCUMENT's line: a line that is not right.
  THE DOCUMENT's line: a label that stands ahead, too.
-/
import Derived.Test.YtaelfjphgdlbcaaM05
import Derived.Deep.RegionHeld3
import Derived.Test.YtaelfjphgdlbcaaK27
import Derived.OneCell
import Derived.Test.YtaelfjphgdlbcaaRStp
import Derived.Test.YtaelfjphgdlbcaaRLn0
namespace Go.Proofs.Ytaelfjphgdlbcaa
open Go.RowKit
set_option linter.unusedVariables false
set_option linter.unusedSimpArgs false
open WordM (L)
open VM
open CodM (St Pg hasS stp thrS)

theorem flat_take {A : Type} (tss : List (List A)) (k : Nat) (h : k < tss.length) : (tss.take (k + 1)).flatten = (tss.take k).flatten ++ tss[k] := by
  rw [List.take_succ_eq_append_getElem h, List.flatten_append]; simp
theorem cdflat_len {A : Type} (tss : List (List A)) (k : Nat) : (tss.take k).flatten.length ≤ tss.flatten.length := by
  have : tss.flatten = (tss.take k).flatten ++ (tss.drop k).flatten := by rw [← List.flatten_append, List.take_append_drop]
  rw [this, List.length_append]; omega
def JnRel (tss : List (List St)) (w : World) (v i : Value) (wr : World) : Prop :=
  ∃ (k n : Nat), k ≤ tss.length ∧ i = .int .i64 k ∧ n = (tss.take k).flatten.length ∧ n ≤ 1000000 ∧ wr.ownsRow w.heap.size 53 5 v n (stsCs (tss.take k).flatten) ∧ Below w.heap.size w wr
theorem info_parts2 {T : TypeId} {n m : Nat} (h : (Try.prog.info? T).map (fun i => (i.size, i.bytes)) = some (n, m)) : ∃ i, Try.prog.info? T = some i ∧ i.size = n ∧ i.bytes = m := by
  cases e : Try.prog.info? T with
  | none => rw [e] at h; cases h
  | some i => rw [e] at h; simp at h; exact ⟨i, rfl, h.1, h.2⟩
theorem info_stepz : (Try.prog.info? 53).map (fun i => (i.zero, i.size, i.bytes)) = some (some (.agg #[.int .i64 0, .int .i64 0, .int .i64 0, .int .i64 0, .int .i64 0]), 5, 40) := by kernel_rfl
end Go.Proofs.Ytaelfjphgdlbcaa
namespace Go.Proofs.Ytaelfjphgdlbcaa
open Go.RowKit
set_option linter.unusedVariables false
set_option linter.unusedSimpArgs false
open WordM (L)
open VM
open CodM (St Pg hasS stp thrS)

theorem mkS_flat (ls : List OpsM.Ln) (locs : List L) : ∀ (xs : List OpsM.Ln), (xs.map (mkS ls locs)).flatten = (xs.filter hasS).map (stp ls locs)
  | [] => rfl
  | x :: r => by
    rw [List.map_cons, List.flatten_cons, mkS_flat ls locs r]
    unfold mkS
    cases h : hasS x
    · rw [List.filter_cons_of_neg (by simp [h])]; rfl
    · rw [List.filter_cons_of_pos h]; rfl
theorem thrS_flat (ls : List OpsM.Ln) (locs : List L) : (ls.map (mkS ls locs)).flatten = thrS locs ls := mkS_flat ls locs ls
theorem thrS_len (ls : List OpsM.Ln) (locs : List L) : (thrS locs ls).length ≤ ls.length := by
  unfold thrS; rw [List.length_map]; exact List.length_filter_le _ _
end Go.Proofs.Ytaelfjphgdlbcaa
namespace Go.Proofs.Ytaelfjphgdlbcaa
open Go.RowKit
set_option linter.unusedVariables false
set_option linter.unusedSimpArgs false
open WordM (L)
open VM
open CodM (St Pg hasS stp thrS)

def EtRel (ts : List (List OpsM.Ln)) (ms : List (List St)) (w : World) (v i : Value) (wr : World) : Prop :=
  ∃ (k : Nat) (vs : List Value), k ≤ ts.length ∧ i = .int .i64 k ∧ wr.ownsRow w.heap.size 50 1 v k vs ∧ StsAll wr w.heap.size vs (ms.take k) ∧ Below w.heap.size w wr
end Go.Proofs.Ytaelfjphgdlbcaa
namespace Go.Proofs.Ytaelfjphgdlbcaa
open Go.RowKit
set_option linter.unusedVariables false
set_option linter.unusedSimpArgs false
open WordM (L)
open VM
open CodM (St Pg hasS stp thrS fstN codP codE)

/-- What a call says that hands back a code and an error. -/
def RetPg (P : Pg) (n : Int) (w : World) (e : Ending) (w' : World) : Prop :=
  ∃ vi vt, e = .returned (.tuple #[.agg #[vi, vt], .int .i64 n]) ∧ PgM w'.heap.size w' vi vt P ∧ Below w.heap.size w w'
theorem ints_nil (B : Nat) (w : World) : Ints B w (.slice none 0 0) [] := ⟨none, 0, rfl, Nat.le_refl _, by decide, fun k => absurd k (by decide)⟩
theorem sss_nil (B : Nat) (w : World) : Sss B w (.slice none 0 0) [] := ⟨none, 0, rfl, Nat.le_refl _, by decide, fun k => absurd k (by decide)⟩
theorem StsAll.set {W : World} {base b i : Nat} {vs : List Value} {tss : List (List St)} (h : StsAll W base vs tss) (hb : b < base) (x : Value) : StsAll (W.setCell ⟨b, i, none⟩ x) base vs tss := by
  refine ⟨h.1, fun j hj => ?_⟩
  obtain ⟨u, h1, h2⟩ := h.2 j hj
  exact ⟨u, h1, ownsRow_setCell_other h2 (fun e => by have := (h2.lt _ e).1; change base ≤ b at this; omega) x⟩
theorem own_set {W : World} {base b i T sz n : Nat} {v : Value} {xs : List Value} (h : W.ownsRow base T sz v n xs) (hb : b < base) (x : Value) : (W.setCell ⟨b, i, none⟩ x).ownsRow base T sz v n xs :=
  ownsRow_setCell_other h (fun e => by have := (h.lt _ e).1; change base ≤ b at this; omega) x
theorem pgm_own {W : World} {b1 b2 b3 b4 : Nat} {T1 T2 : TypeId} {va vb : Value} {ns : List Int} {vs : List Value} {tss : List (List St)} {P : Pg} (h1 : W.ownsRow b1 T1 1 va ns.length (intCs ns)) (h2 : W.ownsRow b2 T2 1 vb tss.length vs) (h3 : StsAll W b3 vs tss) (hB : W.heap.size ≤ b4) (hP : P = ⟨ns, tss⟩) : PgM b4 W va vb P := by
  subst hP
  refine ⟨ints_of_own h1 hB, sss_of_own h2 hB (fun j hj => ?_)⟩
  obtain ⟨u, e, h⟩ := h3.2 j hj
  exact ⟨u, e, sts_of_own h hB⟩
end Go.Proofs.Ytaelfjphgdlbcaa
namespace Go.Proofs.Ytaelfjphgdlbcaa.CodM
open WordM (L)
open OpsM (Ln)
open VM (Fl)
set_option linter.unusedVariables false
set_option linter.unusedSimpArgs false

theorem init_rise {F : Fl} (h : VM.right F = true) (j : Nat) (hj : j + 1 < F.init.length) : F.init[j].1 < F.init[j + 1].1 := by
  have h1 := (frameC_zero (right_zero h).1).2
  unfold VM.cellsC at h1
  cases e : VM.firstAt (VM.cellC F.init) F.init.length with
  | some k => rw [e] at h1; exact absurd h1 (VM.firstAt_some e).2.1
  | none =>
    have h2 := VM.firstAt_none.1 e (j + 1) hj
    unfold VM.cellC at h2
    by_cases c1 : WordM.nameB (F.init.getD (j + 1) ([], 0)).1 = false
    · rw [if_pos c1] at h2; cases h2
    rw [if_neg c1] at h2
    by_cases c2 : 0 < j + 1 ∧ (F.init.getD (j + 1) ([], 0)).1 ≤ (F.init.getD (j + 1 - 1) ([], 0)).1
    · rw [if_pos c2] at h2; cases h2
    have c3 : ¬ (F.init.getD (j + 1) ([], 0)).1 ≤ (F.init.getD j ([], 0)).1 := fun c => c2 ⟨by omega, by simpa using c⟩
    rw [getD_at _ _ _ hj, getD_at _ _ _ (show j < F.init.length by omega)] at c3
    exact List.not_le.1 c3
theorem init_lt {F : Fl} (h : VM.right F = true) (i : Nat) : ∀ j, i < j → ∀ hj : j < F.init.length, ∀ hi : i < F.init.length, F.init[i].1 < F.init[j].1
  | 0, hij, _, _ => absurd hij (Nat.not_lt_zero i)
  | j + 1, hij, hj, hi => by
    by_cases e : i = j
    · subst e; exact init_rise h i hj
    · exact List.lt_trans (init_lt h i j (by omega) (by omega) hi) (init_rise h j hj)
theorem init_apart {F : Fl} (h : VM.right F = true) {i j : Nat} (hi : i < F.init.length) (hj : j < F.init.length) (e : F.init[i].1 = F.init[j].1) : i = j := by
  rcases Nat.lt_trichotomy i j with c | c | c
  · have := init_lt h i j c hj hi
    rw [e] at this
    exact absurd this (List.lt_irrefl _)
  · exact c
  · have := init_lt h j i c hi hj
    rw [e] at this
    exact absurd this (List.lt_irrefl _)
/-- What the last cell of a location has. -/
def lastN (cs : List (L × Int)) (s : L) : Int := cs.foldl (fun n c => if c.1 = s then c.2 else n) 0
theorem lastN_take (cs : List (L × Int)) (s : L) (k : Nat) (h : k < cs.length) : lastN (cs.take (k + 1)) s = if cs[k].1 = s then cs[k].2 else lastN (cs.take k) s := by
  unfold lastN
  rw [List.take_succ_eq_append_getElem h, List.foldl_append]; rfl
theorem lastN_one {F : Fl} (h : VM.right F = true) (s : L) : lastN F.init s = fstN F.init s := by
  by_cases c : ∃ k, ∃ hk : k < F.init.length, F.init[k].1 = s
  · obtain ⟨k, hk, e⟩ := c
    rw [fstN_hit hk (fun j hj hjk e2 => by have := init_apart h hj hk (e2.trans e.symm); omega) e]
    have key : ∀ m, m ≤ F.init.length → lastN (F.init.take m) s = if k < m then F.init[k].2 else 0 := by
      intro m
      induction m with
      | zero => intro _; simp [lastN]
      | succ m ih =>
        intro hm
        rw [lastN_take _ _ _ (by omega), ih (by omega)]
        by_cases e2 : F.init[m].1 = s
        · have : m = k := init_apart h (by omega) hk (e2.trans e.symm)
          subst this
          rw [if_pos e2, if_pos (by omega)]
        · rw [if_neg e2]
          have : m ≠ k := fun e3 => by subst e3; exact e2 e
          by_cases c3 : k < m
          · rw [if_pos c3, if_pos (by omega)]
          · rw [if_neg c3, if_neg (by omega)]
    have := key F.init.length (Nat.le_refl _)
    rw [List.take_length, if_pos hk] at this
    exact this
  · have c' : ∀ j (h : j < F.init.length), ¬ F.init[j].1 = s := fun j hj e => c ⟨j, hj, e⟩
    rw [fstN_none c']
    have key : ∀ m, m ≤ F.init.length → lastN (F.init.take m) s = 0 := by
      intro m
      induction m with
      | zero => intro _; simp [lastN]
      | succ m ih => intro hm; rw [lastN_take _ _ _ (by omega), if_neg (c' m (by omega)), ih (by omega)]
    have := key F.init.length (Nat.le_refl _)
    rwa [List.take_length] at this
end Go.Proofs.Ytaelfjphgdlbcaa.CodM
namespace Go.Proofs.Ytaelfjphgdlbcaa.CodM
open WordM (L)
open OpsM (Ln)
open VM (Fl)
set_option linter.unusedVariables false
set_option linter.unusedSimpArgs false

def initK (cs : List (L × Int)) (locs : List L) : Nat → List Int
  | 0 => List.replicate locs.length 0
  | k + 1 => match cs[k]? with | some c => (initK cs locs k).set (locN locs c.1) c.2 | none => initK cs locs k
theorem initK_step (cs : List (L × Int)) (locs : List L) (k : Nat) (h : k < cs.length) : initK cs locs (k + 1) = (initK cs locs k).set (locN locs cs[k].1) cs[k].2 := by
  show (match cs[k]? with | some c => _ | none => _) = _
  rw [List.getElem?_eq_getElem h]
theorem initK_len (cs : List (L × Int)) (locs : List L) : ∀ k, (initK cs locs k).length = locs.length
  | 0 => by simp [initK]
  | k + 1 => by
    show (match cs[k]? with | some c => _ | none => _ : List Int).length = _
    cases cs[k]? with
    | none => exact initK_len cs locs k
    | some c => simp [initK_len cs locs k]
theorem initK_at {F : Fl} (h : VM.right F = true) : ∀ k, k ≤ F.init.length → ∀ j (hj : j < (VM.locs F).length), (initK F.init (VM.locs F) k)[j]? = some (lastN (F.init.take k) (VM.locs F)[j])
  | 0, _, j, hj => by simp [initK, lastN, hj]
  | k + 1, hk, j, hj => by
    rw [initK_step _ _ _ (by omega), lastN_take _ _ _ (by omega)]
    have ih := initK_at h k (by omega) j hj
    have hmem := cell_mem (F := F) (c := F.init[k]) (List.getElem_mem (by omega)) (name_ne (by
      have h1 := (frameC_zero (right_zero h).1).2
      unfold VM.cellsC at h1
      cases e : VM.firstAt (VM.cellC F.init) F.init.length with
      | some q => rw [e] at h1; exact absurd h1 (VM.firstAt_some e).2.1
      | none =>
        have h2 := VM.firstAt_none.1 e k (by omega)
        unfold VM.cellC at h2
        rw [getD_at _ _ _ (show k < F.init.length by omega)] at h2
        by_cases c1 : WordM.nameB F.init[k].1 = false
        · rw [if_pos c1] at h2; cases h2
        · simpa using c1))
    obtain ⟨hq, hql⟩ := locN_at hmem
    rw [List.getElem?_set]
    by_cases c : locN (VM.locs F) F.init[k].1 = j
    · rw [if_pos c, if_pos (by rw [initK_len]; exact hq)]
      subst c
      rw [hql, if_pos rfl]
    · rw [if_neg c, ih, if_neg]
      intro e
      apply c
      have hnd := locs_nodup F
      have e2 : (VM.locs F)[locN (VM.locs F) F.init[k].1] = (VM.locs F)[j] := hql.trans e
      exact (List.getElem_inj hnd).1 e2
theorem initK_end {F : Fl} (h : VM.right F = true) : initK F.init (VM.locsR F) F.init.length = (VM.locsR F).map (fstN F.init) := by
  rw [show VM.locsR F = VM.locs F by unfold VM.locsR; rw [if_pos h]]
  apply List.ext_getElem?
  intro j
  by_cases hj : j < (VM.locs F).length
  · rw [initK_at h _ (Nat.le_refl _) j hj, List.take_length, List.getElem?_map, List.getElem?_eq_getElem hj, lastN_one h]; rfl
  · rw [List.getElem?_eq_none (by rw [initK_len]; omega), List.getElem?_eq_none (by rw [List.length_map]; omega)]
theorem cells_in {F : Fl} (h : VM.right F = true) {k : Nat} (hk : k < F.init.length) : locN (VM.locsR F) F.init[k].1 < (VM.locsR F).length := by
  rw [show VM.locsR F = VM.locs F by unfold VM.locsR; rw [if_pos h]]
  have hmem := cell_mem (F := F) (c := F.init[k]) (List.getElem_mem hk) (name_ne (by
    have h1 := (frameC_zero (right_zero h).1).2
    unfold VM.cellsC at h1
    cases e : VM.firstAt (VM.cellC F.init) F.init.length with
    | some q => rw [e] at h1; exact absurd h1 (VM.firstAt_some e).2.1
    | none =>
      have h2 := VM.firstAt_none.1 e k hk
      unfold VM.cellC at h2
      rw [getD_at _ _ _ hk] at h2
      by_cases c1 : WordM.nameB F.init[k].1 = false
      · rw [if_pos c1] at h2; cases h2
      · simpa using c1))
  exact (locN_at hmem).1
end Go.Proofs.Ytaelfjphgdlbcaa.CodM
namespace Go.Proofs.Ytaelfjphgdlbcaa
open WordM (L)
open OpsM (Ln)
open VM
open CodM
set_option linter.unusedVariables false
set_option linter.unusedSimpArgs false

theorem right_nolab {x : Ln} (h : OpsM.rightL x = true) (hs : hasS x = true) (hj : jmpB x = false) : x.label = [] := by
  have ho : ¬ x.op = 11 := by unfold CodM.hasS at hs; simpa using hs
  have hj' : ¬ (8 ≤ x.op ∧ x.op ≤ 10) := by unfold jmpB at hj; simpa using hj
  unfold OpsM.rightL OpsM.right at h
  by_cases e1 : x.op = 1
  · simp [e1, OpsM.okNum, OpsM.emp] at h; exact h.2.2
  by_cases e2 : x.op = 2
  · simp [e2, OpsM.okLoc, OpsM.emp] at h; exact h.2.2.1
  by_cases e3 : x.op = 3
  · simp [e3, OpsM.okLoc, OpsM.emp] at h; exact h.2.2.1
  by_cases e4 : x.op = 4
  · simp [e4, OpsM.okPut, OpsM.emp] at h; exact h.2.2
  by_cases e5 : x.op = 5
  · simp [e5, OpsM.okLoc, OpsM.emp] at h; exact h.2.2.1
  by_cases e6 : x.op = 6
  · simp [e6, OpsM.okFen, OpsM.emp] at h; exact h.2.2.1
  by_cases e7 : x.op = 7
  · simp [e7, OpsM.okNum, OpsM.emp] at h; exact h.2.2
  have e8 : ¬ x.op = 8 := fun e => hj' (by omega)
  have e9 : ¬ x.op = 9 := fun e => hj' (by omega)
  have e10 : ¬ x.op = 10 := fun e => hj' (by omega)
  simp [e1, e2, e3, e4, e5, e6, e7, e8, e9, e10, ho] at h
theorem step_ok {F : Fl} (h : VM.right F = true) {ls : List Ln} (hls : ls ∈ F.ths) {i : Nat} (hi : i < ls.length) (hs : hasS ls[i] = true) : StepOk ls (locsR F) ls[i] := by
  obtain ⟨t, ht, rfl⟩ := List.mem_iff_getElem.1 hls
  have hok := right_ths h ht
  have hr := (lineC_zero (hok i hi)).1
  refine ⟨fun hne => ?_, fun e => ?_, fun j hj h1 h2 => ?_, fun hj => ?_⟩
  · have := right_reg hr hne
    unfold regI; omega
  · rw [e]
    exact locN_nil (fun s hs => locs_names h (by rw [← show locsR F = locs F by unfold locsR; rw [if_pos h]]; exact hs))
  · obtain ⟨e1, e2⟩ := (isLab_iff _ _).1 h2
    exact toN_lab hok hj e1 e2
  · rw [right_nolab hr hs hj]
    exact toN_nil hok
/-- The steps of a thread's first lines. -/
def thrK (ls : List Ln) (locs : List L) (m : Nat) : List St := ((ls.take m).filter hasS).map (stp ls locs)
theorem thrK_step (ls : List Ln) (locs : List L) (m : Nat) (h : m < ls.length) : thrK ls locs (m + 1) = thrK ls locs m ++ (if hasS ls[m] then [stp ls locs ls[m]] else []) := by
  unfold thrK
  rw [List.take_succ_eq_append_getElem h, List.filter_append, List.map_append]
  cases c : hasS ls[m]
  · rw [List.filter_cons_of_neg (by simp [c])]; rfl
  · rw [List.filter_cons_of_pos c]; rfl
theorem thrK_end (ls : List Ln) (locs : List L) : thrK ls locs ls.length = thrS locs ls := by unfold thrK thrS; rw [List.take_length]
theorem thrK_len (ls : List Ln) (locs : List L) (m : Nat) : (thrK ls locs m).length ≤ m := by
  unfold thrK; rw [List.length_map]; exact Nat.le_trans (List.length_filter_le _ _) (List.length_take_le _ _)
theorem intCs_set (l : List Int) (i : Nat) (n : Int) : intCs (l.set i n) = (intCs l).set i (.int .i64 n) := by unfold intCs; rw [List.map_set]
end Go.Proofs.Ytaelfjphgdlbcaa
namespace Go.Proofs.Ytaelfjphgdlbcaa
open Go.RowKit
set_option linter.unusedVariables false
set_option linter.unusedSimpArgs false
open WordM (L)
open VM

set_option maxHeartbeats 8000000 in
set_option maxRecDepth 100000 in
theorem rline_a {B : Nat} {v : Value} {ls : List OpsM.Ln} {k : Nat} (w : World) (h : Lns B w v ls) (hBB : B ≤ w.heap.size) (hk : k < ls.length) (hn : ls.length ≤ 100000) (hs : ∀ l ∈ ls, l.reg.length ≤ 100000 ∧ l.loc.length ≤ 100000 ∧ l.label.length ≤ 100000) (hR : OpsM.rightL ls[k] = false) :
    Calls Try.prog 67 #[v, .int .i64 k] w fun e w' => e = .returned (.int .i64 (lnC ls k)) ∧ Below w.heap.size w w' := by
  obtain ⟨A1, c1, rfl, ha1, ha2, ha3⟩ := h
  obtain ⟨b1, f1, rfl, hb1, hcl⟩ := ha3 (by omega)
  have HC := Lib.hid (lnC_take ls k hk)
  have hxs := hs ls[k] (List.getElem_mem _)
  have HS := Lib.hid hs
  have hat := hcl k hk
  have HCL := Lib.hid hcl
  have HT := Lib.hid (fun W (hW : Below w.heap.size w W) => lns_take (B := W.heap.size) (Nat.lt_of_lt_of_le hb1 (Nat.le_trans hBB hW.size)) (Nat.le_of_lt hk) ha1 ha2 (fun j hj => (hcl j hj).below (hW.mono hBB) hb1))
  have HD := Lib.hid (fun W (hW : Below w.heap.size w W) => lns_drop (B := W.heap.size) (k := k + 1) (Nat.lt_of_lt_of_le hb1 (Nat.le_trans hBB hW.size)) hk ha1 ha2 (fun j hj => (hcl j hj).below (hW.mono hBB) hb1))
  obtain ⟨x, hx⟩ : ∃ x, x = ls[k] := ⟨_, rfl⟩
  rw [← hx] at hxs hat
  obtain ⟨d0, d1, d2, d3, d4⟩ := hat
  replace HC := Lib.hid (HC.out.trans (by rw [← hx]))
  have HX := Lib.hid hx
  have hB0 := below_al (Below.refl w.heap.size w) (.cells #[.int .i64 x.op, .string ⟨x.reg.toArray⟩, .string ⟨x.loc.toArray⟩, .string ⟨x.label.toArray⟩, .int .i64 x.n] 60)
  have hbx0 := Lib.hid (show BxL (w.alloc (.cells #[.int .i64 x.op, .string ⟨x.reg.toArray⟩, .string ⟨x.loc.toArray⟩, .string ⟨x.label.toArray⟩, .int .i64 x.n] 60)) w.heap.size x from LnBox.at rfl _ _ _ _ _ _)
  have HR := Lib.hid (fun W => rright_l x W hxs.1 hxs.2.1 hxs.2.2)
  have HJ := Lib.hid (fun W => rjump_l x W)
  have HI := Lib.hid (fun W => rinstr_l x W)
  clear hx hcl ha3 hs hxs
  have hq1 : (k : Int) ≤ (ls.length : Int) := by omega
  have hq2 : (0 : Int) ≤ (k : Int) := by omega
  unfold maxLen at ha2
  rw [← HX.out] at hR
  have E := Lib.hid (show lnC ls k = 11 by rw [HC.out]; unfold lineC; rw [if_pos hR])
  rw [hR] at HR
  clear hR
  go_enter Try.func67, Try.ntmps67
  go_wp2_with fail
  refine (HR.out _).mono ?_
  rintro e w1 ⟨rfl, hb⟩
  have hB1 := chain hB0 hb
  go_wp2
  go_ret
  exact ⟨ret_int E.out.symm, hB1⟩
end Go.Proofs.Ytaelfjphgdlbcaa
namespace Go.Proofs.Ytaelfjphgdlbcaa
open Go.RowKit
set_option linter.unusedVariables false
set_option linter.unusedSimpArgs false
open WordM (L)
open VM

set_option maxHeartbeats 8000000 in
set_option maxRecDepth 100000 in
theorem rline_b {B : Nat} {v : Value} {ls : List OpsM.Ln} {k : Nat} (w : World) (h : Lns B w v ls) (hBB : B ≤ w.heap.size) (hk : k < ls.length) (hn : ls.length ≤ 100000) (hs : ∀ l ∈ ls, l.reg.length ≤ 100000 ∧ l.loc.length ≤ 100000 ∧ l.label.length ≤ 100000) (hR : ¬ OpsM.rightL ls[k] = false) (h11 : ls[k].op = 11) (hl : 0 < lcnt (ls.take k) ls[k].label) :
    Calls Try.prog 67 #[v, .int .i64 k] w fun e w' => e = .returned (.int .i64 (lnC ls k)) ∧ Below w.heap.size w w' := by
  obtain ⟨A1, c1, rfl, ha1, ha2, ha3⟩ := h
  obtain ⟨b1, f1, rfl, hb1, hcl⟩ := ha3 (by omega)
  have HC := Lib.hid (lnC_take ls k hk)
  have hxs := hs ls[k] (List.getElem_mem _)
  have HS := Lib.hid hs
  have hat := hcl k hk
  have HCL := Lib.hid hcl
  have HT := Lib.hid (fun W (hW : Below w.heap.size w W) => lns_take (B := W.heap.size) (Nat.lt_of_lt_of_le hb1 (Nat.le_trans hBB hW.size)) (Nat.le_of_lt hk) ha1 ha2 (fun j hj => (hcl j hj).below (hW.mono hBB) hb1))
  have HD := Lib.hid (fun W (hW : Below w.heap.size w W) => lns_drop (B := W.heap.size) (k := k + 1) (Nat.lt_of_lt_of_le hb1 (Nat.le_trans hBB hW.size)) hk ha1 ha2 (fun j hj => (hcl j hj).below (hW.mono hBB) hb1))
  obtain ⟨x, hx⟩ : ∃ x, x = ls[k] := ⟨_, rfl⟩
  rw [← hx] at hxs hat
  obtain ⟨d0, d1, d2, d3, d4⟩ := hat
  replace HC := Lib.hid (HC.out.trans (by rw [← hx]))
  have HX := Lib.hid hx
  have hB0 := below_al (Below.refl w.heap.size w) (.cells #[.int .i64 x.op, .string ⟨x.reg.toArray⟩, .string ⟨x.loc.toArray⟩, .string ⟨x.label.toArray⟩, .int .i64 x.n] 60)
  have hbx0 := Lib.hid (show BxL (w.alloc (.cells #[.int .i64 x.op, .string ⟨x.reg.toArray⟩, .string ⟨x.loc.toArray⟩, .string ⟨x.label.toArray⟩, .int .i64 x.n] 60)) w.heap.size x from LnBox.at rfl _ _ _ _ _ _)
  have HR := Lib.hid (fun W => rright_l x W hxs.1 hxs.2.1 hxs.2.2)
  have HJ := Lib.hid (fun W => rjump_l x W)
  have HI := Lib.hid (fun W => rinstr_l x W)
  clear hx hcl ha3 hs hxs
  have hq1 : (k : Int) ≤ (ls.length : Int) := by omega
  have hq2 : (0 : Int) ≤ (k : Int) := by omega
  unfold maxLen at ha2
  have HRr := Lib.hid (show ¬ OpsM.rightL x = false by rw [HX.out]; exact hR)
  have hR' : OpsM.rightL x = true := by have := HRr.out; simpa using this
  rw [hR'] at HR
  clear hR hR'
  rw [← HX.out] at h11 hl
  have E := Lib.hid (show lnC ls k = 21 by rw [HC.out]; unfold lineC; rw [if_neg HRr.out, if_pos ⟨h11, hl⟩])
  have q11 : (x.op == 11) = true := by rw [h11]; rfl
  clear h11 HC HX HJ HI HD HRr HCL
  go_enter Try.func67, Try.ntmps67
  go_wp2_with fail
  refine (HR.out _).mono ?_
  rintro e w1 ⟨rfl, hb⟩
  have hbx1 := Lib.hid (show BxL w1 w.heap.size x from LnBox.below hbx0.out hb)
  have hB1 := chain hB0 hb
  clear hB0 hb hbx0
  obtain ⟨t0, t1, t2, t3, t4⟩ := hbx1.out
  have HL := Lib.hid (fun n => (rlabels_same ⟨x.label.toArray⟩ (w1.drewN n) (HT.out w1 hB1)).mono (fun e w' h => And.intro h.1 h.2.symm))
  go_wp2
  go_quiet (first | (go_at_call 76; exact Calls.quiet_of_same (HL.out _)))
  go_wp2
  go_ret
  exact ⟨ret_int E.out.symm, below_drewN hB1 _⟩
end Go.Proofs.Ytaelfjphgdlbcaa
