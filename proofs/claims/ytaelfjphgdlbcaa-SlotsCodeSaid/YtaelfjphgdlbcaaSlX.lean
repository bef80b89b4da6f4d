/-
  MATHEMATICS OF LAYER 8: the code of a program with fences is its code with these.
-/
import Derived.Test.YtaelfjphgdlbcaaSlK
import Derived.Test.YtaelfjphgdlbcaaGreat
import Derived.Test.YtaelfjphgdlbcaaK27
namespace Go.Proofs.Ytaelfjphgdlbcaa
open Go.RowKit
set_option linter.unusedVariables false
set_option linter.unusedSimpArgs false
open WordM (L)
open VM
open CodM (St Pg hasS cnt pos0 isLab toN stp thrS locN fstN codP codE rightP)
open OpsM (Ln)
open SlM

/-- Steps ahead of the first such label; of all, if there is none. -/
def aheadL (s : L) : List Ln → Nat
  | [] => 0
  | x :: r => if isLab s x then 0 else (if hasS x then 1 else 0) + aheadL s r
theorem cnt_cons (x : Ln) (r : List Ln) : cnt (x :: r) = (if hasS x then 1 else 0) + cnt r := by
  unfold cnt
  cases c : hasS x
  · rw [List.filter_cons_of_neg (by simp [c])]; simp
  · rw [List.filter_cons_of_pos c, List.length_cons]; simp; omega
theorem pos0_cons {A : Type} (p : A → Bool) (x : A) (r : List A) : pos0 p (x :: r) = if p x then 0 else if r.any p then pos0 p r + 1 else 0 := by
  unfold pos0
  rw [List.findIdx?_cons]
  cases c : p x
  · simp only [Bool.false_eq_true, if_false]
    cases d : List.findIdx? p r with
    | none =>
      have : r.any p = false := by
        rw [List.findIdx?_eq_none_iff] at d
        rw [List.any_eq_false]
        intro y hy; simp [d y hy]
      rw [this]; simp
    | some k =>
      obtain ⟨hk, h1, -⟩ := List.findIdx?_eq_some_iff_getElem.1 d
      have : r.any p = true := List.any_eq_true.2 ⟨_, List.getElem_mem hk, h1⟩
      rw [this]; simp
  · simp
theorem toN_eq (s : L) : ∀ ls : List Ln, toN ls s = if ls.any (isLab s) then aheadL s ls else 0
  | [] => by unfold toN pos0; simp [cnt]
  | x :: r => by
    have ih := toN_eq s r
    unfold toN at ih ⊢
    rw [pos0_cons, List.any_cons]
    cases c : isLab s x
    · simp only [Bool.false_eq_true, if_false, Bool.false_or]
      cases d : r.any (isLab s)
      · simp [cnt]
      · rw [d] at ih
        simp only [if_true] at ih ⊢
        rw [List.take_succ_cons, cnt_cons, ih, aheadL, c]
        simp
    · simp [cnt, aheadL, c]
theorem cntC_shift (f : Nat → Bool) : ∀ k, cntC f (k + 1) = (if f 0 then 1 else 0) + cntC (fun i => f (i + 1)) k
  | 0 => by rw [cntC, cntC, cntC]; omega
  | k + 1 => by rw [cntC, cntC_shift f k, cntC]; omega
theorem cntC_cong {c c' : Nat → Bool} : ∀ n, (∀ k, k < n → c k = c' k) → cntC c n = cntC c' n
  | 0, _ => rfl
  | n + 1, h => by rw [cntC, cntC, cntC_cong n (fun k hk => h k (by omega)), h n (Nat.lt_succ_self n)]
theorem isLab_fen (s : L) : isLab s fenL = false := rfl
theorem any_fz (s : L) (g : List Int) : ∀ (ls : List Ln) (n : Nat), (fz hasS fenL g n ls).any (isLab s) = ls.any (isLab s)
  | [], n => rfl
  | x :: r, n => by
    rw [fz, List.any_append, List.any_cons, List.any_cons, any_fz s g r]
    have : (if hasS x && has g (n : Int) then [fenL] else []).any (isLab s) = false := by split <;> rfl
    rw [this, Bool.false_or]
theorem ahead_fz (s : L) (g : List Int) : ∀ (ls : List Ln) (n : Nat), aheadL s (fz hasS fenL g n ls) = aheadL s ls + cntC (fun i => has g ((n + i : Nat) : Int)) (aheadL s ls)
  | [], n => by rw [fz]; simp [aheadL, cntC]
  | x :: r, n => by
    rw [fz]
    cases hx : hasS x
    · simp only [Bool.false_and, Bool.false_eq_true, if_false, List.nil_append, Nat.add_zero]
      rw [aheadL, aheadL]
      cases c : isLab s x
      · simp only [Bool.false_eq_true, if_false, hx, Nat.zero_add]
        exact ahead_fz s g r n
      · simp [cntC]
    · have hl : isLab s x = false := by unfold CodM.isLab; rw [hx]; rfl
      have h1 := ahead_fz s g r (n + 1)
      have h2 : aheadL s (x :: r) = aheadL s r + 1 := by rw [aheadL, hl, hx]; simp; omega
      have h3 : aheadL s (x :: fz hasS fenL g (n + 1) r) = aheadL s (fz hasS fenL g (n + 1) r) + 1 := by rw [aheadL, hl, hx]; simp; omega
      have h4 : (fun i => has g ((n + (i + 1) : Nat) : Int)) = fun i => has g ((n + 1 + i : Nat) : Int) := by funext i; rw [show n + (i + 1) = n + 1 + i by omega]
      rw [h2, cntC_shift, h4]
      simp only [if_true, Bool.true_and, Nat.add_zero]
      cases hb : has g (n : Int)
      · simp only [Bool.false_eq_true, if_false, List.nil_append]
        rw [h3, h1]; omega
      · simp only [if_true, List.cons_append, List.nil_append]
        rw [aheadL, isLab_fen, hasS_fen]
        simp only [Bool.false_eq_true, if_false, if_true]
        rw [h3, h1]; omega
theorem toN_fz (s : L) (g : List Int) (n : Nat) (ls : List Ln) : toN (fz hasS fenL g n ls) s = toN ls s + cntC (fun i => has g ((n + i : Nat) : Int)) (toN ls s) := by
  rw [toN_eq, toN_eq, any_fz]
  cases ls.any (isLab s)
  · simp [cntC]
  · simp only [if_true]; exact ahead_fz s g ls n
theorem filt_fz (g : List Int) : ∀ (ls : List Ln) (n : Nat), (fz hasS fenL g n ls).filter hasS = fz (fun _ => true) fenL g n (ls.filter hasS)
  | [], n => rfl
  | x :: r, n => by
    rw [fz, List.filter_append]
    cases hx : hasS x
    · rw [List.filter_cons_of_neg (by simp [hx]), List.filter_cons_of_neg (by simp [hx])]
      simp only [Bool.false_and, Bool.false_eq_true, if_false, List.filter_nil, List.nil_append, Nat.add_zero]
      exact filt_fz g r n
    · rw [List.filter_cons_of_pos hx, List.filter_cons_of_pos hx, fz, filt_fz g r]
      simp only [Bool.true_and, if_true]
      cases has g (n : Int) <;> rfl
theorem fz_map {A : Type} {f : A → St} {h : A → St} {m : St → St} {x0 : A} (g : List Int) : ∀ (l : List A) (n : Nat), (∀ i, i < l.length → has g ((n + i : Nat) : Int) = true → f x0 = m fenS) → (∀ y ∈ l, f y = m (h y)) →
    (fz (fun _ => true) x0 g n l).map f = (fz anyS fenS g n (l.map h)).map m
  | [], n, _, _ => rfl
  | x :: r, n, h1, h2 => by
    rw [List.map_cons, fz, fz, List.map_append, List.map_append, List.map_cons, List.map_cons, h2 x (List.mem_cons_self ..)]
    have ih := fz_map g r (n + 1) (fun i hi hg => h1 (i + 1) (by simp; omega) (by rw [show n + (i + 1) = n + 1 + i by omega]; exact hg)) (fun y hy => h2 y (List.mem_cons_of_mem _ hy))
    simp only [if_true, Bool.true_and, anyS]
    cases hb : has g (n : Int)
    · simp only [Bool.false_eq_true, if_false, List.map_nil, List.nil_append]
      rw [ih]
    · simp only [if_true, List.map_cons, List.map_nil]
      rw [ih, h1 0 (by simp) (by rw [Nat.add_zero]; exact hb)]
theorem stp_fen {ls : List Ln} {locs : List L} (h : VM.ThOk ls) (hn : ∀ s ∈ locs, WordM.nameB s = true) : stp ls locs fenL = fenS := by
  unfold CodM.stp fenL fenS
  simp only [CodM.toN_nil h, CodM.locN_nil hn, CodM.regI_nil]
  rfl
theorem ahd_cod (locs : List L) (ths : List (List Ln)) (t : Nat) : ahd anyS (ths.map (thrS locs)) t = ahd hasS ths t := by
  unfold ahd
  rw [← List.map_take, List.map_map]
  congr 1
  refine List.map_congr_left (fun ls _ => ?_)
  show pc anyS (thrS locs ls) = pc hasS ls
  rw [pc_any, CodM.thrS_len']; rfl
theorem lnames_fz (g : List Int) : ∀ (ls : List Ln) (n : Nat), lnames (fz hasS fenL g n ls) = lnames ls
  | [], n => rfl
  | x :: r, n => by
    have ih := lnames_fz g r (n + if hasS x then 1 else 0)
    unfold VM.lnames at ih ⊢
    rw [fz, List.map_append, List.filter_append, List.map_cons, List.map_cons, List.filter_cons, List.filter_cons, ih]
    have : ((if hasS x && has g (n : Int) then [fenL] else []).map (·.loc)).filter (fun s => !decide (s = [])) = [] := by split <;> rfl
    rw [this, List.nil_append]
theorem tnames_ext : ∀ (ts us : List (List Ln)), ts.length = us.length → (∀ j (h : j < ts.length) (h' : j < us.length), lnames ts[j] = lnames us[j]) → tnames ts = tnames us
  | [], [], _, _ => rfl
  | [], _ :: _, h, _ => by simp at h
  | _ :: _, [], h, _ => by simp at h
  | a :: ts, b :: us, h, hh => by
    have h0 : lnames a = lnames b := hh 0 (by simp) (by simp)
    rw [tnames, tnames, h0, tnames_ext ts us (by simpa using h) (fun j h1 h2 => hh (j + 1) (by simpa using h1) (by simpa using h2))]
theorem locs_fen (F : Fl) (g : List Int) : locs (fenF F g) = locs F := by
  unfold VM.locs VM.names
  show ((fenF F g).init.map (·.1) ++ (tnames (fzs hasS fenL g F.ths) ++ anames (fenF F g).cond)).foldl put [] = _
  rw [tnames_ext (fzs hasS fenL g F.ths) F.ths (fzs_len ..) (fun j h h' => by rw [fzs_at hasS fenL g F.ths h', lnames_fz])]
  rfl
theorem thr_fen {F : Fl} {g : List Int} (hF : VM.right F = true) (hq : VM.right (fenF F g) = true) {t : Nat} (ht : t < F.ths.length) :
    thrS (locs F) (fz hasS fenL g (ahd hasS F.ths t) F.ths[t]) = (fz anyS fenS g (ahd hasS F.ths t) (thrS (locs F) F.ths[t])).map (mv (ch anyS (F.ths.map (thrS (locs F))) g t) (thrS (locs F) F.ths[t]).length) := by
  have hn : ∀ s ∈ locs F, WordM.nameB s = true := fun s hs => locs_names hF hs
  have hT := right_ths hF ht
  have hqT : VM.ThOk (fz hasS fenL g (ahd hasS F.ths t) F.ths[t]) := by
    have h := right_ths hq (t := t) (by show t < (fzs hasS fenL g F.ths).length; rw [fzs_len]; exact ht)
    have e : (fenF F g).ths[t]'(by show t < (fzs hasS fenL g F.ths).length; rw [fzs_len]; exact ht) = fz hasS fenL g (ahd hasS F.ths t) F.ths[t] := fzs_at hasS fenL g F.ths ht
    rw [← e]; exact h
  conv => lhs; unfold CodM.thrS
  rw [filt_fz]
  unfold CodM.thrS
  refine fz_map g _ _ (fun i _ _ => (stp_fen hqT hn).trans (mv_fen _ _).symm) (fun y hy => ?_)
  obtain ⟨hy1, hy2⟩ := List.mem_filter.1 hy
  obtain ⟨i, hi, rfl⟩ := List.mem_iff_getElem.1 hy1
  have hr := CodM.stp_right hT hn (fun x hx hne => CodM.loc_mem (List.getElem_mem ht) hx hne) hi hy2
  have hK : toN F.ths[t] F.ths[t][i].label ≤ ((F.ths[t].filter hasS).map (stp F.ths[t] (locs F))).length := by
    rw [List.length_map]
    show cnt (F.ths[t].take _) ≤ cnt F.ths[t]
    exact ((List.take_sublist _ _).filter hasS).length_le
  unfold CodM.rightS at hr
  simp only [Bool.and_eq_true, decide_eq_true_eq] at hr
  obtain ⟨⟨o1, o2⟩, -, -, -, o5⟩ := hr
  have hf : ∀ q, q < ((F.ths[t].filter hasS).map (stp F.ths[t] (locs F))).length → has g ((ahd hasS F.ths t + q : Nat) : Int) = ch anyS (F.ths.map (thrS (locs F))) g t q := by
    intro q hq
    have hl : t < (F.ths.map (thrS (locs F))).length := by rw [List.length_map]; exact ht
    have h := ch_has (P := ⟨[], F.ths.map (thrS (locs F))⟩) g (t := t) (k := q) hl (by rw [List.getElem_map]; exact hq)
    rw [h, ahd_cod]
  have e0 : stp (fz hasS fenL g (ahd hasS F.ths t) F.ths[t]) (locs F) F.ths[t][i] = ⟨F.ths[t][i].op, CodM.regI F.ths[t][i].reg, (locN (locs F) F.ths[t][i].loc : Int), F.ths[t][i].n, ((toN F.ths[t] F.ths[t][i].label + cntC (fun i => has g ((ahd hasS F.ths t + i : Nat) : Int)) (toN F.ths[t] F.ths[t][i].label) : Nat) : Int)⟩ := by
    unfold CodM.stp; rw [toN_fz]
  rw [e0, cntC_cong (toN F.ths[t] F.ths[t][i].label) (fun q hq => hf q (by omega))]
  unfold mv land
  rw [jmpS_op o2]
  by_cases h8 : 8 ≤ (stp F.ths[t] (locs F) F.ths[t][i]).op
  · rw [decide_eq_true h8, if_pos rfl]
    have e1 : (min ((stp F.ths[t] (locs F) F.ths[t][i]).5) ((((F.ths[t].filter hasS).map (stp F.ths[t] (locs F))).length : Nat) : Int)).toNat = toN F.ths[t] F.ths[t][i].label := by
      show (min ((toN F.ths[t] F.ths[t][i].label : Nat) : Int) _).toNat = _
      omega
    rw [e1]
    rfl
  · have hz : toN F.ths[t] F.ths[t][i].label = 0 := by
      unfold CodM.hTo CodM.zOr at o5
      rw [decide_eq_false h8] at o5
      simp only [Bool.false_eq_true, if_false, decide_eq_true_eq] at o5
      have o6 : ((toN F.ths[t] F.ths[t][i].label : Nat) : Int) = 0 := o5
      omega
    rw [decide_eq_false h8, hz]
    simp only [Bool.false_eq_true, if_false, cntC, Nat.add_zero]
    unfold CodM.stp; rw [hz]
/-- The code of a program with fences, if that is right, is its code with these. -/
theorem code_fen {F : Fl} {g : List Int} (hF : VM.right F = true) (hq : VM.right (fenF F g) = true) : codP (fenF F g) = insP (codP F) g := by
  have e1 : locsR (fenF F g) = locs F := by unfold VM.locsR; rw [if_pos hq, locs_fen]
  have e2 : locsR F = locs F := by unfold VM.locsR; rw [if_pos hF]
  unfold CodM.codP
  rw [if_pos hq, if_pos hF, e1, e2]
  have e3 : (fenF F g).ths.map (thrS (locs F)) = (insP ⟨(locs F).map (fstN F.init), F.ths.map (thrS (locs F))⟩ g).ths := by
    refine List.ext_getElem (by rw [List.length_map, insP_len, List.length_map]; exact fzs_len hasS fenL g F.ths) (fun t h1 h2 => ?_)
    have ht : t < F.ths.length := by rw [insP_len, List.length_map] at h2; exact h2
    rw [insP_at (P := ⟨(locs F).map (fstN F.init), F.ths.map (thrS (locs F))⟩) g (by rw [List.length_map]; exact ht), List.getElem_map, List.getElem_map]
    have e : (fenF F g).ths[t]'(by show t < (fzs hasS fenL g F.ths).length; rw [fzs_len]; exact ht) = fz hasS fenL g (ahd hasS F.ths t) F.ths[t] := fzs_at hasS fenL g F.ths ht
    rw [e, ahd_cod]
    exact thr_fen hF hq ht
  show Pg.mk _ _ = _
  rw [e3]; rfl
end Go.Proofs.Ytaelfjphgdlbcaa
