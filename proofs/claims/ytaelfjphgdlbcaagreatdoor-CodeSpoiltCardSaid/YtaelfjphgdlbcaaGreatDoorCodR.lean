/-
  THE CODE OF A RIGHT PROGRAM IS RIGHT, as mathematics.
-/
import Derived.Test.YtaelfjphgdlbcaaGreatDoorCodM
import Derived.Test.YtaelfjphgdlbcaaGreatDoorVMs
namespace Go.Proofs.YtaelfjphgdlbcaaGreatDoor.CodM
open WordM (L)
open OpsM (Ln)
open VM (Fl)
set_option linter.unusedVariables false
set_option linter.unusedSimpArgs false

/-- The k-th of those that are kept is one of the row's, with k kept ahead of it. -/
theorem filter_at {A : Type} (p : A → Bool) : ∀ (l : List A) (k : Nat) (h : k < (l.filter p).length), ∃ (i : Nat) (hi : i < l.length), p l[i] = true ∧ ((l.take i).filter p).length = k ∧ (l.filter p)[k] = l[i]
  | [], k, h => absurd h (by simp)
  | x :: r, k, h => by
    cases c : p x with
    | false =>
      rw [List.filter_cons_of_neg (by simp [c])] at h
      obtain ⟨i, hi, h1, h2, h3⟩ := filter_at p r k h
      refine ⟨i + 1, by simpa using hi, h1, ?_, ?_⟩
      · rw [List.take_succ_cons, List.filter_cons_of_neg (by simp [c])]; exact h2
      · simp only [List.filter_cons_of_neg (show ¬ p x = true by simp [c])]; exact h3
    | true =>
      rw [List.filter_cons_of_pos c] at h
      cases k with
      | zero => exact ⟨0, by simp, c, by simp, by simp [List.filter_cons_of_pos c]⟩
      | succ k =>
        obtain ⟨i, hi, h1, h2, h3⟩ := filter_at p r k (by simpa using h)
        refine ⟨i + 1, by simpa using hi, h1, ?_, ?_⟩
        · rw [List.take_succ_cons, List.filter_cons_of_pos c, List.length_cons, h2]
        · simp only [List.filter_cons_of_pos c, List.getElem_cons_succ]; exact h3
theorem thrS_at (locs : List L) (ls : List Ln) (k : Nat) (h : k < (thrS locs ls).length) : ∃ (i : Nat) (hi : i < ls.length), hasS ls[i] = true ∧ cnt (ls.take i) = k ∧ (thrS locs ls)[k] = stp ls locs ls[i] := by
  have h' : k < (ls.filter hasS).length := by unfold thrS at h; simpa using h
  obtain ⟨i, hi, h1, h2, h3⟩ := filter_at hasS ls k h'
  refine ⟨i, hi, h1, h2, ?_⟩
  apply Option.some.inj
  rw [← List.getElem?_eq_getElem h]
  unfold thrS
  rw [List.getElem?_map, List.getElem?_eq_getElem h', h3]; rfl
theorem thrS_len' (locs : List L) (ls : List Ln) : (thrS locs ls).length = cnt ls := by unfold thrS cnt; simp
/-! How many steps a right thread has. -/
def cF (ls : List Ln) : Nat := (ls.filter (fun l => l.op == 6)).length
theorem cF_take (ls : List Ln) (k : Nat) (h : k < ls.length) : cF (ls.take (k + 1)) = cF (ls.take k) + if ls[k].op = 6 then 1 else 0 := by
  unfold cF
  rw [List.take_succ_eq_append_getElem h, List.filter_append, List.length_append]
  by_cases c : ls[k].op = 6
  · rw [List.filter_cons_of_pos (by simp [c]), if_pos c]; rfl
  · rw [List.filter_cons_of_neg (by simp [c]), if_neg c]; rfl
theorem fen_le {ls : List Ln} (h : VM.ThOk ls) : ∀ k, k ≤ ls.length → cF (ls.take k) ≤ VM.cI (ls.take k) + VM.cM (ls.take k) + (if VM.fenB ls k = true then 1 else 0)
  | 0, _ => by simp [cF]
  | k + 1, hk => by
    have ih := fen_le h k (by omega)
    rw [cF_take ls k hk, VM.cI_take ls k hk, VM.cM_take ls k hk, VM.fenB_succ, List.getElem?_eq_getElem (show k < ls.length by omega)]
    have h3 := (VM.lineC_zero (h k hk)).2.2.1
    by_cases c : ls[k].op = 6
    · have hf : VM.fenB ls k = false := by
        cases e : VM.fenB ls k
        · rfl
        · exact absurd ⟨c, e⟩ h3
      rw [hf] at ih
      simp only [if_pos c, c]
      simp at ih ⊢
      omega
    · have : VM.insB ls[k] = true ∨ VM.labB ls[k] = true := by
        unfold VM.insB VM.labB
        by_cases c2 : ls[k].op = 11
        · right; simp [c2]
        · left; simp [c, c2]
      rw [if_neg c]
      have hle : (if VM.fenB ls k = true then 1 else 0) ≤ 1 := by split <;> omega
      rcases this with e | e <;> (rw [e]; simp only [if_true]; omega)
theorem cnt_split (ls : List Ln) : ∀ k, k ≤ ls.length → cnt (ls.take k) ≤ VM.cI (ls.take k) + cF (ls.take k)
  | 0, _ => by simp [cnt]
  | k + 1, hk => by
    have ih := cnt_split ls k (by omega)
    rw [cnt_take ls k hk, cF_take ls k hk, VM.cI_take ls k hk]
    cases c : hasS ls[k]
    · simp; omega
    · by_cases e : ls[k].op = 6
      · rw [if_pos e]; simp; omega
      · have : VM.insB ls[k] = true := by
          unfold hasS at c; unfold VM.insB
          simp at c; simp [e, c]
        rw [this]; simp; omega
theorem cnt_many {ls : List Ln} (h : VM.ThOk ls) : cnt ls ≤ 33 := by
  have h1 := cnt_split ls ls.length (Nat.le_refl _)
  have h2 := fen_le h ls.length (Nat.le_refl _)
  have h3 := VM.cI_eight h ls.length (Nat.le_refl _)
  have h4 := VM.cM_eight h ls.length (Nat.le_refl _)
  rw [List.take_length] at h1 h2 h3 h4
  have hle : (if VM.fenB ls ls.length = true then 1 else 0) ≤ 1 := by split <;> omega
  omega
/-! A step of a right line. -/
theorem right_lab {x : Ln} (h : OpsM.rightL x = true) (ho : x.op = 11) : WordM.nameB x.label = true := by
  unfold OpsM.rightL OpsM.right at h
  rw [ho] at h
  simp [OpsM.okLab] at h
  exact h.1
theorem name_ne {s : L} (h : WordM.nameB s = true) : s ≠ [] := by
  intro e; subst e; revert h; decide
theorem toN_nil {ls : List Ln} (h : VM.ThOk ls) : toN ls [] = 0 := by
  unfold toN
  rw [pos0_none (fun j hj => ?_)]
  · rfl
  · unfold isLab hasS
    by_cases c : ls[j].op = 11
    · have := name_ne (right_lab ((VM.lineC_zero (h j hj)).1) c)
      simp [c, this]
    · simp [c]
theorem locN_nil {locs : List L} (h : ∀ s ∈ locs, WordM.nameB s = true) : locN locs [] = 0 := by
  unfold locN
  rw [pos0_none (fun j hj => ?_)]
  have := name_ne (h _ (List.getElem_mem hj))
  simp [this]
theorem locN_at {locs : List L} {s : L} (h : s ∈ locs) : ∃ hk : locN locs s < locs.length, locs[locN locs s] = s := by
  obtain ⟨j, hj, rfl⟩ := List.mem_iff_getElem.1 h
  obtain ⟨h1, h2, _⟩ := pos0_at (p := fun x => decide (x = locs[j])) hj (by simp)
  exact ⟨h1, of_decide_eq_true h2⟩
theorem regNo_bd (r : L) : -1 ≤ WordM.regNo r ∧ WordM.regNo r ≤ 3 := by
  unfold WordM.regNo
  repeat' split
  all_goals omega
theorem regI_nil : regI [] = 0 := by decide
theorem isLab_iff (s : L) (x : Ln) : isLab s x = true ↔ x.op = 11 ∧ x.label = s := by unfold isLab hasS; simp
theorem toN_jump {ls : List Ln} (h : VM.ThOk ls) {i : Nat} (hi : i < ls.length) (hs : hasS ls[i] = true) (hj : VM.jmpB ls[i] = true) :
    cnt (ls.take i) + 1 ≤ toN ls ls[i].label ∧ toN ls ls[i].label ≤ cnt ls := by
  obtain ⟨h1, h2⟩ := VM.jump_once h hi hj
  have hp : 0 < lcnt ls ls[i].label := by omega
  unfold lcnt at hp
  obtain ⟨y, hy⟩ := List.exists_mem_of_length_pos hp
  obtain ⟨hy1, hy2⟩ := List.mem_filter.1 hy
  obtain ⟨j, hjl, rfl⟩ := List.mem_iff_getElem.1 hy1
  have hy3 : ls[j].op = 11 ∧ ls[j].label = ls[i].label := by simpa using hy2
  have hl : isLab ls[i].label ls[j] = true := by unfold isLab hasS; simp [hy3.1, hy3.2]
  obtain ⟨q1, q2, q3⟩ := pos0_at hjl hl
  have hq := (isLab_iff _ _).1 q2
  have hlt := h2 _ q1 hq.1 hq.2
  unfold toN
  have a := cnt_take ls i hi
  rw [hs] at a
  have b := cnt_mono ls (show i + 1 ≤ pos0 (isLab ls[i].label) ls by omega)
  have c := cnt_mono ls (show pos0 (isLab ls[i].label) ls ≤ ls.length by omega)
  rw [List.take_length] at c
  simp at a
  omega
theorem stp_right {ls : List Ln} {locs : List L} (h : VM.ThOk ls) (hn : ∀ s ∈ locs, WordM.nameB s = true) (hm : ∀ x ∈ ls, x.loc ≠ [] → x.loc ∈ locs) {i : Nat} (hi : i < ls.length) (hs : hasS ls[i] = true) :
    rightS locs.length (cnt ls) (cnt (ls.take i)) (stp ls locs ls[i]) = true := by
  have hr := (VM.lineC_zero (h i hi)).1
  have hml := hm ls[i] (List.getElem_mem hi)
  have ho : ¬ ls[i].op = 11 := by unfold hasS at hs; simpa using hs
  have hj := fun (c : VM.jmpB ls[i] = true) => toN_jump h hi hs c
  have t0 := toN_nil h
  have l0 := locN_nil hn
  have hl : ls[i].loc ≠ [] → (locN locs ls[i].loc : Int) ≤ (locs.length : Int) - 1 := fun e => by
    obtain ⟨a, _⟩ := locN_at (hml e)
    omega
  have hrb := regNo_bd ls[i].reg
  have hrg : 0 ≤ regI ls[i].reg ∧ regI ls[i].reg ≤ 3 := by unfold regI; omega
  have hnn : WordM.nameB ls[i].loc = true → ls[i].loc ≠ [] := name_ne
  unfold stp rightS
  simp only
  generalize cnt (ls.take i) = k at *
  generalize ls[i] = x at *
  unfold OpsM.rightL OpsM.right at hr
  have nat0 : ∀ n : Nat, (0 : Int) ≤ (n : Int) := fun n => by omega
  by_cases e1 : x.op = 1
  · simp [e1, OpsM.okNum, OpsM.emp] at hr
    rw [e1]; simp [hReg, hLoc, hNum, hTo, zOr, hrg.1, hrg.2, hr.2.1, hr.2.2, t0, l0]
  by_cases e2 : x.op = 2
  · simp [e2, OpsM.okLoc, OpsM.emp, OpsM.nil0] at hr
    have := hl (hnn hr.2.1)
    rw [e2]; simp [hReg, hLoc, hNum, hTo, zOr, hrg.1, hrg.2, hr.2.2.1, hr.2.2.2, t0, this]
  by_cases e3 : x.op = 3
  · simp [e3, OpsM.okLoc, OpsM.emp, OpsM.nil0] at hr
    have := hl (hnn hr.2.1)
    rw [e3]; simp [hReg, hLoc, hNum, hTo, zOr, hrg.1, hrg.2, hr.2.2.1, hr.2.2.2, t0, this]
  by_cases e4 : x.op = 4
  · simp [e4, OpsM.okPut, OpsM.emp, OpsM.nil0] at hr
    have := hl (hnn hr.1)
    rw [e4]; simp [hReg, hLoc, hNum, hTo, zOr, hr.2.1, hr.2.2, t0, this, regI_nil]
  by_cases e5 : x.op = 5
  · simp [e5, OpsM.okLoc, OpsM.emp, OpsM.nil0] at hr
    have := hl (hnn hr.2.1)
    rw [e5]; simp [hReg, hLoc, hNum, hTo, zOr, hrg.1, hrg.2, hr.2.2.1, hr.2.2.2, t0, this]
  by_cases e6 : x.op = 6
  · simp [e6, OpsM.okFen, OpsM.emp, OpsM.nil0] at hr
    rw [e6]; simp [hReg, hLoc, hNum, hTo, zOr, hr.1, hr.2.1, hr.2.2.1, hr.2.2.2, t0, l0, regI_nil]
  by_cases e7 : x.op = 7
  · simp [e7, OpsM.okNum, OpsM.emp] at hr
    rw [e7]; simp [hReg, hLoc, hNum, hTo, zOr, hrg.1, hrg.2, hr.2.1, hr.2.2, t0, l0]
  have h8 : x.op = 8 ∨ x.op = 9 ∨ x.op = 10 := by
    by_cases a : x.op = 8
    · exact .inl a
    by_cases b : x.op = 9
    · exact .inr (.inl b)
    by_cases c : x.op = 10
    · exact .inr (.inr c)
    simp [e1, e2, e3, e4, e5, e6, e7, a, b, c, ho] at hr
  have hjj := hj (by unfold VM.jmpB; simp; omega)
  have hk1 : ((k : Int) + 1 ≤ (toN ls x.label : Int)) := by omega
  have hk2 : ((toN ls x.label : Int) ≤ (cnt ls : Int)) := by omega
  rcases h8 with e | e | e
  · simp [e, OpsM.okLab, OpsM.emp, OpsM.nil0] at hr
    rw [e]; simp [hReg, hLoc, hNum, hTo, zOr, hr.2.1, hr.2.2.1, hr.2.2.2, l0, regI_nil, hk1, hjj.2]
  · simp [e, OpsM.okLab, OpsM.emp, OpsM.nil0] at hr
    rw [e]; simp [hReg, hLoc, hNum, hTo, zOr, hr.2.1, hr.2.2.1, hr.2.2.2, l0, regI_nil, hk1, hjj.2]
  · simp [e, OpsM.okLab, OpsM.emp, OpsM.nil0] at hr
    rw [e]; simp [hReg, hLoc, hNum, hTo, zOr, hr.2.1, hr.2.2.1, hr.2.2.2, l0, regI_nil, hk1, hjj.2]
theorem tn_mem : ∀ (ts : List (List Ln)) (ls : List Ln), ls ∈ ts → ∀ s ∈ VM.lnames ls, s ∈ VM.tnames ts
  | [], ls, h, _, _ => by cases h
  | a :: r, ls, h, s, hs => by
    unfold VM.tnames
    rcases List.mem_cons.1 h with rfl | h
    · exact List.mem_append_left _ hs
    · exact List.mem_append_right _ (tn_mem r ls h s hs)
theorem loc_mem {F : Fl} {ls : List Ln} (hls : ls ∈ F.ths) {x : Ln} (hx : x ∈ ls) (hne : x.loc ≠ []) : x.loc ∈ VM.locs F := by
  rw [locs_mem]
  refine ⟨hne, ?_⟩
  unfold VM.names
  refine List.mem_append_right _ (List.mem_append_left _ (tn_mem _ _ hls _ ?_))
  unfold VM.lnames
  exact List.mem_filter.2 ⟨List.mem_map.2 ⟨x, hx, rfl⟩, by simp [hne]⟩
theorem cell_mem {F : Fl} {c : L × Int} (hc : c ∈ F.init) (hne : c.1 ≠ []) : c.1 ∈ VM.locs F := by
  rw [locs_mem]
  exact ⟨hne, List.mem_append_left _ (List.mem_map.2 ⟨c, hc, rfl⟩)⟩
theorem code_right {F : Fl} (h : VM.right F = true) : rightP (codP F) = true := by
  have hl : VM.locsR F = VM.locs F := by unfold VM.locsR; rw [if_pos h]
  have h4 := locs_four h
  have h3 := VM.right_three h
  unfold codP
  rw [if_pos h]
  unfold rightP
  simp only [List.length_map, Bool.and_eq_true, decide_eq_true_eq, List.all_eq_true]
  refine ⟨⟨by rw [hl]; exact h4, h3⟩, fun ss hss => ?_⟩
  obtain ⟨ls, hls, rfl⟩ := List.mem_map.1 hss
  obtain ⟨t, ht, rfl⟩ := List.mem_iff_getElem.1 hls
  have hok := VM.right_ths h ht
  have hn : ∀ s ∈ VM.locsR F, WordM.nameB s = true := fun s hs => locs_names h (by rw [← hl]; exact hs)
  have hm : ∀ x ∈ F.ths[t], x.loc ≠ [] → x.loc ∈ VM.locsR F := fun x hx hne => by rw [hl]; exact loc_mem hls hx hne
  refine rightT_all (by rw [thrS_len']; have := cnt_many hok; omega) (fun k hk => ?_)
  obtain ⟨i, hi, h1, h2, e⟩ := thrS_at (VM.locsR F) F.ths[t] k hk
  rw [e, thrS_len', ← h2]
  exact stp_right hok hn hm hi h1
end Go.Proofs.YtaelfjphgdlbcaaGreatDoor.CodM
