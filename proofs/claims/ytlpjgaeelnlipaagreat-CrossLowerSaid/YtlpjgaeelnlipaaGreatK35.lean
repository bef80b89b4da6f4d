/-
  THE MATHEMATICS OF CrossStrict, CrossNone, CrossWithin.
  LAYER 14, as mathematics, 5: a code with fences is right; where it is over.
  THE MATHEMATICS OF CrossLower, CrossRaise: what the program's runs tell, and the document's.
-/
import Derived.Test.YtlpjgaeelnlipaaGreatK33
import Derived.Test.YtlpjgaeelnlipaaGreatK22
set_option linter.unusedVariables false
set_option linter.unusedSimpArgs false
namespace Go.Proofs.YtlpjgaeelnlipaaGreat
open CodM (St Pg rightP)
open BfM (Wr plc)
open ScM
open SlM
open CrM

end Go.Proofs.YtlpjgaeelnlipaaGreat
namespace Go.Proofs.YtlpjgaeelnlipaaGreat
namespace CrM
open CodM (St Pg rightP hReg hLoc)
open BfM (Wr plc)
open ScM
open SlM

/-- Each place of a row with fences is a fence's or a step's. -/
theorem place_of (c : Nat → Bool) : ∀ (n p : Nat), p < bg c n → ∃ i, i < n ∧ ((c i = true ∧ p = bg c i) ∨ p + 1 = bg c (i + 1))
  | 0, p, h => by unfold bg at h; simp [cntC] at h
  | n + 1, p, h => by
    have h2 := bg_next c n
    by_cases h3 : p < bg c n
    · obtain ⟨i, h4, h5⟩ := place_of c n p h3
      exact ⟨i, by omega, h5⟩
    · by_cases h4 : p + 1 = bg c (n + 1)
      · exact ⟨n, by omega, .inr h4⟩
      · cases hc : c n with
        | true => rw [hc] at h2; simp at h2; exact ⟨n, by omega, .inl ⟨hc, by omega⟩⟩
        | false => rw [hc] at h2; simp at h2; omega
theorem right_mv {c : Nat → Bool} {m n i p : Nat} {y : St} (h : CodM.rightS m n i y = true) (hi : i < n) (hp : p + 1 = bg c (i + 1)) : CodM.rightS m (bg c n) p (mv c n y) = true := by
  obtain ⟨e1, e2, e3, e4⟩ := mv_op c n y
  unfold CodM.rightS at h ⊢
  rw [e1, e2, e3, e4]
  simp only [Bool.and_eq_true, decide_eq_true_eq] at h ⊢
  obtain ⟨⟨h1, h2⟩, h3, h4, h5, h6⟩ := h
  refine ⟨⟨h1, h2⟩, h3, h4, h5, ?_⟩
  unfold CodM.zOr CodM.hTo at h6 ⊢
  by_cases h8 : 8 ≤ y.op
  · rw [if_pos (decide_eq_true h8)] at h6 ⊢
    simp only [Bool.and_eq_true, decide_eq_true_eq] at h6 ⊢
    have hj : jmpS y = true := by unfold jmpS; simp; omega
    unfold mv
    rw [if_pos hj]
    dsimp only
    unfold land
    rw [Int.min_eq_left h6.2]
    have m1 := bg_mono c (show i + 1 ≤ y.to.toNat by omega)
    have m2 := bg_mono c (show y.to.toNat ≤ n by omega)
    have e : y.to + (cntC c y.to.toNat : Int) = ((bg c y.to.toNat : Nat) : Int) := by unfold bg; omega
    rw [e]
    omega
  · rw [if_neg (by simpa using h8)] at h6 ⊢
    simp only [decide_eq_true_eq] at h6 ⊢
    have hj : jmpS y = false := by unfold jmpS; simp; omega
    unfold mv
    rw [if_neg (by rw [hj]; decide)]
    exact h6
/-- Fences put in a right code whose threads are not too long: right. -/
theorem right_ins {P : Pg} (hr : rightP P = true) (hf : ∀ ss ∈ P.ths, ss.length ≤ 40) (g : List Int) : rightP (insP P g) = true := by
  obtain ⟨h1, h2, h3, h4⟩ := right_ths hr
  have hr2 := hr
  unfold rightP at hr2
  simp only [Bool.and_eq_true, List.all_eq_true] at hr2
  unfold rightP
  simp only [Bool.and_eq_true, decide_eq_true_eq, List.all_eq_true]
  refine ⟨⟨h1, by rw [insP_len]; exact h2, by rw [insP_len]; exact h3⟩, fun ss hs => ?_⟩
  obtain ⟨t, ht, rfl⟩ := List.getElem_of_mem hs
  have ht2 : t < P.ths.length := by rw [insP_len] at ht; exact ht
  have hl : ((insP P g).ths[t]).length = bg (ch anyS P.ths g t) P.ths[t].length := by rw [insP_row g ht2, row_len]
  have h40 := hf _ (List.getElem_mem ht2)
  have hb : bg (ch anyS P.ths g t) P.ths[t].length ≤ 80 := by unfold bg; have := cntC_le (ch anyS P.ths g t) P.ths[t].length; omega
  refine CodM.rightT_all (by rw [hl]; exact hb) (fun p hp => ?_)
  have hp2 := hp
  rw [hl] at hp2
  obtain ⟨i, hi, h⟩ := place_of _ _ _ hp2
  rw [hl]
  rcases h with ⟨hc, e⟩ | e
  · have e2 : ((insP P g).ths[t])[p]? = some fenS := by rw [insP_row g ht2, e]; exact row_fence hi hc
    obtain ⟨_, e3⟩ := List.getElem?_eq_some_iff.1 e2
    rw [e3]
    simp [CodM.rightS, CodM.zOr, hReg, hLoc, CodM.hNum, CodM.hTo, fenS]
  · have e2 : ((insP P g).ths[t])[p]? = some (mv (ch anyS P.ths g t) P.ths[t].length P.ths[t][i]) := by
      rw [insP_row g ht2, List.getElem?_map, show p = bg (ch anyS P.ths g t) (i + 1) - 1 by omega, wthN_own _ fenS P.ths[t] hi (Nat.le_refl _)]
      rfl
    obtain ⟨_, e3⟩ := List.getElem?_eq_some_iff.1 e2
    rw [e3]
    exact right_mv ((CodM.rightT_at (hr2.2 _ (List.getElem_mem ht2))).2 i hi) hi e
/-- It is over with them just if it is without. -/
theorem lo_over {P : Pg} {g : List Int} {s s' : Sta} (hl : LoSt P g s s') : overB (insP P g) s = overB P s' := by
  unfold overB
  rw [hl.len, hl.len', Bool.eq_iff_iff, List.all_eq_true, List.all_eq_true]
  have key : ∀ t, t < P.ths.length → ((decide ((s.ths.getD t begTh).at' = (((insP P g).ths.getD t []).length : Int)) && (s.ths.getD t begTh).buf.isEmpty) = (decide ((s'.ths.getD t begTh).at' = ((P.ths.getD t []).length : Int)) && (s'.ths.getD t begTh).buf.isEmpty)) := by
    intro t ht
    have h1 : t < s.ths.length := by have := hl.len; omega
    have h1' : t < s'.ths.length := by have := hl.len'; omega
    obtain ⟨i, a, hi, ha, hat, er, ee, eb⟩ := hl.th t h1 h1' ht
    rw [SlM.getD_at h1, SlM.getD_at h1', SlM.getD_at ht, SlM.getD_at (by rw [insP_len]; exact ht), insP_row g ht, eb, ha, hi]
    have := row_over hat
    congr 1
    rw [decide_eq_decide]
    omega
  constructor
  · intro h t ht
    rw [← key t (List.mem_range.1 ht)]
    exact h t ht
  · intro h t ht
    rw [key t (List.mem_range.1 ht)]
    exact h t ht
end CrM
end Go.Proofs.YtlpjgaeelnlipaaGreat
namespace Go.Proofs.YtlpjgaeelnlipaaGreat
open CodM (St Pg rightP)
open BfM (Wr plc)
open ScM
open SlM
open CrM

/-- How many of the first n slots are in the row. -/
def hcn (g : List Int) : Nat → Nat
  | 0 => 0
  | n + 1 => hcn g n + if has g (n : Nat) then 1 else 0
theorem hcn_add {P : Pg} {g : List Int} {t : Nat} (ht : t < P.ths.length) : ∀ i, i ≤ P.ths[t].length → hcn g (ahd anyS P.ths t + i) = hcn g (ahd anyS P.ths t) + cntC (ch anyS P.ths g t) i
  | 0, _ => rfl
  | i + 1, h => by
    rw [← Nat.add_assoc]
    show hcn g (ahd anyS P.ths t + i) + (if has g ((ahd anyS P.ths t + i : Nat) : Int) then 1 else 0) = _
    rw [hcn_add ht i (by omega), cntC, has_ch ht (by omega)]
    omega
theorem ahd_ins {P : Pg} {g : List Int} : ∀ t, t ≤ P.ths.length → ahd anyS (insP P g).ths t = ahd anyS P.ths t + hcn g (ahd anyS P.ths t)
  | 0, _ => rfl
  | t + 1, h => by
    rw [ahd_any (insP P g).ths (by rw [insP_len]; omega), ahd_any P.ths (by omega), ahd_ins t (by omega), insP_row g (by omega), row_len, hcn_add (by omega) _ (Nat.le_refl _)]
    unfold bg
    omega
theorem key_of {g : List Int} {M : Nat} {x : Int} (h : keyB g M x = true) : has g x = true ∧ 0 ≤ x ∧ x < M := by
  unfold keyB at h
  simpa only [Bool.and_eq_true, decide_eq_true_eq] using h
theorem key_in {g : List Int} {M n : Nat} (h : n < M) : keyB g M (n : Int) = has g (n : Int) := by
  unfold keyB
  rw [decide_eq_true (show (0 : Int) ≤ (n : Int) by omega), decide_eq_true (show (n : Int) < (M : Int) by omega)]
  simp
theorem hcn_ks {g ks : List Int} {M : Nat} (hks : RisF (keyB g M) ks) : ∀ n, n ≤ M → hcn g n ≤ ks.length ∧ ∀ j (hj : j < ks.length), ks[j] < (n : Int) ↔ j < hcn g n
  | 0, _ => ⟨Nat.zero_le _, fun j hj => by
      have := key_of ((hks.2 ks[j]).1 (List.getElem_mem hj))
      show ks[j] < ((0 : Nat) : Int) ↔ j < 0
      omega⟩
  | n + 1, h => by
    obtain ⟨h1, h2⟩ := hcn_ks hks n (by omega)
    have up := List.pairwise_iff_getElem.1 hks.1
    cases hh : has g (n : Nat) with
    | true =>
      have hm : ((n : Nat) : Int) ∈ ks := (hks.2 _).2 (by rw [key_in (by omega)]; exact hh)
      obtain ⟨q, hq, e⟩ := List.mem_iff_getElem.1 hm
      have q1 : ¬ q < hcn g n := fun c => by have := (h2 q hq).2 c; omega
      have q2 : q = hcn g n := by
        by_cases c : hcn g n < q
        · have a := up (hcn g n) q (by omega) hq c
          have b := (h2 (hcn g n) (by omega)).1 (by omega)
          omega
        · omega
      have e3 : hcn g (n + 1) = hcn g n + 1 := by rw [hcn, hh]; rfl
      rw [e3]
      refine ⟨by omega, fun j hj => ?_⟩
      have h3 := h2 j hj
      rcases Nat.lt_trichotomy j q with c | c | c
      · have := up j q hj hq c; omega
      · subst c; omega
      · have := up q j hq hj c; omega
    | false =>
      have e3 : hcn g (n + 1) = hcn g n := by rw [hcn, hh]; rfl
      rw [e3]
      refine ⟨h1, fun j hj => ?_⟩
      have h3 := h2 j hj
      have h4 : ks[j] ≠ (n : Int) := fun e => by
        have := (key_of ((hks.2 ks[j]).1 (List.getElem_mem hj))).1
        rw [e, hh] at this
        cases this
      omega
theorem hcn_at {g ks : List Int} {M j x : Nat} (hks : RisF (keyB g M) ks) (hj : j < ks.length) (hx : ks[j] = (x : Int)) (hM : x ≤ M) : hcn g x = j := by
  obtain ⟨h1, h2⟩ := hcn_ks hks x hM
  have up := List.pairwise_iff_getElem.1 hks.1
  have a := h2 j hj
  rcases Nat.lt_or_ge (hcn g x) j with c | c
  · have := up (hcn g x) j (by omega) hj c
    have := (h2 (hcn g x) (by omega)).1 (by omega)
    omega
  · omega
theorem fen_slot {P : Pg} {g : List Int} {t i : Nat} (ht : t < P.ths.length) (hi : i < P.ths[t].length) : ahd anyS (insP P g).ths t + bg (ch anyS P.ths g t) i = (ahd anyS P.ths t + i) + hcn g (ahd anyS P.ths t + i) := by
  rw [ahd_ins t (by omega), hcn_add ht i (by omega)]
  unfold bg
  omega
theorem slot_lt {P : Pg} {t i : Nat} (ht : t < P.ths.length) (hi : i < P.ths[t].length) : ahd anyS P.ths t + i < many anyS P.ths := by
  have := sl_lt anyS P.ths ht hi rfl
  rw [sl_any P.ths ht (by omega)] at this
  exact this
/-- The program's way to tell a fence that was put in, and the document's. -/
theorem lda_fen {P : Pg} {g ks : List Int} (hks : RisF (keyB g (many anyS P.ths)) ks) {t a : Nat} (ht : t < P.ths.length) (ha : a < ((insP P g).ths[t]'(by rw [insP_len]; exact ht)).length) :
    ldaK ks ks.length ((ahd anyS (insP P g).ths t + a : Nat) : Int) = fenB P g t (a : Int) := by
  have ht2 : t < (insP P g).ths.length := by rw [insP_len]; exact ht
  rw [Bool.eq_iff_iff]
  unfold ldaK fenB
  rw [List.any_eq_true, List.any_eq_true]
  constructor
  · rintro ⟨j, h1, h2⟩
    have hj := List.mem_range.1 h1
    have h2 := of_decide_eq_true h2
    rw [SlM.getD_at hj] at h2
    obtain ⟨h4, h5, h6⟩ := key_of ((hks.2 ks[j]).1 (List.getElem_mem hj))
    obtain ⟨x, hx⟩ : ∃ x : Nat, ks[j] = (x : Int) := ⟨ks[j].toNat, by omega⟩
    have h7 := hcn_at hks hj hx (by omega)
    obtain ⟨u, i, hu, hi, e⟩ := sl_sur P.ths x P.ths.length (Nat.le_refl _) (by unfold many at h6; omega)
    have k := fen_slot (g := g) hu hi
    rw [e, h7] at k
    have hu2 : u < (insP P g).ths.length := by rw [insP_len]; exact hu
    have hbl : bg (ch anyS P.ths g u) i < (insP P g).ths[u].length := by rw [insP_row g hu, row_len]; exact (bg_lt _ hi).1
    obtain ⟨e1, e2⟩ := sl_inj (insP P g).ths ht2 ha hu2 hbl (by omega)
    subst e1
    refine ⟨i, List.mem_range.2 (by rw [SlM.getD_at hu]; exact hi), ?_⟩
    rw [has_ch hu hi, e, ← hx, h4, e2]
    simp
  · rintro ⟨i, h1, h2⟩
    have hi := List.mem_range.1 h1
    rw [SlM.getD_at ht] at hi
    simp only [Bool.and_eq_true, decide_eq_true_eq] at h2
    obtain ⟨h2, h3⟩ := h2
    rw [has_ch ht hi] at h2
    have hlt := slot_lt ht hi
    have hm : ((ahd anyS P.ths t + i : Nat) : Int) ∈ ks := (hks.2 _).2 (by rw [key_in hlt]; exact h2)
    obtain ⟨j, hj, e⟩ := List.mem_iff_getElem.1 hm
    have h7 := hcn_at hks hj e (by omega)
    have k := fen_slot (g := g) ht hi
    refine ⟨j, List.mem_range.2 hj, decide_eq_true ?_⟩
    rw [SlM.getD_at hj, e]
    omega
/-- The slot of a step that can be done. -/
theorem way_num {P : Pg} {s s1 : Sta} {j : Nat} (h1 : j < s.ths.length) (h2 : j < P.ths.length) (h0 : 0 ≤ s.ths[j].at') (h : tst P s (j : Int) false = some s1) :
    s.ths[j].at'.toNat < P.ths[j].length ∧ (wayS P s (j : Int) false).1 = ((ahd anyS P.ths j + s.ths[j].at'.toNat : Nat) : Int) := by
  rw [tst_row h1 h2] at h
  cases e2 : P.ths[j][s.ths[j].at'.toNat]? with
  | none => rw [e2] at h; cases h
  | some x =>
    obtain ⟨h3, h4⟩ := List.getElem?_eq_some_iff.1 e2
    refine ⟨h3, ?_⟩
    unfold wayS
    rw [if_neg (by decide), Int.toNat_natCast, SlM.getD_at h1]
    have := numI_hit (ths := P.ths) h2 h3
    rw [show ((s.ths[j].at'.toNat : Nat) : Int) = s.ths[j].at' from by omega] at this
    exact this
theorem lda_no {g ks : List Int} {M : Nat} (hks : RisF (keyB g M) ks) : ldaK ks ks.length (-1) = false := by
  unfold ldaK
  rw [List.any_eq_false]
  intro j hj
  have hj := List.mem_range.1 hj
  rw [SlM.getD_at hj]
  have := key_of ((hks.2 ks[j]).1 (List.getElem_mem hj))
  simp only [decide_eq_true_eq]
  omega
theorem lo_flag {P : Pg} {g ks : List Int} (hks : RisF (keyB g (many anyS P.ths)) ks) {s s' s1 : Sta} {t : Int} {d : Bool} (hl : LoSt P g s s') (h : tst (insP P g) s t d = some s1) :
    ldaK ks ks.length (wayS (insP P g) s t d).1 = (!d && fenB P g t.toNat (s.ths.getD t.toNat begTh).at') := by
  cases d with
  | true => exact lda_no hks
  | false =>
    obtain ⟨k, rfl, h1⟩ := tst_in h
    have hk : k < P.ths.length := by have := hl.len; omega
    obtain ⟨i, a, hi, ha, hat, -⟩ := hl.th k h1 (by have := hl.len'; omega) hk
    obtain ⟨h3, h4⟩ := way_num h1 (by rw [insP_len]; exact hk) (by omega) h
    rw [h4, Int.toNat_natCast, SlM.getD_at h1]
    rw [lda_fen hks hk h3, show ((s.ths[k].at'.toNat : Nat) : Int) = s.ths[k].at' by omega]
    rfl
/-- What Lower tells, along the run with the fences. -/
theorem low_wys {P : Pg} (hr : rightP P = true) {g ks : List Int} (hks : RisF (keyB g (many anyS P.ths)) ks) : ∀ (l : List (Int × Bool)) {s s' : Sta}, OkSt P s' → LoSt P g s s' → (runS (insP P g) true s l).2.2 = true →
    lowS P g s l = some ((wysS (insP P g) s l).flatMap (loF (ldaK ks ks.length)))
  | [], s, s', ho, hl, h => rfl
  | k :: l, s, s', ho, hl, h => by
    cases e : tst (insP P g) s k.1 k.2 with
    | none => rw [runS_none (by rw [rst_weak]; exact e)] at h; cases h
    | some s1 =>
      rw [runS_some (by rw [rst_weak]; exact e)] at h
      dsimp only at h
      have hf := lo_flag hks hl e
      obtain ⟨s2, o2, l2⟩ : ∃ s1', OkSt P s1' ∧ LoSt P g s1 s1' := by
        rcases lo_pick hr ho hl e with ⟨f, s1', e1, e2⟩ | ⟨f, e2⟩
        · exact ⟨s1', tst_ok hr ho e1, e2⟩
        · exact ⟨s', ho, e2⟩
      have e3 : loF (ldaK ks ks.length) (k, wayS (insP P g) s k.1 k.2) = if (k.2 || !fenB P g k.1.toNat (s.ths.getD k.1.toNat begTh).at') = true then [k] else [] := by
        unfold loF
        dsimp only
        rw [hf]
        cases k.2 <;> cases fenB P g k.1.toNat (s.ths.getD k.1.toNat begTh).at' <;> rfl
      unfold wysS
      rw [show rst (insP P g) s k.1 k.2 true = some s1 from e]
      dsimp only
      rw [List.flatMap_cons, e3, lowS, e]
      dsimp only
      rw [low_wys hr hks l o2 l2 h]
      cases (k.2 || !fenB P g k.1.toNat (s.ths.getD k.1.toNat begTh).at') <;> rfl
/-- What is lowered crosses none of the fences' slots. -/
theorem low_unc {P : Pg} (hr : rightP P = true) {g : List Int} : ∀ (l : List (Int × Bool)) {s s' : Sta} {m : List (Int × Bool)}, OkSt P s' → LoSt P g s s' → lowS P g s l = some m → ∀ y ∈ wysS P s' m, y.2.2 = true → has g y.2.1 = false
  | [], s, s', m, ho, hl, h, y, hy, hc => by
    have : m = [] := (Option.some.inj h).symm
    subst this
    cases hy
  | (t, d) :: l, s, s', m, ho, hl, h, y, hy, hc => by
    rw [lowS] at h
    dsimp only at h
    cases e : tst (insP P g) s t d with
    | none => rw [e] at h; cases h
    | some s1 =>
      rw [e] at h
      dsimp only at h
      obtain ⟨m', hm, rfl⟩ := Option.map_eq_some_iff.1 h
      rcases lo_pick hr ho hl e with ⟨f, s1', e1, e2⟩ | ⟨f, e2⟩
      · rw [f] at hy
        simp only [if_true] at hy
        unfold wysS at hy
        dsimp only at hy
        rw [show rst P s' t d true = some s1' from e1] at hy
        rcases List.mem_cons.1 hy with rfl | hy
        · dsimp only at hc ⊢
          cases d with
          | true => cases hc
          | false =>
            obtain ⟨k, rfl, h1⟩ := tst_in e
            have hk : k < P.ths.length := by have := hl.len; omega
            have h1' : k < s'.ths.length := by have := hl.len'; omega
            obtain ⟨i, a, hi, ha, hat, er, ee, eb⟩ := hl.th k h1 h1' hk
            obtain ⟨h3, h4⟩ := way_num h1' hk (by omega) e1
            rw [h4]
            have hii : s'.ths[k].at'.toNat = i := by omega
            rw [hii] at h3 ⊢
            cases hh : has g ((ahd anyS P.ths k + i : Nat) : Int) with
            | false => rfl
            | true =>
              exfalso
              have hch := has_ch (g := g) hk h3
              rw [hh] at hch
              have hb : s'.ths[k].buf = [] := by
                rcases hat.2 with q | ⟨-, -, -, q⟩
                · exfalso
                  have hF : atF P g s s' k := ⟨i, by rw [SlM.getD_at h1']; exact hi, by rw [SlM.getD_at hk]; exact h3, hch, by rw [SlM.getD_at h1, ha, q]⟩
                  have := (atF_iff hl hk).1 hF
                  rw [Int.toNat_natCast, this] at f
                  cases f
                · exact q
              unfold wayS noBuf at hc
              rw [if_neg (by decide), Int.toNat_natCast, SlM.getD_at h1', hb] at hc
              cases hc
        · exact low_unc hr l (tst_ok hr ho e1) e2 hm y hy hc
      · rw [f] at hy
        simp only [Bool.false_eq_true, if_false] at hy
        exact low_unc hr l ho e2 hm y hy hc
/-- What Lower tells is a run without the fences; it leads to the same. -/
theorem lower_run {P : Pg} (hr : rightP P = true) {g ks : List Int} (hks : RisF (keyB g (many anyS P.ths)) ks) {l : List (Int × Bool)} (h : (runS (insP P g) true (beg (insP P g)) l).2.2 = true) :
    ∃ s1', runS P true (beg P) ((wysS (insP P g) (beg (insP P g)) l).flatMap (loF (ldaK ks ks.length))) = (s1', ((wysS (insP P g) (beg (insP P g)) l).flatMap (loF (ldaK ks ks.length))).length, true) ∧ LoSt P g (runS (insP P g) true (beg (insP P g)) l).1 s1' ∧
      ∀ y ∈ wysS P (beg P) ((wysS (insP P g) (beg (insP P g)) l).flatMap (loF (ldaK ks ks.length))), y.2.2 = true → has g y.2.1 = false := by
  have h1 := low_wys hr hks l (beg_ok P) (lo_beg P g) h
  rcases low_run hr l (beg_ok P) (lo_beg P g) with ⟨q, -⟩ | ⟨-, m, s1', e1, e2, e3⟩
  · rw [q] at h; cases h
  · rw [h1] at e1
    have := Option.some.inj e1
    subst this
    exact ⟨s1', e2, e3, low_unc hr l (beg_ok P) (lo_beg P g) h1⟩
end Go.Proofs.YtlpjgaeelnlipaaGreat
