/-
  ValidThreads, as a walk over any world that holds the registers and the type of errors: it returns true.
-/
import Derived.Test.YtclhgmopphhalaaGreatDoorVHd
import Derived.Test.YtclhgmopphhalaaGreatDoorGreat
namespace Go.Proofs.YtclhgmopphhalaaGreatDoor
open Go.RowKit
set_option linter.unusedVariables false
set_option linter.unusedSimpArgs false
open WordM (L)
open VM

/-- A thread alone. -/
def oneF (ls : List OpsM.Ln) : Fl := ⟨[97], [], [ls], [], false⟩
theorem one_frame (ls : List OpsM.Ln) : frameC (oneF ls) = 0 := by
  have hn : ¬ WordM.nameB (oneF ls).name = false := show ¬ WordM.nameB [97] = false by decide
  unfold frameC
  rw [if_neg hn]
  exact cellsC_end (fun j h => absurd h (Nat.not_lt_zero j))
theorem one_atom (ls : List OpsM.Ln) : atomT (oneF ls).ths.length (oneF ls).cond = (0, 0, 0) := atomT_end (fun j h => absurd h (Nat.not_lt_zero j))
/-- Alone a right thread is told at no line. -/
theorem one_right {ls : List OpsM.Ln} (h : thC ls = none) : chk (oneF ls) = (-1, -1, 5) ∨ chk (oneF ls) = (0, 0, 0) := by
  have hl : lineT (oneF ls).ths = (0, 0, 0) := lineT_end (fun j hj => by
    have : j = 0 := by simpa [oneF] using hj
    subst this; exact h)
  unfold chk
  rw [if_neg (by rw [one_frame]; simp), hl, if_neg (by simp), one_atom, if_neg (by simp)]
  unfold locC
  by_cases h4 : 4 < (locs (oneF ls)).length
  · rw [if_pos h4]; exact Or.inl rfl
  · rw [if_neg h4]; exact Or.inr rfl
theorem one_wrong {ls : List OpsM.Ln} {k : Nat} (h : thC ls = some k) : chk (oneF ls) = (0, (k : Int), lnC ls k) ∧ lnC ls k ≠ 0 := by
  obtain ⟨hk, hne, hall⟩ := firstAt_some h
  have hl := lineT_hit (ts := (oneF ls).ths) (i := 0) (k := k) (Nat.zero_lt_one) (fun j hj => absurd hj (Nat.not_lt_zero j)) hk hall hne
  unfold chk
  rw [if_neg (by rw [one_frame]; simp), hl]
  exact ⟨if_pos hne, hne⟩
/-- The first thread that is wrong alone is told of the whole, if its head is right. -/
theorem chk_thread {F : Fl} {t k : Nat} (ht : t < F.ths.length) (hall : ∀ j, j < t → thC (F.ths.getD j []) = none) (h : thC (F.ths.getD t []) = some k) :
    (frameC F ≠ 0 ∧ chk F = (-1, -1, frameC F)) ∨ chk F = ((t : Int), (k : Int), lnC (F.ths.getD t []) k) := by
  obtain ⟨hk, hne, hal⟩ := firstAt_some h
  have hl := lineT_hit ht hall hk hal hne
  unfold chk
  by_cases hf : frameC F ≠ 0
  · exact Or.inl ⟨hf, if_pos hf⟩
  · rw [if_neg hf, hl]
    exact Or.inr (if_pos hne)
theorem chk_none {F : Fl} (hall : ∀ j, j < F.ths.length → thC (F.ths.getD j []) = none) : (chk F).2.2 = 0 ∨ (chk F).1 = -1 ∨ (chk F).1 = (F.ths.length : Int) := by
  have hl := lineT_end hall
  unfold chk
  by_cases hf : frameC F ≠ 0
  · rw [if_pos hf]; exact Or.inr (Or.inl rfl)
  rw [if_neg hf, hl, if_neg (by simp)]
  by_cases ha : (atomT F.ths.length F.cond).2.2 ≠ 0
  · rw [if_pos ha]
    right; right
    unfold atomT at ha ⊢
    cases e : firstAt (atC F.ths.length F.cond) F.cond.length with
    | none => rw [e] at ha; exact absurd rfl ha
    | some j => rfl
  rw [if_neg ha]
  by_cases h4 : locC F ≠ 0
  · rw [if_pos h4]; exact Or.inr (Or.inl rfl)
  · rw [if_neg h4]; exact Or.inl rfl
theorem one_ok {F : Fl} (ok : FlOk F) {ls : List OpsM.Ln} (h : ls ∈ F.ths) : FlOk (oneF ls) := by
  refine ⟨(show ([97] : L).length ≤ 100000 by decide), fun c hc => (by cases hc), fun l hl => ?_, fun a ha => (by cases ha), by simp [oneF]⟩
  have : l = ls := by simpa [oneF] using hl
  subst this; exact ok.ths _ h
def ThRel (F : Fl) (vi vt vc : Value) (w : World) (i : Value) (wr : World) : Prop :=
  ∃ k : Nat, k ≤ F.ths.length ∧ i = .int .i64 k ∧ (∀ j, j < k → thC (F.ths.getD j []) = none) ∧ Below w.heap.size w wr ∧ FlBox wr w.heap.size ⟨F.name.toArray⟩ vi vt vc F.all
set_option maxHeartbeats 8000000 in
set_option maxRecDepth 100000 in
theorem vthreads_any {v : Value} {F : Fl} (w : World) (hr : Regs w) (hg : EA.ErrG w) (hv : FlV w.heap.size w v F) (hi : IntsOk F) :
    Calls Tryz.prog 6 #[v] w fun e w' => e = .returned (.bool true) ∧ Below w.heap.size w w' := by
  obtain ⟨vi, vt, vc, rfl, hm⟩ := hv
  have HM := Lib.hid hm
  have HR := Lib.hid hr
  have HG := Lib.hid hg
  have HI := Lib.hid hi
  have HV : ∀ W, Below w.heap.size w W → FlV W.heap.size W (flv ⟨F.name.toArray⟩ vi vt vc F.all) F := fun W hW => ⟨vi, vt, vc, rfl, (HM.out.below hW).more hW.size⟩
  have HHd := Lib.hid (fun W (hW : Below w.heap.size w W) => vhead_any W (HR.out.below hW) (HG.out.below hW))
  have HGr := Lib.hid (fun W (hW : Below w.heap.size w W) => vgreat_any W (HV W hW) (Nat.le_refl _))
  have HVC := Lib.hid (fun (ok : FlOk F) W (hW : Below w.heap.size w W) => check_any W (HR.out.below hW) (HG.out.below hW) (HV W hW) (Nat.le_refl _) ok)
  have HV1 := Lib.hid (fun (W : World) (u : Value) (G : Fl) (hW : Below w.heap.size w W) (hv : FlV W.heap.size W u G) (ok : FlOk G) => check_any W (HR.out.below hW) (HG.out.below hW) hv (Nat.le_refl _) ok)
  obtain ⟨⟨A0, c0, rfl, _⟩, ⟨A2, c2, rfl, hb1, hb2, hb3⟩, ⟨A1, c1, rfl, _⟩⟩ := hm
  unfold maxLen at hb2
  unfold flv at *
  clear HV hr hg hi HM
  have hB0 := below_al (Below.refl w.heap.size w) (.cells #[.string ⟨F.name.toArray⟩, .slice A0 F.init.length c0, .slice A2 F.ths.length c2, .bool F.all, .slice A1 F.cond.length c1] 26)
  have hbx := FlBox.at (w := w) rfl ⟨F.name.toArray⟩ (.slice A0 F.init.length c0) (.slice A2 F.ths.length c2) (.slice A1 F.cond.length c1) F.all 26
  go_enter Tryz.func6, Tryz.ntmps6
  go_wp2_with fail
  refine (HHd.out _ hB0).mono ?_
  rintro e w1 ⟨rfl, hbb⟩
  have hB1 := chain hB0 hbb
  have hbx1 := Lib.hid (hbx.below hbb)
  obtain ⟨t0, t1, t2, t3, t4⟩ := hbx1.out
  clear hB0 hbx hbb
  go_wp2_with fail
  refine (HGr.out _ hB1).mono ?_
  rintro e w2 ⟨b, rfl, hsm, hbb⟩
  have hB2 := chain hB1 hbb
  have hbx2 := Lib.hid (hbx1.out.below hbb)
  clear t0 t1 t2 t3 t4
  obtain ⟨t0, t1, t2, t3, t4⟩ := hbx2.out
  clear hB1 hbx1 hbb
  cases b
  · have ok := (hsm rfl).ok HI.out
    have HOK := Lib.hid ok
    replace HVC := Lib.hid (HVC.out ok)
    clear hsm ok HI HHd HGr
    by_cases hn1 : F.ths.length < 1
    · have q : decide ((F.ths.length : Int) < 1) = true := decide_eq_true (by omega)
      go_wp2
      go_ret
      exact ⟨rfl, hB2⟩
    have q1 : decide ((F.ths.length : Int) < 1) = false := decide_eq_false (by omega)
    by_cases hn3 : 3 < F.ths.length
    · have q : decide ((3 : Int) < (F.ths.length : Int)) = true := decide_eq_true (by omega)
      go_wp2
      go_ret
      exact ⟨rfl, hB2⟩
    have q3 : decide ((3 : Int) < (F.ths.length : Int)) = false := decide_eq_false (by omega)
    have HCT := Lib.hid (fun (t k : Nat) (ht : t < F.ths.length) (h1 : ∀ j, j < t → thC (F.ths.getD j []) = none) (h2 : thC (F.ths.getD t []) = some k) => chk_thread (F := F) ht h1 h2)
    have HCN := Lib.hid (fun (h : ∀ j, j < F.ths.length → thC (F.ths.getD j []) = none) => chk_none (F := F) h)
    generalize chk F = ck at *
    obtain ⟨ca, cb, cc⟩ := ck
    go_wp2_with fail
    refine (HVC.out _ hB2).mono ?_
    rintro e w3 ⟨rfl, hbb⟩
    have hB3 := chain hB2 hbb
    have hbx3 := Lib.hid (hbx2.out.below hbb)
    clear t0 t1 t2 t3 t4 hB2 hbx2 hbb HVC q1 q3 hn1 hn3
    go_wp2
    go_loopw [7] (fun i wr => ThRel F (.slice A0 F.init.length c0) (.slice A2 F.ths.length c2) (.slice A1 F.cond.length c1) w i wr) (fun i _ => F.ths.length - (intOf i).toNat)
    case atStart => exact ⟨0, Nat.zero_le _, rfl, fun j h => absurd h (Nat.not_lt_zero j), hB3, hbx3.out⟩
    case round =>
      clear hB3 hbx3
      obtain ⟨k, hk, rfl, hall, hB, hbx⟩ := hrel
      have HA := Lib.hid hall
      obtain ⟨t0, t1, t2, t3, t4⟩ := id hbx
      have HBX := Lib.hid hbx
      clear hall hbx
      by_cases hlt : k < F.ths.length
      · obtain ⟨b1, f1, rfl, hb1, hcl⟩ := hb3 (by omega)
        obtain ⟨vl, d0w, hLn⟩ := hcl k hlt
        have d0 := (hB.cell (p := ⟨b1, f1 + k, none⟩) hb1).trans d0w
        have HD := Lib.hid (getD_at F.ths k [] hlt)
        have hok1 := one_ok HOK.out (List.getElem_mem hlt)
        obtain ⟨ls, hx⟩ : ∃ x, x = F.ths[k] := ⟨_, rfl⟩
        rw [← hx] at hLn hok1
        have HX := Lib.hid hx
        have hLw := hLn.below hB
        obtain ⟨A3, c3, rfl, -⟩ := id hLn
        have hBo := below_al hB (.cells #[.slice A3 ls.length c3] 37)
        have hone : FlV (wr.alloc (.cells #[.slice A3 ls.length c3] 37)).heap.size (wr.alloc (.cells #[.slice A3 ls.length c3] 37)) (.agg #[.string ⟨#[97]⟩, .slice none 0 0, .slice (some ⟨wr.heap.size, 0, none⟩) 1 1, .bool false, .slice none 0 0]) (oneF ls) := by
          refine ⟨_, _, _, rfl, ⟨none, 0, rfl, Nat.le_refl _, by decide, fun h => absurd h (by simp [oneF])⟩, ⟨_, 1, rfl, Nat.le_refl _, by decide, fun _ => ⟨wr.heap.size, 0, rfl, by simp, fun j hj => ?_⟩⟩, ⟨none, 0, rfl, Nat.le_refl _, by decide, fun h => absurd h (by simp [oneF])⟩⟩
          have : j = 0 := by simpa [oneF] using hj
          subst this
          exact ⟨_, (box_1 wr _ _ 0 rfl).1, (hLw.below (below_al (Below.refl wr.heap.size wr) _ |>.mono hB.size)).more (by have := hB.size; simp; omega)⟩
        have HC1 := Lib.hid (HV1.out _ _ _ hBo hone hok1)
        have HBX1 := Lib.hid (HBX.out.below (below_al (Below.refl _ _) (.cells #[.slice A3 ls.length c3] 37)))
        clear hx hcl hb3 hLn hLw hone hok1 d0w HBX
        cases hth : thC ls with
        | none =>
          have hT := one_right hth
          have HTh := Lib.hid hth
          clear hth
          rcases hT with hT | hT
          · rw [hT] at HC1
            clear hT
            go_wp2_with fail
            refine HC1.out.mono ?_
            rintro e w4 ⟨rfl, hbb⟩
            have hB4 := chain hBo hbb
            have HBX4 := Lib.hid (HBX1.out.below hbb)
            clear t0 t1 t2 t3 t4 d0 hbb HC1 HBX1 hBo
            go_wp2
            refine ⟨⟨k + 1, by omega, by go_num, fun j hj => ?_, hB4, HBX4.out⟩, by simp [intOf]; omega⟩
            by_cases e : j = k
            · rw [e, HD.out, ← HX.out]; exact HTh.out
            · exact HA.out j (by omega)
          · rw [hT] at HC1
            clear hT
            go_wp2_with fail
            refine HC1.out.mono ?_
            rintro e w4 ⟨rfl, hbb⟩
            have hB4 := chain hBo hbb
            have HBX4 := Lib.hid (HBX1.out.below hbb)
            clear t0 t1 t2 t3 t4 d0 hbb HC1 HBX1 hBo
            go_wp2
            refine ⟨⟨k + 1, by omega, by go_num, fun j hj => ?_, hB4, HBX4.out⟩, by simp [intOf]; omega⟩
            by_cases e : j = k
            · rw [e, HD.out, ← HX.out]; exact HTh.out
            · exact HA.out j (by omega)
        | some m =>
          obtain ⟨hT, hne⟩ := one_wrong hth
          have hcase := HCT.out k m hlt HA.out (by rw [HD.out, ← HX.out]; exact hth)
          rw [HD.out, ← HX.out] at hcase
          rw [hT] at HC1
          obtain ⟨c, hc⟩ : ∃ c, c = lnC ls m := ⟨_, rfl⟩
          rw [← hc] at HC1 hne hcase
          have q : (c == 0) = false := by simpa using hne
          clear hc hT hth
          rcases hcase with ⟨hf, hce⟩ | hce
          · injection hce with e1 e2
            injection e2 with e2 e3
            have q2 : decide ((0 : Int) ≤ ca) = false := decide_eq_false (by omega)
            have q3 : (cc == 0) = false := by simpa using (by omega : ¬ cc = 0)
            clear hf e1 e2 e3
            go_wp2_with fail
            refine HC1.out.mono ?_
            rintro e w4 ⟨rfl, hbb⟩
            have hB4 := chain hBo hbb
            clear t0 t1 t2 t3 t4 d0 hbb HC1 HBX1 hBo
            go_wp2
            go_ret
            exact ⟨ret_bool (by rw [bne, q3]; rfl), hB4⟩
          · injection hce with e1 e2
            injection e2 with e2 e3
            subst e1; subst e2; subst e3
            go_wp2_with fail
            refine HC1.out.mono ?_
            rintro e w4 ⟨rfl, hbb⟩
            have hB4 := chain hBo hbb
            clear t0 t1 t2 t3 t4 d0 hbb HC1 HBX1 hBo
            go_wp2
            go_ret
            exact ⟨by simp, hB4⟩
      · obtain rfl : F.ths.length = k := by omega
        have hN := HCN.out HA.out
        clear hb3 HCT HCN HV1 HBX
        by_cases hz : cc = 0
        · have q : (cc == 0) = true := by simpa using hz
          clear hN hz
          go_wp2
          go_ret
          exact ⟨rfl, hB⟩
        · have q : (cc == 0) = false := by simpa using hz
          by_cases hm : ca = -1
          · have q2 : (ca == (-1 : Int)) = true := by rw [hm]; rfl
            clear hN hz hm
            go_wp2
            go_ret
            exact ⟨rfl, hB⟩
          · have hl : ca = (F.ths.length : Int) := by
              rcases hN with h | h | h
              · exact absurd h hz
              · exact absurd h hm
              · exact h
            have q2 : (ca == (-1 : Int)) = false := by simpa using hm
            have q3 : (ca == (F.ths.length : Int)) = true := by rw [hl]; simp
            clear hN hz hm hl
            go_wp2
            go_ret
            exact ⟨rfl, hB⟩
  · go_wp2
    go_ret
    exact ⟨rfl, hB2⟩
end Go.Proofs.YtclhgmopphhalaaGreatDoor
