/-
  WHAT LINE SOME WORDS WOULD BE (made, from worked on), over any world that holds the registers.
-/
import Derived.Test.YtlfngcekbffngaaDoorOpsG
namespace Go.Proofs.YtlfngcekbffngaaDoor
open Go.RowKit
set_option linter.unusedVariables false
set_option linter.unusedSimpArgs false
open WordM (L)

set_option maxHeartbeats 1000000 in
set_option maxRecDepth 100000 in
theorem worked_any (f t r : ByteArray) (w : World) (hr : Regs w) (ht : t.size ≤ 100000) (hf : r.size ≤ 100000) :
    Calls Tryd.prog 42 #[.string f, .string t, .string r] w fun e w' => e = .returned (lnw (OpsM.worked f.data.toList t.data.toList r.data.toList)) ∧ Below w.heap.size w w' := by
  have HW := Lib.hid hr
  by_cases h0 : f.data.toList = OpsM.kmov
  · have q0 : (f.toList == [109, 111, 118]) = true := by rw [Lib.toList_data, h0]; rfl
    have E := Lib.hid (show OpsM.worked f.data.toList t.data.toList r.data.toList = OpsM.moved t.data.toList r.data.toList by unfold OpsM.worked; rw [if_pos h0])
    have HM := Lib.hid (fun W h => moved_any t r W h ht hf)
    clear h0 hr ht hf
    rw [E.out]
    clear E
    generalize OpsM.moved t.data.toList r.data.toList = l at *
    unfold lnw lnv at *
    go_enter Tryd.func42, Tryd.ntmps42
    go_wp2_with fail
    refine (HM.out _ (HW.out.below ((Below.refl _ _).alloc (Nat.le_refl _) _))).mono ?_
    rintro e w1 ⟨rfl, hB⟩
    obtain ⟨c0, f0⟩ := kept_box hB 0 rfl
    obtain ⟨c1, f1⟩ := kept_box hB 1 rfl
    obtain ⟨c2, f2⟩ := kept_box hB 2 rfl
    obtain ⟨c3, f3⟩ := kept_box hB 3 rfl
    obtain ⟨c4, f4⟩ := kept_box hB 4 rfl
    have hz := box_lt hB
    go_wp2
    exact bodyPost_ret (v := lnw l) (by simp [results, Tryd.results42, go_sem, lnw, lnv, c0, c1, c2, c3, c4, hz]) rfl ⟨rfl, (((((box_below hB).setCell (Nat.le_refl _) _).setCell (Nat.le_refl _) _).setCell (Nat.le_refl _) _).setCell (Nat.le_refl _) _).setCell (Nat.le_refl _) _⟩
  · have q0 : (f.toList == [109, 111, 118]) = false := by rw [Lib.toList_data, beq_dec]; exact decide_eq_false h0
    by_cases h1 : f.data.toList = OpsM.kxchg
    · have q1 : (f.toList == [120, 99, 104, 103]) = true := by rw [Lib.toList_data, h1]; rfl
      have E := Lib.hid (show OpsM.worked f.data.toList t.data.toList r.data.toList = ⟨5, r.data.toList, OpsM.inside t.data.toList, [], 0⟩ by unfold OpsM.worked; rw [if_neg h0, if_pos h1])
      have HI := Lib.hid (fun W => inside_any t W ht)
      clear h0 h1 hr ht hf
      go_enter Tryd.func42, Tryd.ntmps42
      go_wp2_with (go_at_call 53; refine (HI.out _).mono ?_; rintro e w' ⟨rfl, rfl⟩)
      exact bodyPost_ret (v := lnv 5 r ⟨(OpsM.inside t.data.toList).toArray⟩ ⟨#[]⟩ 0) (by simp [results, Tryd.results42, go_sem, lnv]) rfl ⟨by rw [E.out]; rfl, (Below.refl _ _).alloc (Nat.le_refl _) _⟩
    · have q1 : (f.toList == [120, 99, 104, 103]) = false := by rw [Lib.toList_data, beq_dec]; exact decide_eq_false h1
      by_cases h2 : f.data.toList = OpsM.kcmp
      · have q2 : (f.toList == [99, 109, 112]) = true := by rw [Lib.toList_data, h2]; rfl
        have E := Lib.hid (show OpsM.worked f.data.toList t.data.toList r.data.toList = ⟨7, t.data.toList, [], [], (NumM.get r.data.toList).1⟩ by unfold OpsM.worked; rw [if_neg h0, if_neg h1, if_pos h2])
        have HG := Lib.hid (fun W => get_any r W (by unfold maxLen; omega))
        clear h0 h1 h2 hr ht hf
        generalize NumM.get r.data.toList = g at *
        obtain ⟨n, is⟩ := g
        go_enter Tryd.func42, Tryd.ntmps42
        go_wp2_with fail
        refine (HG.out _).mono ?_
        rintro e w1 ⟨rfl, hB⟩
        obtain ⟨c0, f0⟩ := kept_box hB 0 rfl
        obtain ⟨c1, f1⟩ := kept_box hB 1 rfl
        obtain ⟨c2, f2⟩ := kept_box hB 2 rfl
        obtain ⟨c3, f3⟩ := kept_box hB 3 rfl
        obtain ⟨c4, f4⟩ := kept_box hB 4 rfl
        have hz := box_lt hB
        go_wp2
        exact bodyPost_ret (v := lnv 7 t ⟨#[]⟩ ⟨#[]⟩ n) (by simp [results, Tryd.results42, go_sem, lnv, c0, c1, c2, c3, c4, hz]) rfl ⟨by rw [E.out]; rfl, (((((box_below hB).setCell (Nat.le_refl _) _).setCell (Nat.le_refl _) _).setCell (Nat.le_refl _) _).setCell (Nat.le_refl _) _).setCell (Nat.le_refl _) _⟩
      · have q2 : (f.toList == [99, 109, 112]) = false := by rw [Lib.toList_data, beq_dec]; exact decide_eq_false h2
        have E := Lib.hid (show OpsM.worked f.data.toList t.data.toList r.data.toList = OpsM.zero by unfold OpsM.worked; rw [if_neg h0, if_neg h1, if_neg h2])
        clear h0 h1 h2 hr ht hf
        go_enter Tryd.func42, Tryd.ntmps42
        go_wp2
        exact bodyPost_ret (v := lnv 0 ⟨#[]⟩ ⟨#[]⟩ ⟨#[]⟩ 0) (by simp [results, Tryd.results42, go_sem, lnv]) rfl ⟨by rw [E.out]; rfl, (Below.refl _ _).alloc (Nat.le_refl _) _⟩

set_option maxHeartbeats 1000000 in
set_option maxRecDepth 100000 in
theorem made0 (A : Option Addr) (c : Nat) (w : World) :
    Calls Tryd.prog 26 #[.slice A 0 c] w fun e w' => e = .returned (lnw OpsM.zero) ∧ Below w.heap.size w w' := by
  go_enter Tryd.func26, Tryd.ntmps26
  go_wp2
  exact bodyPost_ret (v := lnv 0 ⟨#[]⟩ ⟨#[]⟩ ⟨#[]⟩ 0) (by simp [results, Tryd.results26, go_sem, lnv]) rfl ⟨rfl, (Below.refl _ _).alloc (Nat.le_refl _) _⟩
set_option maxHeartbeats 1000000 in
set_option maxRecDepth 100000 in
theorem made4 (A : Option Addr) (n c : Nat) (h : 4 ≤ n) (w : World) :
    Calls Tryd.prog 26 #[.slice A n c] w fun e w' => e = .returned (lnw OpsM.zero) ∧ Below w.heap.size w w' := by
  have q1 : ((n : Int) == 1) = false := beq_eq_false_iff_ne.2 (by omega)
  have q2 : ((n : Int) == 2) = false := beq_eq_false_iff_ne.2 (by omega)
  have q3 : ((n : Int) == 3) = false := beq_eq_false_iff_ne.2 (by omega)
  go_enter Tryd.func26, Tryd.ntmps26
  go_wp2
  exact bodyPost_ret (v := lnv 0 ⟨#[]⟩ ⟨#[]⟩ ⟨#[]⟩ 0) (by simp [results, Tryd.results26, go_sem, lnv]) rfl ⟨rfl, (Below.refl _ _).alloc (Nat.le_refl _) _⟩
set_option maxHeartbeats 1000000 in
set_option maxRecDepth 100000 in
theorem made1 (g f c : Nat) (a : ByteArray) (w : World) (hg : g < w.heap.size) (hc : 1 ≤ c) (h0 : w.cell? ⟨g, f, none⟩ = some (.string a)) (ha : a.size ≤ 100000) :
    Calls Tryd.prog 26 #[.slice (some ⟨g, f, none⟩) 1 c] w fun e w' => e = .returned (lnw (OpsM.alone a.data.toList)) ∧ Below w.heap.size w w' := by
  have HA := Lib.hid (fun W => alone_any a W ha)
  generalize OpsM.alone a.data.toList = l at *
  unfold lnw lnv at *
  go_enter Tryd.func26, Tryd.ntmps26
  go_wp2_with fail
  refine (HA.out _).mono ?_
  rintro e w1 ⟨rfl, hB⟩
  obtain ⟨c0, f0⟩ := kept_box hB 0 rfl
  obtain ⟨c1, f1⟩ := kept_box hB 1 rfl
  obtain ⟨c2, f2⟩ := kept_box hB 2 rfl
  obtain ⟨c3, f3⟩ := kept_box hB 3 rfl
  obtain ⟨c4, f4⟩ := kept_box hB 4 rfl
  have hz := box_lt hB
  go_wp2
  exact bodyPost_ret (v := lnw l) (by simp [results, Tryd.results26, go_sem, lnw, lnv, c0, c1, c2, c3, c4, hz]) rfl ⟨rfl, (((((box_below hB).setCell (Nat.le_refl _) _).setCell (Nat.le_refl _) _).setCell (Nat.le_refl _) _).setCell (Nat.le_refl _) _).setCell (Nat.le_refl _) _⟩
set_option maxHeartbeats 1000000 in
set_option maxRecDepth 100000 in
theorem made2 (g f c : Nat) (a b : ByteArray) (w : World) (hg : g < w.heap.size) (hc : 2 ≤ c) (h0 : w.cell? ⟨g, f, none⟩ = some (.string a)) (h1 : w.cell? ⟨g, f + 1, none⟩ = some (.string b)) :
    Calls Tryd.prog 26 #[.slice (some ⟨g, f, none⟩) 2 c] w fun e w' => e = .returned (lnw (OpsM.jumped a.data.toList b.data.toList)) ∧ Below w.heap.size w w' := by
  have HA := Lib.hid (fun W => jumped_any a b W)
  generalize OpsM.jumped a.data.toList b.data.toList = l at *
  unfold lnw lnv at *
  go_enter Tryd.func26, Tryd.ntmps26
  go_wp2
  go_region_held3 (fun w' => w'.cell? ⟨g, f, none⟩ = some (.string a) ∧ w'.cell? ⟨g, f + 1, none⟩ = some (.string b)) (first | go_keep | (exact held_below2 hB (by assumption)) | (exact held_set2 (Nat.ne_of_lt hg) (held_set2 (Nat.ne_of_lt hg) (held_set2 (Nat.ne_of_lt hg) (held_set2 (Nat.ne_of_lt hg) (held_set2 (Nat.ne_of_lt hg) (by assumption)))))))
    (first | (go_at_call 41; refine (HA.out _).mono ?_; rintro e w' ⟨rfl, hB⟩; obtain ⟨c0, f0⟩ := kept_boxd hB 0 rfl; obtain ⟨c1, f1⟩ := kept_boxd hB 1 rfl; obtain ⟨c2, f2⟩ := kept_boxd hB 2 rfl; obtain ⟨c3, f3⟩ := kept_boxd hB 3 rfl; obtain ⟨c4, f4⟩ := kept_boxd hB 4 rfl))
  all_goals
    have hz := box_ltd hB
    go_wp2
    exact bodyPost_ret (v := lnw l) (by simp [results, Tryd.results26, go_sem, lnw, lnv, c0, c1, c2, c3, c4, hz]) rfl ⟨rfl, (((((below_box hB).setCell (Nat.le_refl _) _).setCell (Nat.le_refl _) _).setCell (Nat.le_refl _) _).setCell (Nat.le_refl _) _).setCell (Nat.le_refl _) _⟩
set_option maxHeartbeats 1000000 in
set_option maxRecDepth 100000 in
theorem made3 (g f c : Nat) (a b d : ByteArray) (w : World) (hg : g < w.heap.size) (hr : Regs w) (hc : 3 ≤ c) (h0 : w.cell? ⟨g, f, none⟩ = some (.string a)) (h1 : w.cell? ⟨g, f + 1, none⟩ = some (.string b)) (h2 : w.cell? ⟨g, f + 2, none⟩ = some (.string d)) (hb : b.size ≤ 100000) (hd : d.size ≤ 100000) :
    Calls Tryd.prog 26 #[.slice (some ⟨g, f, none⟩) 3 c] w fun e w' => e = .returned (lnw (OpsM.worked a.data.toList b.data.toList d.data.toList)) ∧ Below w.heap.size w w' := by
  have HA := Lib.hid (fun W h => worked_any a b d W h hb hd)
  generalize OpsM.worked a.data.toList b.data.toList d.data.toList = l at *
  unfold lnw lnv at *
  go_enter Tryd.func26, Tryd.ntmps26
  have HW1 := Lib.hid (hr.below (below_drewN ((Below.refl w.heap.size w).alloc (Nat.le_refl _) (.cells #[.int .i64 0, .string ⟨#[]⟩, .string ⟨#[]⟩, .string ⟨#[]⟩, .int .i64 0] 23)) 1))
  clear hr
  go_wp2
  go_region_held3 (fun w' => w'.cell? ⟨g, f, none⟩ = some (.string a) ∧ w'.cell? ⟨g, f + 1, none⟩ = some (.string b) ∧ w'.cell? ⟨g, f + 2, none⟩ = some (.string d)) (first | go_keep | (exact held_below3 hB (by assumption)) | (exact held_set3 (Nat.ne_of_lt hg) (held_set3 (Nat.ne_of_lt hg) (held_set3 (Nat.ne_of_lt hg) (held_set3 (Nat.ne_of_lt hg) (held_set3 (Nat.ne_of_lt hg) (by assumption)))))))
    (first | (go_at_call 42; refine (HA.out _ HW1.out).mono ?_; rintro e w' ⟨rfl, hB⟩; obtain ⟨c0, f0⟩ := kept_boxd hB 0 rfl; obtain ⟨c1, f1⟩ := kept_boxd hB 1 rfl; obtain ⟨c2, f2⟩ := kept_boxd hB 2 rfl; obtain ⟨c3, f3⟩ := kept_boxd hB 3 rfl; obtain ⟨c4, f4⟩ := kept_boxd hB 4 rfl))
  all_goals
    have hz := box_ltd hB
    go_wp2
    exact bodyPost_ret (v := lnw l) (by simp [results, Tryd.results26, go_sem, lnw, lnv, c0, c1, c2, c3, c4, hz]) rfl ⟨rfl, (((((below_box hB).setCell (Nat.le_refl _) _).setCell (Nat.le_refl _) _).setCell (Nat.le_refl _) _).setCell (Nat.le_refl _) _).setCell (Nat.le_refl _) _⟩

theorem strs_cell {B : Nat} {w : World} {v : Value} {ls : List L} (h : Strs B w v ls) (hB : B ≤ w.heap.size) : ∃ A c, v = .slice A ls.length c ∧ ls.length ≤ c ∧ (0 < ls.length → ∃ g f, A = some ⟨g, f, none⟩ ∧ g < w.heap.size ∧ ∀ j (hj : j < ls.length), w.cell? ⟨g, f + j, none⟩ = some (sv ls[j])) := by
  obtain ⟨A, c, e, h1, _, h3⟩ := h
  refine ⟨A, c, e, h1, fun k => ?_⟩
  obtain ⟨b, f, e2, h4, h5⟩ := h3 k
  exact ⟨b, f, e2, by omega, h5⟩
theorem opmade_any {B : Nat} {v : Value} {ls : List L} (w : World) (hr : Regs w) (h : Strs B w v ls) (hB : B ≤ w.heap.size) (hs : ∀ l ∈ ls, l.length ≤ 100000) :
    Calls Tryd.prog 26 #[v] w fun e w' => e = .returned (lnw (OpsM.made ls)) ∧ Below w.heap.size w w' := by
  obtain ⟨A, c, rfl, hc, h0⟩ := strs_cell h hB
  have sz : ∀ l ∈ ls, (⟨l.toArray⟩ : ByteArray).size ≤ 100000 := fun l hl => by rw [Lib.size_eq]; simpa using hs l hl
  match ls, hc, h0, sz with
  | [], _, _, _ => exact made0 A c w
  | [a], hc, h0, sz =>
    obtain ⟨g, f, rfl, hg, hcl⟩ := h0 (by simp)
    exact made1 g f c ⟨a.toArray⟩ w hg hc (hcl 0 (by simp)) (sz a (by simp))
  | [a, b], hc, h0, sz =>
    obtain ⟨g, f, rfl, hg, hcl⟩ := h0 (by simp)
    exact made2 g f c ⟨a.toArray⟩ ⟨b.toArray⟩ w hg hc (hcl 0 (by simp)) (hcl 1 (by simp))
  | [a, b, d], hc, h0, sz =>
    obtain ⟨g, f, rfl, hg, hcl⟩ := h0 (by simp)
    exact made3 g f c ⟨a.toArray⟩ ⟨b.toArray⟩ ⟨d.toArray⟩ w hg hr hc (hcl 0 (by simp)) (hcl 1 (by simp)) (hcl 2 (by simp)) (sz b (by simp)) (sz d (by simp))
  | a :: b :: d :: e :: r, hc, _, _ => exact made4 A _ c (by simp) w
end Go.Proofs.YtlfngcekbffngaaDoor
