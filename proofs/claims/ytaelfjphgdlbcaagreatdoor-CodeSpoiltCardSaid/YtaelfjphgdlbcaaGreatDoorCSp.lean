/-
  CodeSpoilt, as a walk over any world that holds the listed variables: it returns true.
-/
import Derived.Test.YtaelfjphgdlbcaaGreatDoorCLin
import Derived.Test.YtaelfjphgdlbcaaGreatDoorCodX
import Derived.Test.YtaelfjphgdlbcaaGreatDoorRCdB
import Derived.Test.YtaelfjphgdlbcaaGreatDoorRStp
import Derived.Deep.RegionHeld3
import Derived.Deep.DeepCutAuto
import Derived.Deep.CutBlock
import Derived.Deep.AppendLies
import Derived.Test.YtaelfjphgdlbcaaGreatDoorCd2
namespace Go.Proofs.YtaelfjphgdlbcaaGreatDoor
open Go.RowKit
set_option linter.unusedVariables false
set_option linter.unusedSimpArgs false
open WordM (L)
open VM
open CodM (St Pg rightP spoil)

theorem right_lens {P : Pg} (h : rightP P = true) : P.init.length ≤ 4 ∧ 0 < P.ths.length ∧ P.ths.length ≤ 3 := by
  unfold rightP at h
  simp only [Bool.and_eq_true, decide_eq_true_eq] at h
  exact ⟨h.1.1, h.1.2.1, h.1.2.2⟩
/-- The step stands in its box. -/
def StB (w : World) (g : Nat) (s : St) : Prop :=
  w.cell? ⟨g, 0, none⟩ = some (.int .i64 s.op) ∧ w.cell? ⟨g, 1, none⟩ = some (.int .i64 s.reg) ∧ w.cell? ⟨g, 2, none⟩ = some (.int .i64 s.loc) ∧
    w.cell? ⟨g, 3, none⟩ = some (.int .i64 s.n) ∧ w.cell? ⟨g, 4, none⟩ = some (.int .i64 s.5) ∧ ∀ i, i < 5 → w.frozen? ⟨g, i, none⟩ = false
theorem StB.at (w : World) (s : St) : StB (w.alloc (.cells #[.int .i64 s.op, .int .i64 s.reg, .int .i64 s.loc, .int .i64 s.n, .int .i64 s.5] 30)) w.heap.size s := by
  refine ⟨(box_1 w _ _ 0 rfl).1, (box_1 w _ _ 1 rfl).1, (box_1 w _ _ 2 rfl).1, (box_1 w _ _ 3 rfl).1, (box_1 w _ _ 4 rfl).1, fun i hi => ?_⟩
  match i, hi with
  | 0, _ => exact (box_1 w _ _ 0 rfl).2
  | 1, _ => exact (box_1 w _ _ 1 rfl).2
  | 2, _ => exact (box_1 w _ _ 2 rfl).2
  | 3, _ => exact (box_1 w _ _ 3 rfl).2
  | 4, _ => exact (box_1 w _ _ 4 rfl).2
theorem StB.op {w : World} {g : Nat} {s : St} (h : StB w g s) (x : Int) : StB (w.setCell ⟨g, 0, none⟩ (.int .i64 x)) g ⟨x, s.reg, s.loc, s.n, s.5⟩ :=
  ⟨World.cell?_setCell_same _ _ _ h.1, set_oth (.inr (by decide)) h.2.1, set_oth (.inr (by decide)) h.2.2.1, set_oth (.inr (by decide)) h.2.2.2.1, set_oth (.inr (by decide)) h.2.2.2.2.1, fun i hi => set_frozen.trans (h.2.2.2.2.2 i hi)⟩
theorem StB.reg {w : World} {g : Nat} {s : St} (h : StB w g s) (x : Int) : StB (w.setCell ⟨g, 1, none⟩ (.int .i64 x)) g ⟨s.op, x, s.loc, s.n, s.5⟩ :=
  ⟨set_oth (.inr (by decide)) h.1, World.cell?_setCell_same _ _ _ h.2.1, set_oth (.inr (by decide)) h.2.2.1, set_oth (.inr (by decide)) h.2.2.2.1, set_oth (.inr (by decide)) h.2.2.2.2.1, fun i hi => set_frozen.trans (h.2.2.2.2.2 i hi)⟩
theorem StB.loc {w : World} {g : Nat} {s : St} (h : StB w g s) (x : Int) : StB (w.setCell ⟨g, 2, none⟩ (.int .i64 x)) g ⟨s.op, s.reg, x, s.n, s.5⟩ :=
  ⟨set_oth (.inr (by decide)) h.1, set_oth (.inr (by decide)) h.2.1, World.cell?_setCell_same _ _ _ h.2.2.1, set_oth (.inr (by decide)) h.2.2.2.1, set_oth (.inr (by decide)) h.2.2.2.2.1, fun i hi => set_frozen.trans (h.2.2.2.2.2 i hi)⟩
theorem StB.tn {w : World} {g : Nat} {s : St} (h : StB w g s) (x : Int) : StB (w.setCell ⟨g, 4, none⟩ (.int .i64 x)) g ⟨s.op, s.reg, s.loc, s.n, x⟩ :=
  ⟨set_oth (.inr (by decide)) h.1, set_oth (.inr (by decide)) h.2.1, set_oth (.inr (by decide)) h.2.2.1, set_oth (.inr (by decide)) h.2.2.2.1, World.cell?_setCell_same _ _ _ h.2.2.2.2.1, fun i hi => set_frozen.trans (h.2.2.2.2.2 i hi)⟩
theorem StB.below {w w' : World} {g : Nat} {s : St} (h : StB w g s) (hb : Below w.heap.size w w') : StB w' g s :=
  ⟨kc hb h.1, kc hb h.2.1, kc hb h.2.2.1, kc hb h.2.2.2.1, kc hb h.2.2.2.2.1, fun i hi => (hb.frozen (p := ⟨g, i, none⟩) (lt_of_cell h.1)).trans (h.2.2.2.2.2 i hi)⟩
theorem cells_of_sss {B : Nat} {w : World} {b f : Nat} {ts : List (List St)} (h : ∀ j (hj : j < ts.length), SsAt B w b (f + j) ts[j]) :
    ∃ vs : List Value, vs.length = ts.length ∧ (∀ (j : Nat) (u : Value), vs[j]? = some u → w.cell? ⟨b, f + j, none⟩ = some u) ∧ (∀ u ∈ vs, u.oneCell' = true) ∧ ∀ j (hj : j < ts.length), ∃ u, vs[j]? = some u ∧ Sts B w u ts[j] := by
  refine ⟨(List.range ts.length).map (fun j => (w.cell? ⟨b, f + j, none⟩).getD (.bool false)), by simp, fun j u hu => ?_, fun u hu => ?_, fun j hj => ?_⟩
  · have hj : j < ts.length := by
      have := (List.getElem?_eq_some_iff.1 hu).1
      simpa using this
    obtain ⟨x, h1, h2⟩ := h j hj
    rw [List.getElem?_map, List.getElem?_range hj] at hu
    injection hu with hu
    replace hu : (w.cell? ⟨b, f + j, none⟩).getD (.bool false) = u := hu
    rw [h1] at hu
    rw [h1]
    exact congrArg some hu
  · obtain ⟨j, hj, rfl⟩ := List.mem_map.1 hu
    obtain ⟨x, h1, A, c, rfl, _⟩ := h j (List.mem_range.1 hj)
    rw [h1]; rfl
  · obtain ⟨x, h1, h2⟩ := h j hj
    refine ⟨x, ?_, h2⟩
    rw [List.getElem?_map, List.getElem?_range hj]
    show some ((w.cell? ⟨b, f + j, none⟩).getD (.bool false)) = some x
    rw [h1]; rfl
theorem PgBox.set {w : World} {g b i : Nat} {vi vt v : Value} (h : PgBox w g vi vt) (hne : b ≠ g) : PgBox (w.setCell ⟨b, i, none⟩ v) g vi vt := ⟨set_oth (.inl hne) h.1, set_oth (.inl hne) h.2⟩
theorem StB.far {W W' : World} {g rb : Nat} {s : St} (h : StB W g s) (hg : W.grownBy W' (some rb)) (hne : g ≠ rb) : StB W' g s := by
  have hnr : ∀ i, some (⟨g, i, none⟩ : Addr).block ≠ some rb := fun i e => hne (by injection e)
  exact ⟨hg.cell h.1 (hnr 0), hg.cell h.2.1 (hnr 1), hg.cell h.2.2.1 (hnr 2), hg.cell h.2.2.2.1 (hnr 3), hg.cell h.2.2.2.2.1 (hnr 4), fun i hi => (hg.frozen_far ⟨g, i, none⟩ (lt_of_cell h.1) (hnr i)).trans (h.2.2.2.2.2 i hi)⟩
theorem StB.other {w : World} {g b i : Nat} {s : St} {v : Value} (h : StB w g s) (hne : b ≠ g) : StB (w.setCell ⟨b, i, none⟩ v) g s :=
  ⟨set_oth (.inl hne) h.1, set_oth (.inl hne) h.2.1, set_oth (.inl hne) h.2.2.1, set_oth (.inl hne) h.2.2.2.1, set_oth (.inl hne) h.2.2.2.2.1, fun i hi => set_frozen.trans (h.2.2.2.2.2 i hi)⟩
/-- The code with another thread. -/
theorem pg_set {w W : World} {E : TypeId} {gT cap : Nat} {v2 vi : Value} {vs : List Value} {P : Pg} {t : Nat} {ss' : List St} (hB : Below w.heap.size w W) (hI : Ints w.heap.size w vi P.init) (hvl : vs.length = P.ths.length)
    (hv : ∀ j (hj : j < P.ths.length), ∃ u, vs[j]? = some u ∧ Sts w.heap.size w u P.ths[j]) (hown : W.ownsRow w.heap.size E 1 (.slice (some ⟨gT, 0, none⟩) P.ths.length cap) P.ths.length (vs.set t v2)) (ht : t < P.ths.length) (hl : Sts W.heap.size W v2 ss') :
    PgV W.heap.size W (.agg #[vi, .slice (some ⟨gT, 0, none⟩) P.ths.length cap]) ⟨P.init, P.ths.set t ss'⟩ := by
  refine ⟨vi, _, rfl, (hI.below hB).more hB.size, ?_⟩
  refine sss_of_own (T := E) (base := w.heap.size) (vs := vs.set t v2) (by show W.ownsRow _ _ _ _ (P.ths.set t ss').length _; rw [List.length_set]; exact hown) (Nat.le_refl _) (fun j hj => ?_)
  have hj' : j < P.ths.length := by
    have h : j < (P.ths.set t ss').length := hj
    rwa [List.length_set] at h
  by_cases e : j = t
  · subst e
    refine ⟨v2, List.getElem?_set_self (by omega), ?_⟩
    show Sts _ _ _ (P.ths.set j ss')[j]
    rw [List.getElem_set_self]; exact hl
  · obtain ⟨u, h1, h2⟩ := hv j hj'
    refine ⟨u, by rw [List.getElem?_set_ne (fun c => e c.symm)]; exact h1, ?_⟩
    show Sts _ _ _ (P.ths.set t ss')[j]
    rw [List.getElem_set_ne (fun c => e c.symm)]
    exact (h2.below hB).more hB.size
set_option maxHeartbeats 8000000 in
set_option maxRecDepth 100000 in
theorem cspoilt_law {v : Value} {P : Pg} (a b c : Nat) (w : World) (hr : Regs w) (hg : EA.ErrG w) (hp : PartsG w) (hpv : PgV w.heap.size w v P) (ha : a < 256) (hb : b < 256) (hc : c < 256) :
    Calls Tryz.prog 3 #[v, .int .u8 a, .int .u8 b, .int .u8 c] w fun e w' => e = .returned (.bool true) ∧ Below w.heap.size w w' := by
  obtain ⟨pi, pt, rfl, hpm⟩ := hpv
  have HG := Lib.hid hp
  have HHd := Lib.hid (fun W (hW : Below w.heap.size w W) => chead_any W (hr.below hW) (hg.below hW) (hp.below hW))
  have HPM := Lib.hid hpm
  have HPV := Lib.hid (fun W (hW : Below w.heap.size w W) => show PgV W.heap.size W (.agg #[pi, pt]) P from ⟨pi, pt, rfl, (hpm.below hW).more hW.size⟩)
  have HGP := Lib.hid (fun W (hW : Below w.heap.size w W) => pgreat_any W (HPV.out W hW) (Nat.le_refl _))
  have HRt := Lib.hid (fun (hs : SmallP P) W (hW : Below w.heap.size w W) => cright_any W (HG.out.below hW) (HPV.out W hW) (Nat.le_refl _) (by have := hs.init; omega) (by have := hs.ths; omega))
  obtain ⟨⟨P0, d0, rfl, -⟩, ⟨P1, d1, rfl, l1, l2, l3⟩⟩ := hpm
  unfold maxLen at l2
  have hB := below_al (Below.refl w.heap.size w) (.cells #[.slice P0 P.init.length d0, .slice P1 P.ths.length d1] 25)
  have HP := Lib.hid (PgBox.at (w := w) rfl (.slice P0 P.init.length d0) (.slice P1 P.ths.length d1) 25)
  obtain ⟨x0, x1⟩ := HP.out
  clear hr hg hp
  go_enter Tryz.func3, Tryz.ntmps3
  go_wp2_with fail
  refine (HHd.out _ hB).mono ?_
  rintro e w1 ⟨rfl, hbb⟩
  replace hB := chain hB hbb
  replace HP := Lib.hid (HP.out.below hbb)
  clear x0 x1 hbb HHd
  obtain ⟨x0, x1⟩ := HP.out
  go_wp2_with fail
  refine (HGP.out _ hB).mono ?_
  rintro e w2 ⟨gb, rfl, hsx, hbb⟩
  replace hB := chain hB hbb
  replace HP := Lib.hid (HP.out.below hbb)
  clear x0 x1 hbb HGP
  obtain ⟨x0, x1⟩ := HP.out
  cases gb
  case true =>
    go_wp2
    go_ret
    exact ⟨rfl, hB⟩
  have HS := Lib.hid (hsx rfl)
  clear hsx
  go_wp2_with fail
  refine (HRt.out HS.out _ hB).mono ?_
  rintro e w3 ⟨rfl, hbb⟩
  replace hB := chain hB hbb
  replace HP := Lib.hid (HP.out.below hbb)
  clear x0 x1 hbb
  obtain ⟨x0, x1⟩ := HP.out
  by_cases hq : rightP P = true
  · have HQ := Lib.hid hq
    obtain ⟨r1, r2, r3⟩ := right_lens hq
    obtain ⟨t, htl, m1, m2⟩ := mod_lay a P.ths.length r2
    obtain ⟨b1, f1, rfl, hb1, hcl⟩ := l3 r2
    obtain ⟨u, z0, hL⟩ := hcl t htl
    have y0 := (hB.cell (p := ⟨b1, f1 + t, none⟩) hb1).trans z0
    have hst := HS.out.steps _ (List.getElem_mem htl)
    obtain ⟨ss, hx⟩ : ∃ x, x = P.ths[t] := ⟨_, rfl⟩
    rw [← hx] at hL hst
    have HX := Lib.hid hx
    obtain ⟨A3, c3, rfl, he1, he2, he3⟩ := hL
    unfold maxLen at he2
    rw [hq]
    have HCL := Lib.hid hcl
    clear hq hx hcl l3
    by_cases hz : ss.length = 0
    · have q : ((ss.length : Int) == 0) = true := by simp [hz]
      have HZ := Lib.hid hz
      clear hz
      go_wp2
      go_ret
      exact ⟨rfl, hB⟩
    have hz1 : 0 < ss.length := by omega
    have q : ((ss.length : Int) == 0) = false := by rw [beq_eq_false_iff_ne]; omega
    obtain ⟨k, hkl, n1, n2⟩ := mod_lay b ss.length hz1
    obtain ⟨b3, f3, rfl, hb3, hc3⟩ := he3 hz1
    obtain ⟨z0', z1', z2', z3', z4'⟩ := hc3 k hkl
    have hkc := chain (Below.refl _ _) hB
    have c0 := (hB.cell (p := ⟨b3, f3 + k * 5, none⟩) hb3).trans z0'
    have c1 := (hB.cell (p := ⟨b3, f3 + k * 5 + 1, none⟩) hb3).trans z1'
    have c2 := (hB.cell (p := ⟨b3, f3 + k * 5 + 2, none⟩) hb3).trans z2'
    have c3' := (hB.cell (p := ⟨b3, f3 + k * 5 + 3, none⟩) hb3).trans z3'
    have c4 := (hB.cell (p := ⟨b3, f3 + k * 5 + 4, none⟩) hb3).trans z4'
    obtain ⟨s, hs⟩ : ∃ s, s = ss[k] := ⟨_, rfl⟩
    rw [← hs] at c0 c1 c2 c3' c4
    have HSK := Lib.hid hs
    obtain ⟨m, hm7, M1, M2⟩ : ∃ m : Nat, m < 7 ∧ (c : Int).tmod 7 = (m : Int) ∧ (c : Int) % 7 = (m : Int) := ⟨c % 7, by omega, by rw [Int.tmod_eq_emod_of_nonneg (by omega)]; omega, by omega⟩
    clear hs z0' z1' z2' z3' z4' hkc
    have hpl : P.init.length ≤ 60 := HS.out.init
    have HB4 := Lib.hid (chain hB (below_al (Below.refl w3.heap.size w3) (.cells #[.int .i64 s.op, .int .i64 s.reg, .int .i64 s.loc, .int .i64 s.n, .int .i64 s.5] 30)))
    have HX4 := Lib.hid (HP.out.below (below_al (Below.refl w3.heap.size w3) (.cells #[.int .i64 s.op, .int .i64 s.reg, .int .i64 s.loc, .int .i64 s.n, .int .i64 s.5] 30)))
    have HS4 := Lib.hid (StB.at w3 s)
    have hlt3 := lt_of_cell x0
    go_upto_region 10 with fail
    generalize w3.alloc (.cells #[.int .i64 s.op, .int .i64 s.reg, .int .i64 s.loc, .int .i64 s.n, .int .i64 s.5] 30) = w4 at *
    obtain ⟨g9, hg9⟩ : ∃ g, g = w3.heap.size := ⟨_, rfl⟩
    rw [← hg9] at HS4 hlt3 ⊢
    obtain ⟨g, hg0⟩ : ∃ g, g = w.heap.size := ⟨_, rfl⟩
    have hle9 : w.heap.size ≤ g9 := by omega
    rw [← hg0] at HX4 hlt3 ⊢
    have hne9 : g9 ≠ g := by omega
    clear x0 x1 c0 c1 c2 c3' c4 HP y0 hg9 hg0
    go_upto_block 0 with fail
    clear M1 M2
    go_cut [] (fun wx => StB wx g9 (spoil P.init.length ss.length k m s) ∧ PgBox wx g (.slice P0 P.init.length d0) (.slice (some ⟨b1, f1, none⟩) P.ths.length d1) ∧ Below w.heap.size w wx)
    case first =>
      obtain ⟨s0, s1, s2, s3, s4, sf⟩ := HS4.out
      obtain ⟨x0, x1⟩ := HX4.out
      have f0 := sf 0 (by decide)
      have f1' := sf 1 (by decide)
      have f2 := sf 2 (by decide)
      have f4 := sf 4 (by decide)
      clear sf
      rcases (show m = 0 ∨ m = 1 ∨ m = 2 ∨ m = 3 ∨ m = 4 ∨ m = 5 ∨ m = 6 by omega) with rfl | rfl | rfl | rfl | rfl | rfl | rfl
      · go_wp2_with fail
        go_meet
        exact ⟨HS4.out.op 11, HX4.out.set hne9, HB4.out.setCell (p := ⟨g9, 0, none⟩) hle9 _⟩
      · go_wp2_with fail
        go_meet
        exact ⟨HS4.out.op 0, HX4.out.set hne9, HB4.out.setCell (p := ⟨g9, 0, none⟩) hle9 _⟩
      · go_wp2_with fail
        go_meet
        exact ⟨HS4.out.reg 4, HX4.out.set hne9, HB4.out.setCell (p := ⟨g9, 1, none⟩) hle9 _⟩
      · have hT := HS4.out.loc (P.init.length : Int)
        obtain ⟨v0, v1, v2, v3, v4, vf⟩ := hT
        have vf2 := vf 2 (by decide)
        clear vf
        by_cases hl : CodM.hLoc s.op = true
        · have E := Lib.hid (show spoil P.init.length ss.length k 3 s = ⟨s.op, s.reg, (P.init.length : Int), s.n, s.5⟩ by unfold spoil; simp [hl])
          have hl2 : s.op = 2 ∨ s.op = 3 ∨ s.op = 4 ∨ s.op = 5 := by unfold CodM.hLoc at hl; simpa using hl
          have q2 : (s.op != 2) = true ∨ (s.op != 2) = false := by cases (s.op != 2) <;> simp
          have q3 : (s.op != 3) = true ∨ (s.op != 3) = false := by cases (s.op != 3) <;> simp
          have q4 : (s.op != 4) = true ∨ (s.op != 4) = false := by cases (s.op != 4) <;> simp
          have HNO := Lib.hid (show ¬ ((s.op != 2) = true ∧ (s.op != 3) = true ∧ (s.op != 4) = true ∧ (s.op != 5) = true) by simp; omega)
          have q5 : (s.op != 5) = true ∨ (s.op != 5) = false := by cases (s.op != 5) <;> simp
          clear hl hl2
          rcases q2 with q2 | q2
          · rcases q3 with q3 | q3
            · rcases q4 with q4 | q4
              · rcases q5 with q5 | q5
                · exact absurd ⟨q2, q3, q4, q5⟩ HNO.out
                · go_wp2_with fail
                  go_meet
                  exact ⟨by rw [E.out]; exact HS4.out.loc _, HX4.out.set hne9, HB4.out.setCell (p := ⟨g9, 2, none⟩) hle9 _⟩
              · go_wp2_with fail
                go_meet
                exact ⟨by rw [E.out]; exact HS4.out.loc _, HX4.out.set hne9, HB4.out.setCell (p := ⟨g9, 2, none⟩) hle9 _⟩
            · go_wp2_with fail
              go_meet
              exact ⟨by rw [E.out]; exact HS4.out.loc _, HX4.out.set hne9, HB4.out.setCell (p := ⟨g9, 2, none⟩) hle9 _⟩
          · go_wp2_with fail
            go_meet
            exact ⟨by rw [E.out]; exact HS4.out.loc _, HX4.out.set hne9, HB4.out.setCell (p := ⟨g9, 2, none⟩) hle9 _⟩
        · have E := Lib.hid (show spoil P.init.length ss.length k 3 s = ⟨s.op, s.reg, 1, s.n, s.5⟩ by unfold spoil; simp [hl])
          have hl2 : ¬ (s.op = 2 ∨ s.op = 3 ∨ s.op = 4 ∨ s.op = 5) := by intro c; apply hl; unfold CodM.hLoc; simpa using c
          have q2 : (s.op != 2) = true := by simp; omega
          have q3 : (s.op != 3) = true := by simp; omega
          have q4 : (s.op != 4) = true := by simp; omega
          have q5 : (s.op != 5) = true := by simp; omega
          clear hl hl2
          go_wp2_with fail
          go_meet
          exact ⟨by rw [E.out]; exact (HS4.out.loc _).loc 1, (HX4.out.set hne9).set hne9, (HB4.out.setCell (p := ⟨g9, 2, none⟩) hle9 _).setCell (p := ⟨g9, 2, none⟩) hle9 _⟩
      · go_wp2_with fail
        go_meet
        exact ⟨HS4.out.tn _, HX4.out.set hne9, HB4.out.setCell (p := ⟨g9, 4, none⟩) hle9 _⟩
      · go_wp2_with fail
        go_meet
        exact ⟨HS4.out.reg (-1), HX4.out.set hne9, HB4.out.setCell (p := ⟨g9, 1, none⟩) hle9 _⟩
      · have hT := HS4.out.tn (k : Int)
        obtain ⟨v0, v1, v2, v3, v4, vf⟩ := hT
        have vf4 := vf 4 (by decide)
        clear vf
        by_cases h8 : s.op < 8
        · have q8 : decide (s.op < 8) = true := by simpa using h8
          have E := Lib.hid (show spoil P.init.length ss.length k 6 s = ⟨s.op, s.reg, s.loc, s.n, -1⟩ by unfold spoil; simp [show ¬ 8 ≤ s.op by omega])
          clear h8
          go_wp2_with fail
          go_meet
          exact ⟨by rw [E.out]; exact (HS4.out.tn (k : Int)).tn (-1), (HX4.out.set hne9).set hne9, (HB4.out.setCell (p := ⟨g9, 4, none⟩) hle9 _).setCell (p := ⟨g9, 4, none⟩) hle9 _⟩
        · have q8 : decide (s.op < 8) = false := by simpa using h8
          have E := Lib.hid (show spoil P.init.length ss.length k 6 s = ⟨s.op, s.reg, s.loc, s.n, (k : Int)⟩ by unfold spoil; simp [show 8 ≤ s.op by omega])
          clear h8
          go_wp2_with fail
          go_meet
          exact ⟨by rw [E.out]; exact HS4.out.tn (k : Int), HX4.out.set hne9, HB4.out.setCell (p := ⟨g9, 4, none⟩) hle9 _⟩
    case rest =>
    obtain ⟨hs9, hx9, hB9⟩ := hcut
    obtain ⟨vs, hvl, hvc, hv1, hvL⟩ := cells_of_sss HCL.out
    obtain ⟨i1, hi1, hy0, hy1, hy2⟩ := info_parts info_steps
    have hBg := below_al hB9 (.cells #[.slice P0 P.init.length d0, .slice (some ⟨b1, f1, none⟩) P.ths.length d1] 25)
    have HB6 := Lib.hid (below_al hBg (.cells #[] 28))
    have hL6 : Below wc.heap.size wc ((wc.alloc (.cells #[.slice P0 P.init.length d0, .slice (some ⟨b1, f1, none⟩) P.ths.length d1] 25)).alloc (.cells #[] 28)) := below_al (below_al (Below.refl wc.heap.size wc) _) _
    have HVC := Lib.hid (fun (j : Nat) (u : Value) (h : vs[j]? = some u) => (show ((wc.alloc (.cells #[.slice P0 P.init.length d0, .slice (some ⟨b1, f1, none⟩) P.ths.length d1] 25)).alloc (.cells #[] 28)).cell? ((⟨b1, f1, none⟩ : Addr).add j) = some u from by rw [Addr.add_lit]; exact (HB6.out.cell (p := ⟨b1, f1 + j, none⟩) hb1).trans (hvc j u h)))
    have HX6 := Lib.hid (hx9.below hL6)
    have HS6 := Lib.hid (hs9.below hL6)
    have HG6 := Lib.hid ((PgBox.at (w := wc) rfl (.slice P0 P.init.length d0) (.slice (some ⟨b1, f1, none⟩) P.ths.length d1) 25).below (below_al (Below.refl _ _) (.cells #[] 28)))
    have HFZ := Lib.hid (box_2 wc #[.slice P0 P.init.length d0, .slice (some ⟨b1, f1, none⟩) P.ths.length d1] 25 (.cells #[] 28) 1 rfl).2
    have HO6 := Lib.hid (show ((wc.alloc (.cells #[.slice P0 P.init.length d0, .slice (some ⟨b1, f1, none⟩) P.ths.length d1] 25)).alloc (.cells #[] 28)).ownsRow w.heap.size 28 1 (.slice (some ⟨wc.heap.size + 1, 0, none⟩) 0 0) 0 [] from by
      have := World.ownsRow_lit (base := w.heap.size) (e := 28) (size := 1) (wc.alloc (.cells #[.slice P0 P.init.length d0, .slice (some ⟨b1, f1, none⟩) P.ths.length d1] 25)) #[] 0 hBg.size (by decide) rfl
      simpa using this)
    have hs3 := hB9.size
    have HV1' := Lib.hid hv1
    have HVS := Lib.hid hvL
    have hg2 : ((wc.alloc (.cells #[.slice P0 P.init.length d0, .slice (some ⟨b1, f1, none⟩) P.ths.length d1] 25)).alloc (.cells #[] 28)).heap.size = wc.heap.size + 1 + 1 := by simp
    have hg9l : g9 < wc.heap.size := lt_of_cell hs9.1
    have hgl : g < wc.heap.size := lt_of_cell hx9.1
    obtain ⟨p0, p1⟩ := hx9
    obtain ⟨x0, x1⟩ := HX6.out
    clear hvc hBg hL6 hv1 hvL
    go_wp2_with (at_builtin; refine Hid.out ?_)
    apply Lib.hid
    refine wpList_append_lies _ rfl _ _ 23 rfl w.heap.size 28 i1 (.slice none 0 0) 1 24 Tryz.underlying23 hi1 hy0 hy1 hy2 rfl (by decide) _ 0 [] rfl HO6.out ⟨b1, f1, none⟩ P.ths.length d1 vs rfl (by rw [hvl]; omega) HVC.out HV1'.out (by omega) (by unfold maxLen; omega) (by omega) (by rw [hg2]; omega) (wc.heap.size + 1 + 1) hg2 ?_
    intro gT capT w7 hown hgrow hat hlt4
    simp only [Nat.zero_add, List.nil_append] at hown
    obtain ⟨c0, c1⟩ := HG6.out
    have hnr : ∀ i, some (⟨wc.heap.size, i, none⟩ : Addr).block ≠ some (wc.heap.size + 1) := fun i e => by injection e with e; have e : wc.heap.size = wc.heap.size + 1 := e; omega
    have k0 := hgrow.cell c0 (hnr 0)
    have k1' := hgrow.cell c1 (hnr 1)
    have kf := (hgrow.frozen_far ⟨wc.heap.size, 1, none⟩ (lt_of_cell c1) (hnr 1)).trans HFZ.out
    obtain ⟨gq, hgq⟩ : ∃ g, g = wc.heap.size := ⟨_, rfl⟩
    have hgT2 : gT = wc.heap.size + 1 ∨ gT = wc.heap.size + 1 + 1 := by
      rcases (show some (wc.heap.size + 1) = some gT ∨ gT = wc.heap.size + 1 + 1 from hat) with h | h
      · injection h with h; omega
      · omega
    obtain ⟨x, hx⟩ : ∃ x, x = spoil P.init.length ss.length k m s := ⟨_, rfl⟩
    have hs5 := ((HS6.out.far hgrow (show g9 ≠ wc.heap.size + 1 by omega)).other (b := wc.heap.size) (i := 1) (v := (.slice (some ⟨gT, 0, none⟩) P.ths.length capT)) (by omega))
    have hb5 := ((HB6.out.grown hgrow HB6.out.size (fun j e => by have e' : some (wc.heap.size + 1) = some j := e; injection e' with e'; omega)).setCell (p := ⟨wc.heap.size, 1, none⟩) (by show w.heap.size ≤ wc.heap.size; omega) (.slice (some ⟨gT, 0, none⟩) P.ths.length capT))
    have hx5 : PgBox (w7.setCell ⟨wc.heap.size, 1, none⟩ (.slice (some ⟨gT, 0, none⟩) P.ths.length capT)) wc.heap.size (.slice P0 P.init.length d0) (.slice (some ⟨gT, 0, none⟩) P.ths.length capT) := ⟨set_oth (.inr (by decide)) k0, World.cell?_setCell_same _ _ _ k1'⟩
    have hown5 := ownsRow_setCell_other (a := ⟨wc.heap.size, 1, none⟩) hown (fun e => by simp [Value.ownBlock] at e; omega) (.slice (some ⟨gT, 0, none⟩) P.ths.length capT)
    obtain ⟨W5, hW5⟩ : ∃ W, W = w7.setCell ⟨wc.heap.size, 1, none⟩ (.slice (some ⟨gT, 0, none⟩) P.ths.length capT) := ⟨_, rfl⟩
    rw [← hW5, ← hx] at hs5
    rw [← hW5] at hb5 hx5 hown5
    go_upto_region 31 with fail
    rw [← hW5]
    rw [← hgq] at hx5 ⊢
    have hB5 := hb5
    have hneq : gT ≠ gq := by omega
    have hne9T : gT ≠ g9 := by omega
    have hglT : w.heap.size ≤ gT := by omega
    obtain ⟨i0, hi0, hz0, hz1, hz2⟩ := info_parts info_stepz
    have hgTs : gT < W5.heap.size := (hown5.lt gT rfl).2
    have hws : w.heap.size ≤ W5.heap.size := hB5.size
    have HO5 := Lib.hid hown5
    have HGB := Lib.hid hx5
    have HSB := Lib.hid hs5
    have HSW := Lib.hid (fun W (hW : Below W5.heap.size W5 W) => (show (W.cell? ⟨gq, 1, none⟩ = some (.slice (some ⟨gT, 0, none⟩) P.ths.length capT) ∧ W.cell? ⟨g9, 0, none⟩ = some (.int .i64 x.op) ∧ W.cell? ⟨g9, 1, none⟩ = some (.int .i64 x.reg) ∧ W.cell? ⟨g9, 2, none⟩ = some (.int .i64 x.loc) ∧ W.cell? ⟨g9, 3, none⟩ = some (.int .i64 x.n) ∧ W.cell? ⟨g9, 4, none⟩ = some (.int .i64 x.5)) ∧ Below w.heap.size w W from ⟨⟨kc hW HGB.out.2, kc hW HSB.out.1, kc hW HSB.out.2.1, kc hW HSB.out.2.2.1, kc hW HSB.out.2.2.2.1, kc hW HSB.out.2.2.2.2.1⟩, chain hB5 hW⟩))
    have hzt : (0 : Int) ≤ (t : Int) := by omega
    have hzt2 : (t : Int) < (P.ths.length : Int) := by omega
    have hzk : (0 : Int) ≤ (k : Int) := by omega
    have hzk2 : (k : Int) ≤ (ss.length : Int) := by omega
    have hzk3 : (k : Int) ≤ (c3 : Int) := by omega
    have hzk4 : (ss.length : Int) ≤ (c3 : Int) := by omega
    have hl0 : (ss.take k).length = k := by rw [List.length_take]; omega
    obtain ⟨k1, hk1⟩ : ∃ j, j = k + 1 := ⟨_, rfl⟩
    have HK1 := Lib.hid hk1
    have hk1i : (k : Int) + 1 = (k1 : Int) := by omega
    have hk1a : (0 : Int) ≤ (k1 : Int) := by omega
    have hk1d : (k1 : Int) ≤ 301 := by omega
    have hkw : IntKind.i64.wrap (k1 : Int) = (k1 : Int) := by rw [IntKind.wrap_i64]; omega
    have hk1b : (k1 : Int) ≤ (ss.length : Int) := by omega
    have hk1c : (k1 : Int) ≤ (c3 : Int) := by omega
    have HSET := Lib.hid (show ss.take k ++ [x] ++ ss.drop k1 = ss.set k x by rw [hk1]; exact CodM.set_parts hkl x)
    obtain ⟨A3, hA3⟩ : ∃ A, A = (some ⟨b3, f3, none⟩ : Option Addr) := ⟨_, rfl⟩
    have HNA := Lib.hid (fun (e : A3 = none) => (show k = 0 ∧ c3 = 0 from by rw [hA3] at e; cases e))
    have hbelow := fun W (hW : Below W5.heap.size W5 W) (j : Nat) (hj : j < ss.length) => (hc3 j hj).below (chain hB5 hW) hb3
    have HAC := Lib.hid (fun W (hW : Below W5.heap.size W5 W) => (show ∀ ad, A3 = some ad → ∀ (j : Nat) (u : Value), (stsCs (ss.take k))[j]? = some u → W.cell? (ad.add j) = some u from by
      intro ad e j u hu
      rw [hA3] at e
      injection e with e
      rw [← e, Addr.add_lit]
      exact cells_of_sts (ss := ss.take k) (fun i hi => by rw [List.getElem_take]; exact hbelow W hW i (by rw [List.length_take] at hi; omega)) j u hu))
    obtain ⟨AD, hAD⟩ : ∃ A, A = (if c3 = k1 then A3 else Option.map (fun x => x.add (k1 * 5)) A3) := ⟨_, rfl⟩
    have HNB := Lib.hid (fun (e : AD = none) => (show ss.length - k1 = 0 ∧ c3 - k1 = 0 from by
      rw [hAD, hA3] at e
      by_cases hc : c3 = k1
      · omega
      · rw [if_neg hc] at e; cases e))
    have HBC := Lib.hid (fun W (hW : Below W5.heap.size W5 W) => (show ∀ ad, AD = some ad → ∀ (j : Nat) (u : Value), (stsCs (ss.drop k1))[j]? = some u → W.cell? (ad.add j) = some u from by
      intro ad e j u hu
      have h1 := (List.getElem?_eq_some_iff.1 hu).1
      rw [stsCs_len, List.length_drop] at h1
      rw [hAD, hA3, if_neg (by omega)] at e
      simp only [Option.map_some] at e
      injection e with e
      rw [← e, Addr.add_lit, Addr.add_lit]
      refine cells_of_sts (ss := ss.drop k1) (fun i hi => ?_) j u hu
      rw [List.getElem_drop, show f3 + k1 * 5 + i * 5 = f3 + (k1 + i) * 5 by omega]
      exact hbelow W hW (k1 + i) (by rw [List.length_drop] at hi; omega)))
    have HXX := Lib.hid hx
    rw [← hA3]
    clear hk1 hA3 hbelow hx hown hgrow hat hlt4 hgT2 k0 k1' kf p0 p1 x0 x1 HX6 HS6 HG6 HFZ HO6 HVC HV1' hi1 hy0 hy1 hy2 hg2 hs5 hx5 hown5 hb5 hs9 hW5 hgq HB6 c0 c1 hnr
    go_cut [] (fun wx => Below w.heap.size w wx ∧ PgBox wx gq (.slice P0 P.init.length d0) (.slice (some ⟨gT, 0, none⟩) P.ths.length capT) ∧ PgV wx.heap.size wx (.agg #[.slice P0 P.init.length d0, (.slice (some ⟨gT, 0, none⟩) P.ths.length capT)]) ⟨P.init, P.ths.set t (ss.set k x)⟩)
    case first =>
      refine wp_region_held_drew (S := (fun w' => (w'.cell? ⟨gq, 1, none⟩ = some (.slice (some ⟨gT, 0, none⟩) P.ths.length capT) ∧ w'.cell? ⟨g9, 0, none⟩ = some (.int .i64 x.op) ∧ w'.cell? ⟨g9, 1, none⟩ = some (.int .i64 x.reg) ∧ w'.cell? ⟨g9, 2, none⟩ = some (.int .i64 x.loc) ∧ w'.cell? ⟨g9, 3, none⟩ = some (.int .i64 x.n) ∧ w'.cell? ⟨g9, 4, none⟩ = some (.int .i64 x.5)) ∧ Below w.heap.size w w')) (by kernel_rfl) (HSW.out _ (below_drewN (Below.refl _ _) 1)) (fun hHeld => ?_)
      obtain ⟨X0, hX0⟩ : ∃ W, W = W5.drew := ⟨_, rfl⟩
      have HLX0 := Lib.hid (show Below W5.heap.size W5 X0 from by rw [hX0]; exact below_drewN (Below.refl _ _) 1)
      rw [← hX0] at hHeld ⊢
      clear hX0
      refine wpAnyH_take (i := 0) (v := ?_) rfl (by kernel_rfl) (by kernel_rfl) (by kernel_rfl) (fun _ _ _ h => h) (Or.inl ⟨by rfl, ?_⟩) (by assumption) ?_
      rotate_left
      · intro w hSw; (try dsimp only at hSw); go_simp; (try with_reducible rfl)
      (try simp only [Act.put, List.getElem_toArray, List.getElem_cons_zero, List.getElem_cons_succ, Array.getInternal_eq_getElem, List.setIfInBounds_toArray, List.set_cons_zero, List.set_cons_succ])
      refine wpAnyH_take (i := 1) (v := ?_) rfl (by kernel_rfl) (by kernel_rfl) (by kernel_rfl) (fun _ _ _ h => h) (Or.inl ⟨by rfl, ?_⟩) (by assumption) ?_
      rotate_left
      · intro w hSw; (try dsimp only at hSw); go_simp; (try with_reducible rfl)
      (try simp only [Act.put, List.getElem_toArray, List.getElem_cons_zero, List.getElem_cons_succ, Array.getInternal_eq_getElem, List.setIfInBounds_toArray, List.set_cons_zero, List.set_cons_succ])
      refine wpAnyH_take (i := 2) (v := ?_) rfl (by kernel_rfl) (by kernel_rfl) (by kernel_rfl) (fun _ _ _ h => h) (Or.inl ⟨by rfl, ?_⟩) (by assumption) ?_
      rotate_left
      · intro w hSw; (try dsimp only at hSw); go_simp; (try with_reducible rfl)
      (try simp only [Act.put, List.getElem_toArray, List.getElem_cons_zero, List.getElem_cons_succ, Array.getInternal_eq_getElem, List.setIfInBounds_toArray, List.set_cons_zero, List.set_cons_succ])
      refine wpAnyH_take (i := 4) (v := ?_) rfl (by kernel_rfl) (by kernel_rfl) (by kernel_rfl) (fun _ _ _ h => h) (Or.inl ⟨by rfl, ?_⟩) (by assumption) ?_
      rotate_left
      · intro w hSw; (try dsimp only at hSw); go_simp; (try with_reducible rfl)
      (try simp only [Act.put, List.getElem_toArray, List.getElem_cons_zero, List.getElem_cons_succ, Array.getInternal_eq_getElem, List.setIfInBounds_toArray, List.set_cons_zero, List.set_cons_succ])
      refine wpAnyH_take (i := 5) (v := ?_) rfl (by kernel_rfl) (by kernel_rfl) (by kernel_rfl) (fun _ _ _ h => h) (Or.inl ⟨by rfl, ?_⟩) (by assumption) ?_
      rotate_left
      · intro w hSw; (try dsimp only at hSw); go_simp; (try with_reducible rfl)
      (try simp only [Act.put, List.getElem_toArray, List.getElem_cons_zero, List.getElem_cons_succ, Array.getInternal_eq_getElem, List.setIfInBounds_toArray, List.set_cons_zero, List.set_cons_succ])
      refine wpAnyH_take (i := 6) (v := ?_) rfl (by kernel_rfl) (by kernel_rfl) (by kernel_rfl) (fun _ _ _ h => h) (Or.inl ⟨by rfl, ?_⟩) (by assumption) ?_
      rotate_left
      · intro w hSw; (try dsimp only at hSw); go_simp; (try with_reducible rfl)
      (try simp only [Act.put, List.getElem_toArray, List.getElem_cons_zero, List.getElem_cons_succ, Array.getInternal_eq_getElem, List.setIfInBounds_toArray, List.set_cons_zero, List.set_cons_succ])
      refine wpAnyH_take (i := 8) (v := ?_) rfl (by kernel_rfl) (by kernel_rfl) (by kernel_rfl) (fun _ _ _ h => h) (Or.inl ⟨by rfl, ?_⟩) (by assumption) ?_
      rotate_left
      · intro w hSw; (try dsimp only at hSw); go_simp; (try with_reducible rfl)
      (try simp only [Act.put, List.getElem_toArray, List.getElem_cons_zero, List.getElem_cons_succ, Array.getInternal_eq_getElem, List.setIfInBounds_toArray, List.set_cons_zero, List.set_cons_succ])
      refine wpAnyH_take (i := 11) (v := ?_) rfl (by kernel_rfl) (by kernel_rfl) (by kernel_rfl) (fun _ _ _ h => h) (Or.inl ⟨by rfl, ?_⟩) (by assumption) ?_
      rotate_left
      · intro w hSw; (try dsimp only at hSw); go_simp; (try with_reducible rfl)
      (try simp only [Act.put, List.getElem_toArray, List.getElem_cons_zero, List.getElem_cons_succ, Array.getInternal_eq_getElem, List.setIfInBounds_toArray, List.set_cons_zero, List.set_cons_succ])
      refine wpAnyH_take (i := 12) (v := ?_) rfl (by kernel_rfl) (by kernel_rfl) (by kernel_rfl) (fun _ _ _ h => h) (Or.inl ⟨by rfl, ?_⟩) (by assumption) ?_
      rotate_left
      · intro w hSw; (try dsimp only at hSw); go_simp; (try with_reducible rfl)
      (try simp only [Act.put, List.getElem_toArray, List.getElem_cons_zero, List.getElem_cons_succ, Array.getInternal_eq_getElem, List.setIfInBounds_toArray, List.set_cons_zero, List.set_cons_succ])
      refine wpAnyH_take (i := 13) (v := ?_) rfl (by kernel_rfl) (by kernel_rfl) (by kernel_rfl) (fun _ _ _ h => h) (Or.inl ⟨by rfl, ?_⟩) (by assumption) ?_
      rotate_left
      · intro w hSw; (try dsimp only at hSw); go_simp; (try with_reducible rfl)
      (try simp only [Act.put, List.getElem_toArray, List.getElem_cons_zero, List.getElem_cons_succ, Array.getInternal_eq_getElem, List.setIfInBounds_toArray, List.set_cons_zero, List.set_cons_succ])
      refine wpAnyH_take (i := 14) (v := ?_) rfl (by kernel_rfl) (by kernel_rfl) (by kernel_rfl) (fun _ _ _ h => h) (Or.inl ⟨by rfl, ?_⟩) (by assumption) ?_
      rotate_left
      · intro w hSw; (try dsimp only at hSw); go_simp; (try with_reducible rfl)
      (try simp only [Act.put, List.getElem_toArray, List.getElem_cons_zero, List.getElem_cons_succ, Array.getInternal_eq_getElem, List.setIfInBounds_toArray, List.set_cons_zero, List.set_cons_succ])
      refine wpAnyH_ready (rs := [3, 9]) (by kernel_rfl) (by simp) ?_
      refine AllReadyH.cons rfl (fun K hK => ?_) (AllReadyH.cons rfl (fun K hK => ?_) (AllReadyH.nil))
      · -- 3 first
        go_simp
        refine hK.out _ _ (HSW.out _ (below_al HLX0.out (.cells #[] 30))) (fun hHeld => ?_)
        clear hK K
        (try simp only [Act.put, List.getElem_toArray, List.getElem_cons_zero, List.getElem_cons_succ, Array.getInternal_eq_getElem, List.setIfInBounds_toArray, List.set_cons_zero, List.set_cons_succ])
        obtain ⟨X3, hX3⟩ : ∃ W, W = X0.alloc (.cells #[] 30) := ⟨_, rfl⟩
        have HLX3 := Lib.hid (show Below W5.heap.size W5 X3 from by rw [hX3]; exact below_al HLX0.out (.cells #[] 30))
        have HO := Lib.hid (show X3.ownsRow W5.heap.size 30 5 (.slice (some ⟨X0.heap.size, 0, none⟩) 0 0) 0 [] from by rw [hX3]; exact World.ownsRow_lit (base := W5.heap.size) (e := 30) (size := 5) X0 #[] 0 HLX0.out.size (by decide) rfl)
        have HS3 := Lib.hid (show X3.heap.size = X0.heap.size + 1 from by rw [hX3]; simp)
        rw [← hX3] at hHeld ⊢
        clear hX3
        rw [← hAD]
        clear hAD
        refine wpAnyH_ready (rs := [7, 9]) (by kernel_rfl) (by simp) ?_
        refine AllReadyH.cons rfl (fun K hK => ?_) (AllReadyH.cons rfl (fun K hK => ?_) (AllReadyH.nil))
        · -- 7 first
          refine step_append_src (by rfl) _ _ _ (by rfl) W5.heap.size 30 i0 (.agg #[.int .i64 0, .int .i64 0, .int .i64 0, .int .i64 0, .int .i64 0]) 5 40 Tryz.underlying28 hi0 hz0 hz1 hz2 (by rfl) (by decide) _ 0 [] (by rfl) HO.out A3 k c3 (stsCs (ss.take k)) (by rfl) (by rw [stsCs_len, hl0]) HNA.out (HAC.out _ HLX3.out) (stsCs_one _) (by unfold maxLen; omega) (by omega) HLX3.out.size (fun v1 w7 hown7 hg7 => ?_)
          simp only [Nat.zero_add, List.nil_append] at hown7
          have HLw7 := Lib.hid (below_append HLX3.out HO.out (Nat.le_refl _) HLX3.out.size hg7)
          replace HO := Lib.hid hown7
          clear hown7 hg7
          refine hK.out _ _ (HSW.out _ HLw7.out) (fun hHeld => ?_)
          clear hK K
          (try simp only [Act.put, List.getElem_toArray, List.getElem_cons_zero, List.getElem_cons_succ, Array.getInternal_eq_getElem, List.setIfInBounds_toArray, List.set_cons_zero, List.set_cons_succ])
          refine wpAnyH_ready (rs := [9]) (by kernel_rfl) (by simp) ?_
          refine AllReadyH.cons rfl (fun K hK => ?_) AllReadyH.nil
          go_simp
          refine hK.out _ _ (HSW.out _ (below_al HLw7.out (.cells #[.int .i64 x.op, .int .i64 x.reg, .int .i64 x.loc, .int .i64 x.n, .int .i64 x.5] 30))) (fun hHeld => ?_)
          clear hK K
          (try simp only [Act.put, List.getElem_toArray, List.getElem_cons_zero, List.getElem_cons_succ, Array.getInternal_eq_getElem, List.setIfInBounds_toArray, List.set_cons_zero, List.set_cons_succ])
          obtain ⟨X9, hX9⟩ : ∃ W, W = w7.alloc (.cells #[.int .i64 x.op, .int .i64 x.reg, .int .i64 x.loc, .int .i64 x.n, .int .i64 x.5] 30) := ⟨_, rfl⟩
          have HLX9 := Lib.hid (show Below W5.heap.size W5 X9 from by rw [hX9]; exact below_al HLw7.out (.cells #[.int .i64 x.op, .int .i64 x.reg, .int .i64 x.loc, .int .i64 x.n, .int .i64 x.5] 30))
          have HF := Lib.hid (fun (j : Nat) (u : Value) (h : (stsCs [x])[j]? = some u) => (show X9.cell? ⟨w7.heap.size, j, none⟩ = some u from by
            have e := World.news_of_block (heap_alloc_new w7 (.cells #[.int .i64 x.op, .int .i64 x.reg, .int .i64 x.loc, .int .i64 x.n, .int .i64 x.5] 30)) j u h
            rw [Addr.add_lit, Nat.zero_add] at e
            rw [hX9]; exact e))
          have HS9 := Lib.hid (show X9.heap.size = w7.heap.size + 1 from by rw [hX9]; simp)
          replace HO := Lib.hid (own_below HO.out (show Below w7.heap.size w7 X9 from by rw [hX9]; exact below_al (Below.refl _ _) (.cells #[.int .i64 x.op, .int .i64 x.reg, .int .i64 x.loc, .int .i64 x.n, .int .i64 x.5] 30)))
          rw [← hX9] at hHeld ⊢
          clear hX9
          refine wpAnyH_ready (rs := [10]) (by kernel_rfl) (by simp) ?_
          refine AllReadyH.cons rfl (fun K hK => ?_) AllReadyH.nil
          refine step_append_src (by rfl) _ _ _ (by rfl) W5.heap.size 30 i0 (.agg #[.int .i64 0, .int .i64 0, .int .i64 0, .int .i64 0, .int .i64 0]) 5 40 Tryz.underlying28 hi0 hz0 hz1 hz2 (by rfl) (by decide) _ k (stsCs (ss.take k)) (by rfl) HO.out (some ⟨w7.heap.size, 0, none⟩) 1 1 (stsCs [x]) (by rfl) (by rfl) (fun c => (by cases c)) (fun ad e j u h => by injection e with e; rw [← e, Addr.add_lit, Nat.zero_add]; exact HF.out j u h) (stsCs_one _) (by unfold maxLen; omega) (by omega) HLX9.out.size (fun v2 w10 hown10 hg10 => ?_)
          have HLw10 := Lib.hid (below_append HLX9.out HO.out (Nat.le_refl _) HLX9.out.size hg10)
          replace HO := Lib.hid hown10
          clear hown10 hg10 HF
          refine hK.out _ _ (HSW.out _ HLw10.out) (fun hHeld => ?_)
          clear hK K
          (try simp only [Act.put, List.getElem_toArray, List.getElem_cons_zero, List.getElem_cons_succ, Array.getInternal_eq_getElem, List.setIfInBounds_toArray, List.set_cons_zero, List.set_cons_succ])
          refine wpAnyH_ready (rs := [15]) (by kernel_rfl) (by simp) ?_
          refine AllReadyH.cons rfl (fun K hK => ?_) AllReadyH.nil
          refine step_append_src (by rfl) _ _ _ (by rfl) W5.heap.size 30 i0 (.agg #[.int .i64 0, .int .i64 0, .int .i64 0, .int .i64 0, .int .i64 0]) 5 40 Tryz.underlying28 hi0 hz0 hz1 hz2 (by rfl) (by decide) _ (k + 1) (stsCs (ss.take k) ++ stsCs [x]) (by rfl) HO.out AD (ss.length - k1) (c3 - k1) (stsCs (ss.drop k1)) (by rfl) (by rw [stsCs_len, List.length_drop]) HNB.out (HBC.out _ HLw10.out) (stsCs_one _) (by unfold maxLen; omega) (by omega) HLw10.out.size (fun v2 w15 hown15 hg15 => ?_)
          rw [show k + 1 + (ss.length - k1) = ss.length by have := HK1.out; omega, ← stsCs_app, ← stsCs_app, HSET.out] at hown15
          have HL15 := Lib.hid (below_append HLw10.out HO.out (Nat.le_refl _) HLw10.out.size hg15)
          obtain ⟨A8, c8, rfl⟩ := own_slice hown15
          have HO8 := Lib.hid hown15
          have hB8 := chain hB5 HL15.out
          have HT8 := Lib.hid (own_below HO5.out HL15.out)
          obtain ⟨old, hold⟩ : ∃ o, vs[t]? = some o := ⟨_, List.getElem?_eq_getElem (by omega)⟩
          have c9 : w15.cell? ⟨gT, t, none⟩ = some old := by rw [HT8.out.cellAt t (by omega)]; exact hold
          have f9 := HT8.out.frozenAt t
          have HS15 := Lib.hid (HSW.out _ HL15.out)
          clear hown15 hg15 HO hold
          refine hK.out _ _ HS15.out (fun hHeld => ?_)
          clear hK K
          (try simp only [Act.put, List.getElem_toArray, List.getElem_cons_zero, List.getElem_cons_succ, Array.getInternal_eq_getElem, List.setIfInBounds_toArray, List.set_cons_zero, List.set_cons_succ])
          refine wpAnyH_take (i := 16) (v := ?_) rfl (by kernel_rfl) (by kernel_rfl) (by kernel_rfl) (fun _ _ _ h => h) (Or.inl ⟨by rfl, ?_⟩) (by assumption) ?_
          rotate_left
          · intro w hSw; (try dsimp only at hSw); go_simp; (try with_reducible rfl)
          (try simp only [Act.put, List.getElem_toArray, List.getElem_cons_zero, List.getElem_cons_succ, Array.getInternal_eq_getElem, List.setIfInBounds_toArray, List.set_cons_zero, List.set_cons_succ])
          refine wpAnyH_ready (rs := [17]) (by kernel_rfl) (by simp) ?_
          refine AllReadyH.cons rfl (fun K hK => ?_) AllReadyH.nil
          go_simp
          refine hK.out _ _ ⟨⟨set_oth (.inl hneq) HS15.out.1.1, set_oth (.inl hne9T) HS15.out.1.2.1, set_oth (.inl hne9T) HS15.out.1.2.2.1, set_oth (.inl hne9T) HS15.out.1.2.2.2.1, set_oth (.inl hne9T) HS15.out.1.2.2.2.2.1, set_oth (.inl hne9T) HS15.out.1.2.2.2.2.2⟩, hB8.setCell (p := ⟨gT, t, none⟩) hglT _⟩ (fun hHeld => ?_)
          clear hK K
          (try simp only [Act.put, List.getElem_toArray, List.getElem_cons_zero, List.getElem_cons_succ, Array.getInternal_eq_getElem, List.setIfInBounds_toArray, List.set_cons_zero, List.set_cons_succ])
          refine wpAnyH_done (by kernel_rfl) ?_ _
          have HB9 := Lib.hid (hB8.setCell (p := ⟨gT, t, none⟩) hglT (.slice A8 ss.length c8))
          have HPL := Lib.hid (pg_set HB9.out HPM.out.1 hvl HVS.out (HT8.out.stored t (.slice A8 ss.length c8)).1 htl (sts_of_own (ss := ss.set k x) (by rw [List.length_set]; exact ownsRow_setCell_other HO8.out (fun e => by have := (HO8.out.lt _ e).1; change W5.heap.size ≤ gT at this; omega) _) (Nat.le_refl _)))
          have HG9 := Lib.hid ((HGB.out.below HL15.out).set (i := t) (v := .slice A8 ss.length c8) hneq)
          clear c9 f9 HT8 HO8 HO5 hHeld
          go_wp2_with fail
          go_meet
          exact ⟨HB9.out, HG9.out, HPL.out⟩
        · -- 9 first
          go_simp
          refine hK.out _ _ (HSW.out _ (below_al HLX3.out (.cells #[.int .i64 x.op, .int .i64 x.reg, .int .i64 x.loc, .int .i64 x.n, .int .i64 x.5] 30))) (fun hHeld => ?_)
          clear hK K
          (try simp only [Act.put, List.getElem_toArray, List.getElem_cons_zero, List.getElem_cons_succ, Array.getInternal_eq_getElem, List.setIfInBounds_toArray, List.set_cons_zero, List.set_cons_succ])
          obtain ⟨X9, hX9⟩ : ∃ W, W = X3.alloc (.cells #[.int .i64 x.op, .int .i64 x.reg, .int .i64 x.loc, .int .i64 x.n, .int .i64 x.5] 30) := ⟨_, rfl⟩
          have HLX9 := Lib.hid (show Below W5.heap.size W5 X9 from by rw [hX9]; exact below_al HLX3.out (.cells #[.int .i64 x.op, .int .i64 x.reg, .int .i64 x.loc, .int .i64 x.n, .int .i64 x.5] 30))
          have HF := Lib.hid (fun (j : Nat) (u : Value) (h : (stsCs [x])[j]? = some u) => (show X9.cell? ⟨X3.heap.size, j, none⟩ = some u from by
            have e := World.news_of_block (heap_alloc_new X3 (.cells #[.int .i64 x.op, .int .i64 x.reg, .int .i64 x.loc, .int .i64 x.n, .int .i64 x.5] 30)) j u h
            rw [Addr.add_lit, Nat.zero_add] at e
            rw [hX9]; exact e))
          have HS9 := Lib.hid (show X9.heap.size = X3.heap.size + 1 from by rw [hX9]; simp)
          replace HO := Lib.hid (own_below HO.out (show Below X3.heap.size X3 X9 from by rw [hX9]; exact below_al (Below.refl _ _) (.cells #[.int .i64 x.op, .int .i64 x.reg, .int .i64 x.loc, .int .i64 x.n, .int .i64 x.5] 30)))
          rw [← hX9] at hHeld ⊢
          clear hX9
          refine wpAnyH_ready (rs := [7]) (by kernel_rfl) (by simp) ?_
          refine AllReadyH.cons rfl (fun K hK => ?_) AllReadyH.nil
          refine step_append_src (by rfl) _ _ _ (by rfl) W5.heap.size 30 i0 (.agg #[.int .i64 0, .int .i64 0, .int .i64 0, .int .i64 0, .int .i64 0]) 5 40 Tryz.underlying28 hi0 hz0 hz1 hz2 (by rfl) (by decide) _ 0 [] (by rfl) HO.out A3 k c3 (stsCs (ss.take k)) (by rfl) (by rw [stsCs_len, hl0]) HNA.out (HAC.out _ HLX9.out) (stsCs_one _) (by unfold maxLen; omega) (by omega) HLX9.out.size (fun v1 w7 hown7 hg7 => ?_)
          simp only [Nat.zero_add, List.nil_append] at hown7
          have HLw7 := Lib.hid (below_append HLX9.out HO.out (Nat.le_refl _) HLX9.out.size hg7)
          replace HF := Lib.hid (fun (j : Nat) (u : Value) (h : (stsCs [x])[j]? = some u) => hg7.cell (HF.out j u h) (show some X3.heap.size ≠ some X0.heap.size from fun e => by injection e with e; have h3 := HS3.out; have h9 := HS9.out; omega))
          replace HO := Lib.hid hown7
          clear hown7 hg7
          refine hK.out _ _ (HSW.out _ HLw7.out) (fun hHeld => ?_)
          clear hK K
          (try simp only [Act.put, List.getElem_toArray, List.getElem_cons_zero, List.getElem_cons_succ, Array.getInternal_eq_getElem, List.setIfInBounds_toArray, List.set_cons_zero, List.set_cons_succ])
          refine wpAnyH_ready (rs := [10]) (by kernel_rfl) (by simp) ?_
          refine AllReadyH.cons rfl (fun K hK => ?_) AllReadyH.nil
          refine step_append_src (by rfl) _ _ _ (by rfl) W5.heap.size 30 i0 (.agg #[.int .i64 0, .int .i64 0, .int .i64 0, .int .i64 0, .int .i64 0]) 5 40 Tryz.underlying28 hi0 hz0 hz1 hz2 (by rfl) (by decide) _ k (stsCs (ss.take k)) (by rfl) HO.out (some ⟨X3.heap.size, 0, none⟩) 1 1 (stsCs [x]) (by rfl) (by rfl) (fun c => (by cases c)) (fun ad e j u h => by injection e with e; rw [← e, Addr.add_lit, Nat.zero_add]; exact HF.out j u h) (stsCs_one _) (by unfold maxLen; omega) (by omega) HLw7.out.size (fun v2 w10 hown10 hg10 => ?_)
          have HLw10 := Lib.hid (below_append HLw7.out HO.out (Nat.le_refl _) HLw7.out.size hg10)
          replace HO := Lib.hid hown10
          clear hown10 hg10 HF
          refine hK.out _ _ (HSW.out _ HLw10.out) (fun hHeld => ?_)
          clear hK K
          (try simp only [Act.put, List.getElem_toArray, List.getElem_cons_zero, List.getElem_cons_succ, Array.getInternal_eq_getElem, List.setIfInBounds_toArray, List.set_cons_zero, List.set_cons_succ])
          refine wpAnyH_ready (rs := [15]) (by kernel_rfl) (by simp) ?_
          refine AllReadyH.cons rfl (fun K hK => ?_) AllReadyH.nil
          refine step_append_src (by rfl) _ _ _ (by rfl) W5.heap.size 30 i0 (.agg #[.int .i64 0, .int .i64 0, .int .i64 0, .int .i64 0, .int .i64 0]) 5 40 Tryz.underlying28 hi0 hz0 hz1 hz2 (by rfl) (by decide) _ (k + 1) (stsCs (ss.take k) ++ stsCs [x]) (by rfl) HO.out AD (ss.length - k1) (c3 - k1) (stsCs (ss.drop k1)) (by rfl) (by rw [stsCs_len, List.length_drop]) HNB.out (HBC.out _ HLw10.out) (stsCs_one _) (by unfold maxLen; omega) (by omega) HLw10.out.size (fun v2 w15 hown15 hg15 => ?_)
          rw [show k + 1 + (ss.length - k1) = ss.length by have := HK1.out; omega, ← stsCs_app, ← stsCs_app, HSET.out] at hown15
          have HL15 := Lib.hid (below_append HLw10.out HO.out (Nat.le_refl _) HLw10.out.size hg15)
          obtain ⟨A8, c8, rfl⟩ := own_slice hown15
          have HO8 := Lib.hid hown15
          have hB8 := chain hB5 HL15.out
          have HT8 := Lib.hid (own_below HO5.out HL15.out)
          obtain ⟨old, hold⟩ : ∃ o, vs[t]? = some o := ⟨_, List.getElem?_eq_getElem (by omega)⟩
          have c9 : w15.cell? ⟨gT, t, none⟩ = some old := by rw [HT8.out.cellAt t (by omega)]; exact hold
          have f9 := HT8.out.frozenAt t
          have HS15 := Lib.hid (HSW.out _ HL15.out)
          clear hown15 hg15 HO hold
          refine hK.out _ _ HS15.out (fun hHeld => ?_)
          clear hK K
          (try simp only [Act.put, List.getElem_toArray, List.getElem_cons_zero, List.getElem_cons_succ, Array.getInternal_eq_getElem, List.setIfInBounds_toArray, List.set_cons_zero, List.set_cons_succ])
          refine wpAnyH_take (i := 16) (v := ?_) rfl (by kernel_rfl) (by kernel_rfl) (by kernel_rfl) (fun _ _ _ h => h) (Or.inl ⟨by rfl, ?_⟩) (by assumption) ?_
          rotate_left
          · intro w hSw; (try dsimp only at hSw); go_simp; (try with_reducible rfl)
          (try simp only [Act.put, List.getElem_toArray, List.getElem_cons_zero, List.getElem_cons_succ, Array.getInternal_eq_getElem, List.setIfInBounds_toArray, List.set_cons_zero, List.set_cons_succ])
          refine wpAnyH_ready (rs := [17]) (by kernel_rfl) (by simp) ?_
          refine AllReadyH.cons rfl (fun K hK => ?_) AllReadyH.nil
          go_simp
          refine hK.out _ _ ⟨⟨set_oth (.inl hneq) HS15.out.1.1, set_oth (.inl hne9T) HS15.out.1.2.1, set_oth (.inl hne9T) HS15.out.1.2.2.1, set_oth (.inl hne9T) HS15.out.1.2.2.2.1, set_oth (.inl hne9T) HS15.out.1.2.2.2.2.1, set_oth (.inl hne9T) HS15.out.1.2.2.2.2.2⟩, hB8.setCell (p := ⟨gT, t, none⟩) hglT _⟩ (fun hHeld => ?_)
          clear hK K
          (try simp only [Act.put, List.getElem_toArray, List.getElem_cons_zero, List.getElem_cons_succ, Array.getInternal_eq_getElem, List.setIfInBounds_toArray, List.set_cons_zero, List.set_cons_succ])
          refine wpAnyH_done (by kernel_rfl) ?_ _
          have HB9 := Lib.hid (hB8.setCell (p := ⟨gT, t, none⟩) hglT (.slice A8 ss.length c8))
          have HPL := Lib.hid (pg_set HB9.out HPM.out.1 hvl HVS.out (HT8.out.stored t (.slice A8 ss.length c8)).1 htl (sts_of_own (ss := ss.set k x) (by rw [List.length_set]; exact ownsRow_setCell_other HO8.out (fun e => by have := (HO8.out.lt _ e).1; change W5.heap.size ≤ gT at this; omega) _) (Nat.le_refl _)))
          have HG9 := Lib.hid ((HGB.out.below HL15.out).set (i := t) (v := .slice A8 ss.length c8) hneq)
          clear c9 f9 HT8 HO8 HO5 hHeld
          go_wp2_with fail
          go_meet
          exact ⟨HB9.out, HG9.out, HPL.out⟩
      · -- 9 first
        go_simp
        refine hK.out _ _ (HSW.out _ (below_al HLX0.out (.cells #[.int .i64 x.op, .int .i64 x.reg, .int .i64 x.loc, .int .i64 x.n, .int .i64 x.5] 30))) (fun hHeld => ?_)
        clear hK K
        (try simp only [Act.put, List.getElem_toArray, List.getElem_cons_zero, List.getElem_cons_succ, Array.getInternal_eq_getElem, List.setIfInBounds_toArray, List.set_cons_zero, List.set_cons_succ])
        obtain ⟨X9, hX9⟩ : ∃ W, W = X0.alloc (.cells #[.int .i64 x.op, .int .i64 x.reg, .int .i64 x.loc, .int .i64 x.n, .int .i64 x.5] 30) := ⟨_, rfl⟩
        have HLX9 := Lib.hid (show Below W5.heap.size W5 X9 from by rw [hX9]; exact below_al HLX0.out (.cells #[.int .i64 x.op, .int .i64 x.reg, .int .i64 x.loc, .int .i64 x.n, .int .i64 x.5] 30))
        have HF := Lib.hid (fun (j : Nat) (u : Value) (h : (stsCs [x])[j]? = some u) => (show X9.cell? ⟨X0.heap.size, j, none⟩ = some u from by
          have e := World.news_of_block (heap_alloc_new X0 (.cells #[.int .i64 x.op, .int .i64 x.reg, .int .i64 x.loc, .int .i64 x.n, .int .i64 x.5] 30)) j u h
          rw [Addr.add_lit, Nat.zero_add] at e
          rw [hX9]; exact e))
        have HS9 := Lib.hid (show X9.heap.size = X0.heap.size + 1 from by rw [hX9]; simp)
        rw [← hX9] at hHeld ⊢
        clear hX9
        rw [← hAD]
        clear hAD
        refine wpAnyH_ready (rs := [3]) (by kernel_rfl) (by simp) ?_
        refine AllReadyH.cons rfl (fun K hK => ?_) AllReadyH.nil
        go_simp
        refine hK.out _ _ (HSW.out _ (below_al HLX9.out (.cells #[] 30))) (fun hHeld => ?_)
        clear hK K
        (try simp only [Act.put, List.getElem_toArray, List.getElem_cons_zero, List.getElem_cons_succ, Array.getInternal_eq_getElem, List.setIfInBounds_toArray, List.set_cons_zero, List.set_cons_succ])
        obtain ⟨X3, hX3⟩ : ∃ W, W = X9.alloc (.cells #[] 30) := ⟨_, rfl⟩
        have HLX3 := Lib.hid (show Below W5.heap.size W5 X3 from by rw [hX3]; exact below_al HLX9.out (.cells #[] 30))
        have HO := Lib.hid (show X3.ownsRow W5.heap.size 30 5 (.slice (some ⟨X9.heap.size, 0, none⟩) 0 0) 0 [] from by rw [hX3]; exact World.ownsRow_lit (base := W5.heap.size) (e := 30) (size := 5) X9 #[] 0 HLX9.out.size (by decide) rfl)
        have HS3 := Lib.hid (show X3.heap.size = X9.heap.size + 1 from by rw [hX3]; simp)
        replace HF := Lib.hid (fun (j : Nat) (u : Value) (h : (stsCs [x])[j]? = some u) => (show X3.cell? ⟨X0.heap.size, j, none⟩ = some u from by rw [hX3]; exact kc (below_al (Below.refl _ _) (.cells #[] 30)) (HF.out j u h)))
        rw [← hX3] at hHeld ⊢
        clear hX3
        refine wpAnyH_ready (rs := [7]) (by kernel_rfl) (by simp) ?_
        refine AllReadyH.cons rfl (fun K hK => ?_) AllReadyH.nil
        refine step_append_src (by rfl) _ _ _ (by rfl) W5.heap.size 30 i0 (.agg #[.int .i64 0, .int .i64 0, .int .i64 0, .int .i64 0, .int .i64 0]) 5 40 Tryz.underlying28 hi0 hz0 hz1 hz2 (by rfl) (by decide) _ 0 [] (by rfl) HO.out A3 k c3 (stsCs (ss.take k)) (by rfl) (by rw [stsCs_len, hl0]) HNA.out (HAC.out _ HLX3.out) (stsCs_one _) (by unfold maxLen; omega) (by omega) HLX3.out.size (fun v1 w7 hown7 hg7 => ?_)
        simp only [Nat.zero_add, List.nil_append] at hown7
        have HLw7 := Lib.hid (below_append HLX3.out HO.out (Nat.le_refl _) HLX3.out.size hg7)
        replace HF := Lib.hid (fun (j : Nat) (u : Value) (h : (stsCs [x])[j]? = some u) => hg7.cell (HF.out j u h) (show some X0.heap.size ≠ some X9.heap.size from fun e => by injection e with e; have h3 := HS3.out; have h9 := HS9.out; omega))
        replace HO := Lib.hid hown7
        clear hown7 hg7
        refine hK.out _ _ (HSW.out _ HLw7.out) (fun hHeld => ?_)
        clear hK K
        (try simp only [Act.put, List.getElem_toArray, List.getElem_cons_zero, List.getElem_cons_succ, Array.getInternal_eq_getElem, List.setIfInBounds_toArray, List.set_cons_zero, List.set_cons_succ])
        refine wpAnyH_ready (rs := [10]) (by kernel_rfl) (by simp) ?_
        refine AllReadyH.cons rfl (fun K hK => ?_) AllReadyH.nil
        refine step_append_src (by rfl) _ _ _ (by rfl) W5.heap.size 30 i0 (.agg #[.int .i64 0, .int .i64 0, .int .i64 0, .int .i64 0, .int .i64 0]) 5 40 Tryz.underlying28 hi0 hz0 hz1 hz2 (by rfl) (by decide) _ k (stsCs (ss.take k)) (by rfl) HO.out (some ⟨X0.heap.size, 0, none⟩) 1 1 (stsCs [x]) (by rfl) (by rfl) (fun c => (by cases c)) (fun ad e j u h => by injection e with e; rw [← e, Addr.add_lit, Nat.zero_add]; exact HF.out j u h) (stsCs_one _) (by unfold maxLen; omega) (by omega) HLw7.out.size (fun v2 w10 hown10 hg10 => ?_)
        have HLw10 := Lib.hid (below_append HLw7.out HO.out (Nat.le_refl _) HLw7.out.size hg10)
        replace HO := Lib.hid hown10
        clear hown10 hg10 HF
        refine hK.out _ _ (HSW.out _ HLw10.out) (fun hHeld => ?_)
        clear hK K
        (try simp only [Act.put, List.getElem_toArray, List.getElem_cons_zero, List.getElem_cons_succ, Array.getInternal_eq_getElem, List.setIfInBounds_toArray, List.set_cons_zero, List.set_cons_succ])
        refine wpAnyH_ready (rs := [15]) (by kernel_rfl) (by simp) ?_
        refine AllReadyH.cons rfl (fun K hK => ?_) AllReadyH.nil
        refine step_append_src (by rfl) _ _ _ (by rfl) W5.heap.size 30 i0 (.agg #[.int .i64 0, .int .i64 0, .int .i64 0, .int .i64 0, .int .i64 0]) 5 40 Tryz.underlying28 hi0 hz0 hz1 hz2 (by rfl) (by decide) _ (k + 1) (stsCs (ss.take k) ++ stsCs [x]) (by rfl) HO.out AD (ss.length - k1) (c3 - k1) (stsCs (ss.drop k1)) (by rfl) (by rw [stsCs_len, List.length_drop]) HNB.out (HBC.out _ HLw10.out) (stsCs_one _) (by unfold maxLen; omega) (by omega) HLw10.out.size (fun v2 w15 hown15 hg15 => ?_)
        rw [show k + 1 + (ss.length - k1) = ss.length by have := HK1.out; omega, ← stsCs_app, ← stsCs_app, HSET.out] at hown15
        have HL15 := Lib.hid (below_append HLw10.out HO.out (Nat.le_refl _) HLw10.out.size hg15)
        obtain ⟨A8, c8, rfl⟩ := own_slice hown15
        have HO8 := Lib.hid hown15
        have hB8 := chain hB5 HL15.out
        have HT8 := Lib.hid (own_below HO5.out HL15.out)
        obtain ⟨old, hold⟩ : ∃ o, vs[t]? = some o := ⟨_, List.getElem?_eq_getElem (by omega)⟩
        have c9 : w15.cell? ⟨gT, t, none⟩ = some old := by rw [HT8.out.cellAt t (by omega)]; exact hold
        have f9 := HT8.out.frozenAt t
        have HS15 := Lib.hid (HSW.out _ HL15.out)
        clear hown15 hg15 HO hold
        refine hK.out _ _ HS15.out (fun hHeld => ?_)
        clear hK K
        (try simp only [Act.put, List.getElem_toArray, List.getElem_cons_zero, List.getElem_cons_succ, Array.getInternal_eq_getElem, List.setIfInBounds_toArray, List.set_cons_zero, List.set_cons_succ])
        refine wpAnyH_take (i := 16) (v := ?_) rfl (by kernel_rfl) (by kernel_rfl) (by kernel_rfl) (fun _ _ _ h => h) (Or.inl ⟨by rfl, ?_⟩) (by assumption) ?_
        rotate_left
        · intro w hSw; (try dsimp only at hSw); go_simp; (try with_reducible rfl)
        (try simp only [Act.put, List.getElem_toArray, List.getElem_cons_zero, List.getElem_cons_succ, Array.getInternal_eq_getElem, List.setIfInBounds_toArray, List.set_cons_zero, List.set_cons_succ])
        refine wpAnyH_ready (rs := [17]) (by kernel_rfl) (by simp) ?_
        refine AllReadyH.cons rfl (fun K hK => ?_) AllReadyH.nil
        go_simp
        refine hK.out _ _ ⟨⟨set_oth (.inl hneq) HS15.out.1.1, set_oth (.inl hne9T) HS15.out.1.2.1, set_oth (.inl hne9T) HS15.out.1.2.2.1, set_oth (.inl hne9T) HS15.out.1.2.2.2.1, set_oth (.inl hne9T) HS15.out.1.2.2.2.2.1, set_oth (.inl hne9T) HS15.out.1.2.2.2.2.2⟩, hB8.setCell (p := ⟨gT, t, none⟩) hglT _⟩ (fun hHeld => ?_)
        clear hK K
        (try simp only [Act.put, List.getElem_toArray, List.getElem_cons_zero, List.getElem_cons_succ, Array.getInternal_eq_getElem, List.setIfInBounds_toArray, List.set_cons_zero, List.set_cons_succ])
        refine wpAnyH_done (by kernel_rfl) ?_ _
        have HB9 := Lib.hid (hB8.setCell (p := ⟨gT, t, none⟩) hglT (.slice A8 ss.length c8))
        have HPL := Lib.hid (pg_set HB9.out HPM.out.1 hvl HVS.out (HT8.out.stored t (.slice A8 ss.length c8)).1 htl (sts_of_own (ss := ss.set k x) (by rw [List.length_set]; exact ownsRow_setCell_other HO8.out (fun e => by have := (HO8.out.lt _ e).1; change W5.heap.size ≤ gT at this; omega) _) (Nat.le_refl _)))
        have HG9 := Lib.hid ((HGB.out.below HL15.out).set (i := t) (v := .slice A8 ss.length c8) hneq)
        clear c9 f9 HT8 HO8 HO5 hHeld
        go_wp2_with fail
        go_meet
        exact ⟨HB9.out, HG9.out, HPL.out⟩
    case rest =>
    obtain ⟨hBf, hGf, hPf⟩ := hcut
    have HNO := Lib.hid (CodM.set_no (x := x) htl (by rw [← HX.out]; exact hkl) (by rw [HXX.out, ← HX.out]; exact CodM.spoil_no _ _ _ _ _))
    have HRf := Lib.hid (cright_any wc (HG.out.below hBf) hPf (Nat.le_refl _) (by show P.init.length ≤ 1000000; omega) (by show (P.ths.set t (ss.set k x)).length ≤ 1000000; rw [List.length_set]; omega))
    replace HRf := Lib.hid (by have h := HRf.out; rw [show rightP ⟨P.init, P.ths.set t (ss.set k x)⟩ = false by rw [HX.out]; exact HNO.out] at h; exact h)
    obtain ⟨y0, y1⟩ := hGf
    go_wp2_with fail
    refine HRf.out.mono ?_
    rintro e wz ⟨rfl, hbz⟩
    have hBz := chain hBf hbz
    clear hbz HRf y0 y1
    go_wp2
    go_ret
    exact ⟨rfl, hBz⟩
  · have hqf : rightP P = false := by simpa using hq
    rw [hqf]
    clear hq hqf
    go_wp2
    go_ret
    exact ⟨rfl, hB⟩
end Go.Proofs.YtaelfjphgdlbcaaGreatDoor
