/-
  OpsAtom, as a walk over any world that holds the registers: it returns true.
-/
import Derived.Test.YtgfhigcmcanbaaaDoorLawL
namespace Go.Proofs.YtgfhigcmcanbaaaDoor
open Go.RowKit
set_option linter.unusedVariables false
open WordM (L)

/-- An atom got from its word: itself, if it is right; else nothing. -/
theorem atom_own (t n : Int) (nm : L) (hn : NumM.inR n) : AtomM.atom (AtomM.word t nm n) = if AtomM.asked t nm then (⟨t, nm, n⟩, true) else (AtomM.zero, false) := by
  cases h : AtomM.asked t nm with
  | true => exact AtomM.atom_word (a := ⟨t, nm, n⟩) h hn
  | false =>
    have := AtomM.word_wrong (a := ⟨t, nm, n⟩) h
    rw [show AtomM.word t nm n = [] from this]
    rcases AtomM.atom_spec [] with ⟨h1, h2, _⟩ | ⟨h3, _⟩
    · exact absurd h2 (AtomM.word_ne h1)
    · exact h3
theorem aword_empty (t n : Int) (nm : L) : decide (AtomM.word t nm n = []) = !AtomM.asked t nm := by
  cases h : AtomM.asked t nm with
  | true => exact decide_eq_false (AtomM.word_ne (a := ⟨t, nm, n⟩) h)
  | false => exact decide_eq_true (AtomM.word_wrong (a := ⟨t, nm, n⟩) h)
theorem aword_len (t n : Int) (nm : L) (hn : NumM.inR n) (h : nm.length ≤ 1000) : (AtomM.word t nm n).length ≤ 2000 := by
  have h1 := NumM.text_len n hn
  cases hk : AtomM.asked t nm with
  | false => rw [show AtomM.word t nm n = [] from AtomM.word_wrong (a := ⟨t, nm, n⟩) hk]; exact Nat.zero_le _
  | true =>
    rw [show AtomM.word t nm n = AtomM.wordR t nm n from AtomM.word_asked (a := ⟨t, nm, n⟩) hk]
    rcases AtomM.asked_cases (a := ⟨t, nm, n⟩) hk with ⟨ht, _⟩ | ⟨ht, _⟩
    · unfold AtomM.wordR; rw [if_pos ht]; simp; omega
    · have ht2 := AtomM.thread_text ht
      unfold AtomM.wordR; rw [if_neg ht2.2.2, ht2.1]; simp; omega

set_option maxHeartbeats 4000000 in
set_option maxRecDepth 100000 in
theorem atomlaw_any (t n : Int) (nm s : ByteArray) (w : World) (hr : Regs w) (hn : NumM.inR n) :
    Calls Tryd.prog 5 #[atv t nm n, .string s] w fun e w' => e = .returned (.bool true) ∧ Below w.heap.size w w' := by
  have HR := Lib.hid hr
  have HH := Lib.hid (fun W h => head_any W h)
  have hB := Below.refl w.heap.size w
  clear hr
  by_cases hg1 : 1000 < nm.size
  · have q1 : decide ((1000 : Int) < (nm.size : Int)) = true := decide_eq_true (by omega)
    clear hg1
    unfold atv at *

    go_enter Tryd.func5, Tryd.ntmps5
    go_wp2_with fail
    refine (HH.out _ (HR.out.below (below_al hB _))).mono ?_
    rintro e wk1 ⟨rfl, hb⟩
    have Ha := Lib.hid ((AtBox.at (g := w.heap.size) (by simp) t n nm 26).below hb)
    replace hB := chain (below_al hB _) hb
    obtain ⟨a0, a1, a2⟩ := Ha.out
    have za := lt_of_cell a0
    go_wp2
    go_ret
    exact ⟨rfl, hB⟩
  · have q1 : decide ((1000 : Int) < (nm.size : Int)) = false := decide_eq_false (by omega)
    by_cases hg2 : 1000 < s.size
    · have q2 : decide ((1000 : Int) < (s.size : Int)) = true := decide_eq_true (by omega)
      clear hg1 hg2
      unfold atv at *

      go_enter Tryd.func5, Tryd.ntmps5
      go_wp2_with fail
      refine (HH.out _ (HR.out.below (below_al hB _))).mono ?_
      rintro e wk1 ⟨rfl, hb⟩
      have Ha := Lib.hid ((AtBox.at (g := w.heap.size) (by simp) t n nm 26).below hb)
      replace hB := chain (below_al hB _) hb
      obtain ⟨a0, a1, a2⟩ := Ha.out
      have za := lt_of_cell a0
      go_wp2
      go_ret
      exact ⟨rfl, hB⟩
    · have q2 : decide ((1000 : Int) < (s.size : Int)) = false := decide_eq_false (by omega)
      have z : nm.data.toList.length ≤ 1000 := by rw [← Lib.size_eq]; omega
      have z2 : s.data.toList.length ≤ 1000 := by rw [← Lib.size_eq]; omega
      have HW := Lib.hid (fun W h => aword_any t n nm W h hn (by omega))
      have HK := Lib.hid (fun W h => asked_any t n nm W h)
      have hsm := aword_len t n nm.data.toList hn z
      have hem := aword_empty t n nm.data.toList
      have hgo := atom_own t n nm.data.toList hn
      have hpr := AtomM.atom_spec s.data.toList
      have hra := AtomM.guess_range s.data.toList
      have hml := guess_len s.data.toList 1000 z2
      have HG0 := fun W (hr : Regs W) => atom_any s W hr (by omega)
      generalize AtomM.word t nm.data.toList n = ws at *
      generalize AtomM.asked t nm.data.toList = rb at *
      have HG1 : ∀ W, Regs W → Calls Tryd.prog 14 #[.string ⟨ws.toArray⟩] W fun e w' => e = .returned (.tuple #[atw (AtomM.atom ws).1, .bool (AtomM.atom ws).2]) ∧ Below W.heap.size W w' := fun W (hr : Regs W) => atom_any ⟨ws.toArray⟩ W hr (by rw [size_l]; omega)
      rw [hgo] at HG1
      generalize AtomM.atom s.data.toList = g2 at *
      generalize AtomM.guess s.data.toList = y at *
      have HRy := fun W h => askedw_any y W h
      have HWy := fun W h => awordw_any y W h hra (by omega)
      have hemp : ((⟨ws.toArray⟩ : ByteArray).toList = []) = (ws = []) := by rw [Lib.toList_data]
      clear hg1 hg2 hgo hsm z z2 hra hml
      unfold atw atv at *

      cases rb
      · skip
        have hne : (⟨ws.toArray⟩ : ByteArray).toList = [] := by rw [hemp]; simpa using hem
        clear hem hemp
        have HG1' := Lib.hid HG1
        clear HG1
        generalize (⟨ws.toArray⟩ : ByteArray) = sw at *
        rcases hpr with ⟨hy1, hy2, rfl⟩ | ⟨rfl, _⟩
        · skip
          rw [hy1] at HRy
          rw [hy2] at HWy
          have HRy' := Lib.hid HRy
          have HWy' := Lib.hid HWy
          clear HRy HWy hy1 hy2
          have HG0' := Lib.hid HG0
          clear HG0
          go_enter Tryd.func5, Tryd.ntmps5
          go_wp2_with fail
          refine (HH.out _ (HR.out.below (below_al hB _))).mono ?_
          rintro e wk1 ⟨rfl, hb⟩
          have Ha := Lib.hid ((AtBox.at (g := w.heap.size) (by simp) t n nm 26).below hb)
          replace hB := chain (below_al hB _) hb
          obtain ⟨a0, a1, a2⟩ := Ha.out
          have za := lt_of_cell a0
          go_wp2_with fail
          refine (HW.out _ (HR.out.below hB)).mono ?_
          rintro e wk2 ⟨rfl, hb⟩
          clear za a0 a1 a2
          replace Ha := Lib.hid (Ha.out.below hb)
          replace hB := chain hB hb
          obtain ⟨a0, a1, a2⟩ := Ha.out
          have za := lt_of_cell a0
          go_wp2_with fail
          refine (HG1'.out _ (HR.out.below hB)).mono ?_
          rintro e wk3 ⟨rfl, hb⟩
          clear za a0 a1 a2
          replace Ha := Lib.hid (Ha.out.below hb)
          replace hB := chain hB hb
          obtain ⟨a0, a1, a2⟩ := Ha.out
          have za := lt_of_cell a0
          go_wp2_with fail
          refine (HK.out _ (HR.out.below (below_al hB _))).mono ?_
          rintro e wk4 ⟨rfl, hb⟩
          clear za a0 a1 a2
          replace Ha := Lib.hid ((Ha.out.alloc _).below hb)
          have Hx := Lib.hid ((AtBox.at (g := wk3.heap.size) (by simp) 0 0 ⟨#[]⟩ 26).below hb)
          replace hB := chain (below_al hB _) hb
          obtain ⟨a0, a1, a2⟩ := Ha.out
          have za := lt_of_cell a0
          obtain ⟨x0, x1, x2⟩ := Hx.out
          have zx := lt_of_cell x0
          go_wp2_with fail
          refine (HG0'.out _ (HR.out.below hB)).mono ?_
          rintro e wk5 ⟨rfl, hb⟩
          clear za a0 a1 a2
          clear zx x0 x1 x2
          replace Ha := Lib.hid (Ha.out.below hb)
          replace Hx := Lib.hid (Hx.out.below hb)
          replace hB := chain hB hb
          obtain ⟨a0, a1, a2⟩ := Ha.out
          have za := lt_of_cell a0
          obtain ⟨x0, x1, x2⟩ := Hx.out
          have zx := lt_of_cell x0
          go_wp2_with fail
          refine (HRy'.out _ (HR.out.below (below_al hB _))).mono ?_
          rintro e wk6 ⟨rfl, hb⟩
          clear za a0 a1 a2
          clear zx x0 x1 x2
          replace Ha := Lib.hid ((Ha.out.alloc _).below hb)
          replace Hx := Lib.hid ((Hx.out.alloc _).below hb)
          have Hy := Lib.hid ((AtBox.at (g := wk5.heap.size) (by simp) y.t y.n ⟨y.nm.toArray⟩ 26).below hb)
          replace hB := chain (below_al hB _) hb
          obtain ⟨a0, a1, a2⟩ := Ha.out
          have za := lt_of_cell a0
          obtain ⟨x0, x1, x2⟩ := Hx.out
          have zx := lt_of_cell x0
          obtain ⟨y0, y1, y2⟩ := Hy.out
          have zy := lt_of_cell y0
          go_wp2_with fail
          refine (HWy'.out _ (HR.out.below hB)).mono ?_
          rintro e wk7 ⟨rfl, hb⟩
          clear za a0 a1 a2
          clear zx x0 x1 x2
          clear zy y0 y1 y2
          replace Ha := Lib.hid (Ha.out.below hb)
          replace Hx := Lib.hid (Hx.out.below hb)
          replace Hy := Lib.hid (Hy.out.below hb)
          replace hB := chain hB hb
          obtain ⟨a0, a1, a2⟩ := Ha.out
          have za := lt_of_cell a0
          obtain ⟨x0, x1, x2⟩ := Hx.out
          have zx := lt_of_cell x0
          obtain ⟨y0, y1, y2⟩ := Hy.out
          have zy := lt_of_cell y0
          go_wp2
          go_ret
          exact ⟨rfl, hB⟩
        · skip
          clear HRy HWy
          have HG0' := Lib.hid HG0
          clear HG0
          go_enter Tryd.func5, Tryd.ntmps5
          go_wp2_with fail
          refine (HH.out _ (HR.out.below (below_al hB _))).mono ?_
          rintro e wk1 ⟨rfl, hb⟩
          have Ha := Lib.hid ((AtBox.at (g := w.heap.size) (by simp) t n nm 26).below hb)
          replace hB := chain (below_al hB _) hb
          obtain ⟨a0, a1, a2⟩ := Ha.out
          have za := lt_of_cell a0
          go_wp2_with fail
          refine (HW.out _ (HR.out.below hB)).mono ?_
          rintro e wk2 ⟨rfl, hb⟩
          clear za a0 a1 a2
          replace Ha := Lib.hid (Ha.out.below hb)
          replace hB := chain hB hb
          obtain ⟨a0, a1, a2⟩ := Ha.out
          have za := lt_of_cell a0
          go_wp2_with fail
          refine (HG1'.out _ (HR.out.below hB)).mono ?_
          rintro e wk3 ⟨rfl, hb⟩
          clear za a0 a1 a2
          replace Ha := Lib.hid (Ha.out.below hb)
          replace hB := chain hB hb
          obtain ⟨a0, a1, a2⟩ := Ha.out
          have za := lt_of_cell a0
          go_wp2_with fail
          refine (HK.out _ (HR.out.below (below_al hB _))).mono ?_
          rintro e wk4 ⟨rfl, hb⟩
          clear za a0 a1 a2
          replace Ha := Lib.hid ((Ha.out.alloc _).below hb)
          have Hx := Lib.hid ((AtBox.at (g := wk3.heap.size) (by simp) 0 0 ⟨#[]⟩ 26).below hb)
          replace hB := chain (below_al hB _) hb
          obtain ⟨a0, a1, a2⟩ := Ha.out
          have za := lt_of_cell a0
          obtain ⟨x0, x1, x2⟩ := Hx.out
          have zx := lt_of_cell x0
          go_wp2_with fail
          refine (HG0'.out _ (HR.out.below hB)).mono ?_
          rintro e wk5 ⟨rfl, hb⟩
          clear za a0 a1 a2
          clear zx x0 x1 x2
          replace Ha := Lib.hid (Ha.out.below hb)
          replace Hx := Lib.hid (Hx.out.below hb)
          replace hB := chain hB hb
          obtain ⟨a0, a1, a2⟩ := Ha.out
          have za := lt_of_cell a0
          obtain ⟨x0, x1, x2⟩ := Hx.out
          have zx := lt_of_cell x0
          go_wp2
          go_ret
          exact ⟨rfl, below_al hB _⟩
      · skip
        have hne : ¬ (⟨ws.toArray⟩ : ByteArray).toList = [] := by rw [hemp]; simpa using hem
        have hm : ((⟨ws.toArray⟩ : ByteArray).toList == []) = false := by simpa using hne
        have hk : (⟨ws.toArray⟩ : ByteArray).toList.isEmpty = false := by simpa using hne
        clear hem hemp
        have HG1' := Lib.hid HG1
        clear HG1
        generalize (⟨ws.toArray⟩ : ByteArray) = sw at *
        rcases hpr with ⟨hy1, hy2, rfl⟩ | ⟨rfl, _⟩
        · skip
          rw [hy1] at HRy
          rw [hy2] at HWy
          have HRy' := Lib.hid HRy
          have HWy' := Lib.hid HWy
          clear HRy HWy hy1 hy2
          have HG0' := Lib.hid HG0
          clear HG0
          go_enter Tryd.func5, Tryd.ntmps5
          go_wp2_with fail
          refine (HH.out _ (HR.out.below (below_al hB _))).mono ?_
          rintro e wk1 ⟨rfl, hb⟩
          have Ha := Lib.hid ((AtBox.at (g := w.heap.size) (by simp) t n nm 26).below hb)
          replace hB := chain (below_al hB _) hb
          obtain ⟨a0, a1, a2⟩ := Ha.out
          have za := lt_of_cell a0
          go_wp2_with fail
          refine (HW.out _ (HR.out.below hB)).mono ?_
          rintro e wk2 ⟨rfl, hb⟩
          clear za a0 a1 a2
          replace Ha := Lib.hid (Ha.out.below hb)
          replace hB := chain hB hb
          obtain ⟨a0, a1, a2⟩ := Ha.out
          have za := lt_of_cell a0
          go_wp2_with fail
          refine (HG1'.out _ (HR.out.below hB)).mono ?_
          rintro e wk3 ⟨rfl, hb⟩
          clear za a0 a1 a2
          replace Ha := Lib.hid (Ha.out.below hb)
          replace hB := chain hB hb
          obtain ⟨a0, a1, a2⟩ := Ha.out
          have za := lt_of_cell a0
          go_wp2_with fail
          refine (HK.out _ (HR.out.below (below_al hB _))).mono ?_
          rintro e wk4 ⟨rfl, hb⟩
          clear za a0 a1 a2
          replace Ha := Lib.hid ((Ha.out.alloc _).below hb)
          have Hx := Lib.hid ((AtBox.at (g := wk3.heap.size) (by simp) t n nm 26).below hb)
          replace hB := chain (below_al hB _) hb
          obtain ⟨a0, a1, a2⟩ := Ha.out
          have za := lt_of_cell a0
          obtain ⟨x0, x1, x2⟩ := Hx.out
          have zx := lt_of_cell x0
          go_wp2_with fail
          refine (HG0'.out _ (HR.out.below hB)).mono ?_
          rintro e wk5 ⟨rfl, hb⟩
          clear za a0 a1 a2
          clear zx x0 x1 x2
          replace Ha := Lib.hid (Ha.out.below hb)
          replace Hx := Lib.hid (Hx.out.below hb)
          replace hB := chain hB hb
          obtain ⟨a0, a1, a2⟩ := Ha.out
          have za := lt_of_cell a0
          obtain ⟨x0, x1, x2⟩ := Hx.out
          have zx := lt_of_cell x0
          go_wp2_with fail
          refine (HRy'.out _ (HR.out.below (below_al hB _))).mono ?_
          rintro e wk6 ⟨rfl, hb⟩
          clear za a0 a1 a2
          clear zx x0 x1 x2
          replace Ha := Lib.hid ((Ha.out.alloc _).below hb)
          replace Hx := Lib.hid ((Hx.out.alloc _).below hb)
          have Hy := Lib.hid ((AtBox.at (g := wk5.heap.size) (by simp) y.t y.n ⟨y.nm.toArray⟩ 26).below hb)
          replace hB := chain (below_al hB _) hb
          obtain ⟨a0, a1, a2⟩ := Ha.out
          have za := lt_of_cell a0
          obtain ⟨x0, x1, x2⟩ := Hx.out
          have zx := lt_of_cell x0
          obtain ⟨y0, y1, y2⟩ := Hy.out
          have zy := lt_of_cell y0
          go_wp2_with fail
          refine (HWy'.out _ (HR.out.below hB)).mono ?_
          rintro e wk7 ⟨rfl, hb⟩
          clear za a0 a1 a2
          clear zx x0 x1 x2
          clear zy y0 y1 y2
          replace Ha := Lib.hid (Ha.out.below hb)
          replace Hx := Lib.hid (Hx.out.below hb)
          replace Hy := Lib.hid (Hy.out.below hb)
          replace hB := chain hB hb
          obtain ⟨a0, a1, a2⟩ := Ha.out
          have za := lt_of_cell a0
          obtain ⟨x0, x1, x2⟩ := Hx.out
          have zx := lt_of_cell x0
          obtain ⟨y0, y1, y2⟩ := Hy.out
          have zy := lt_of_cell y0
          go_wp2
          go_ret
          exact ⟨rfl, hB⟩
        · skip
          clear HRy HWy
          have HG0' := Lib.hid HG0
          clear HG0
          go_enter Tryd.func5, Tryd.ntmps5
          go_wp2_with fail
          refine (HH.out _ (HR.out.below (below_al hB _))).mono ?_
          rintro e wk1 ⟨rfl, hb⟩
          have Ha := Lib.hid ((AtBox.at (g := w.heap.size) (by simp) t n nm 26).below hb)
          replace hB := chain (below_al hB _) hb
          obtain ⟨a0, a1, a2⟩ := Ha.out
          have za := lt_of_cell a0
          go_wp2_with fail
          refine (HW.out _ (HR.out.below hB)).mono ?_
          rintro e wk2 ⟨rfl, hb⟩
          clear za a0 a1 a2
          replace Ha := Lib.hid (Ha.out.below hb)
          replace hB := chain hB hb
          obtain ⟨a0, a1, a2⟩ := Ha.out
          have za := lt_of_cell a0
          go_wp2_with fail
          refine (HG1'.out _ (HR.out.below hB)).mono ?_
          rintro e wk3 ⟨rfl, hb⟩
          clear za a0 a1 a2
          replace Ha := Lib.hid (Ha.out.below hb)
          replace hB := chain hB hb
          obtain ⟨a0, a1, a2⟩ := Ha.out
          have za := lt_of_cell a0
          go_wp2_with fail
          refine (HK.out _ (HR.out.below (below_al hB _))).mono ?_
          rintro e wk4 ⟨rfl, hb⟩
          clear za a0 a1 a2
          replace Ha := Lib.hid ((Ha.out.alloc _).below hb)
          have Hx := Lib.hid ((AtBox.at (g := wk3.heap.size) (by simp) t n nm 26).below hb)
          replace hB := chain (below_al hB _) hb
          obtain ⟨a0, a1, a2⟩ := Ha.out
          have za := lt_of_cell a0
          obtain ⟨x0, x1, x2⟩ := Hx.out
          have zx := lt_of_cell x0
          go_wp2_with fail
          refine (HG0'.out _ (HR.out.below hB)).mono ?_
          rintro e wk5 ⟨rfl, hb⟩
          clear za a0 a1 a2
          clear zx x0 x1 x2
          replace Ha := Lib.hid (Ha.out.below hb)
          replace Hx := Lib.hid (Hx.out.below hb)
          replace hB := chain hB hb
          obtain ⟨a0, a1, a2⟩ := Ha.out
          have za := lt_of_cell a0
          obtain ⟨x0, x1, x2⟩ := Hx.out
          have zx := lt_of_cell x0
          go_wp2
          go_ret
          exact ⟨rfl, below_al hB _⟩
end Go.Proofs.YtgfhigcmcanbaaaDoor
