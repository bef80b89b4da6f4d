/-
  SlotsBack, as a walk: it returns true.
-/
import Derived.Test.YtaelfjphgdlbcaaSHd
import Derived.Test.YtaelfjphgdlbcaaSl3
import Derived.Test.YtaelfjphgdlbcaaGreat
namespace Go.Proofs.Ytaelfjphgdlbcaa
open Go.RowKit
set_option linter.unusedVariables false
set_option linter.unusedSimpArgs false
open WordM (L)
open VM
open CodM (St Pg hasS)
open SlM

/-- What is said of a program that is not too much. -/
structure SmallA (F : Fl) : Prop where
  l : F.ths.length ≤ 1000000
  s : ∀ ss ∈ F.ths, ss.length ≤ 1000000
  i : F.init.length ≤ 1000000
  c : F.cond.length ≤ 1000000
theorem small_a {F : Fl} (h : Small F) : SmallA F := ⟨by have := h.n1; omega, fun ss hs => by
  obtain ⟨j, hj, rfl⟩ := List.mem_iff_getElem.1 hs
  have := (h.ths j hj).1; omega, by have := h.n2; omega, by have := h.n3; omega⟩
theorem small_f {F : Fl} (g : List Int) (h : Small F) : SmallA (fenF F g) := ⟨by show (fzs hasS fenL g F.ths).length ≤ _; rw [fzs_len]; have := h.n1; omega, fun ss hs => by
  have hs' : ss ∈ fzs hasS fenL g F.ths := hs
  obtain ⟨j, hj, rfl⟩ := List.mem_iff_getElem.1 hs'
  rw [fzs_len] at hj
  rw [fzs_at hasS fenL g F.ths hj]
  have h1 := wthN_len (ch hasS F.ths g j) fenL F.ths[j] F.ths[j].length
  rw [wth_fz hasS fenL g F.ths hj _ (Nat.le_refl _), List.take_length] at h1
  have := (h.ths j hj).1; omega, by have := h.n2; exact Nat.le_trans this (by omega), by have := h.n3; exact Nat.le_trans this (by omega)⟩
theorem small_e {F : Fl} (g : List Int) (h : Small F) : SmallA (eraR F g) := by
  unfold eraR
  split
  · exact ⟨by show (eras hasS g F.ths).length ≤ _; rw [eras_len]; have := h.n1; omega, eras_small g F.ths (small_a h).s, (small_a h).i, (small_a h).c⟩
  · exact small_a h
set_option maxHeartbeats 8000000 in
set_option maxRecDepth 100000 in
theorem sback_law {v vg : Value} {F : Fl} {g : List Int} (w : World) (hv : FlV w.heap.size w v F) (hg : Ints w.heap.size w vg g) :
    Calls Try.prog 5 #[v, vg] w fun e w' => e = .returned (.bool true) ∧ Below w.heap.size w w' := by
  obtain ⟨vi, vt, vc, rfl, hm⟩ := hv
  have HHd := Lib.hid (fun W => shead_any W)
  have HV := Lib.hid (fun W (hW : Below w.heap.size w W) => show FlV W.heap.size W (flv ⟨F.name.toArray⟩ vi vt vc F.all) F from ⟨vi, vt, vc, rfl, (hm.below hW).more hW.size⟩)
  have HG := Lib.hid (fun W (hW : Below w.heap.size w W) => show Ints W.heap.size W vg g from (hg.below hW).more hW.size)
  have HGF := Lib.hid (fun W (hW : Below w.heap.size w W) => vgreat_any W (HV.out W hW) (Nat.le_refl _))
  obtain ⟨⟨A0, c0, rfl, -⟩, ⟨A2, c2, rfl, -⟩, ⟨A1, c1, rfl, -⟩⟩ := hm
  obtain ⟨AG, cg, rfl, hg1, hg2, -⟩ := hg
  unfold flv at *
  unfold maxLen at hg2
  have hB := below_al (Below.refl w.heap.size w) (.cells #[.string ⟨F.name.toArray⟩, .slice A0 F.init.length c0, .slice A2 F.ths.length c2, .bool F.all, .slice A1 F.cond.length c1] 30)
  have hbx := Lib.hid (FlBox.at (w := w) rfl ⟨F.name.toArray⟩ (.slice A0 F.init.length c0) (.slice A2 F.ths.length c2) (.slice A1 F.cond.length c1) F.all 30)
  obtain ⟨t0, t1, t2, t3, t4⟩ := hbx.out
  go_enter Try.func5, Try.ntmps5
  go_wp2_with fail
  refine (HHd.out _).mono ?_
  rintro e w1 ⟨rfl, hbb⟩
  replace hB := chain hB hbb
  replace hbx := Lib.hid (hbx.out.below hbb)
  clear t0 t1 t2 t3 t4 hbb HHd
  obtain ⟨t0, t1, t2, t3, t4⟩ := hbx.out
  go_wp2_with fail
  refine (HGF.out _ hB).mono ?_
  rintro e w2 ⟨gb, rfl, hsx, hbb⟩
  replace hB := chain hB hbb
  replace hbx := Lib.hid (hbx.out.below hbb)
  clear t0 t1 t2 t3 t4 hbb HGF
  obtain ⟨t0, t1, t2, t3, t4⟩ := hbx.out
  cases gb
  case true =>
    go_wp2
    go_ret
    exact ⟨rfl, hB⟩
  have HS := Lib.hid (hsx rfl)
  clear hsx
  by_cases hgl : 100 < g.length
  · have q : decide (100 < g.length) = true := decide_eq_true hgl
    go_wp2
    go_ret
    exact ⟨rfl, hB⟩
  have q : decide (100 < g.length) = false := decide_eq_false hgl
  have HGL := Lib.hid (show g.length ≤ 1000000 from by omega)
  have HSA := Lib.hid (small_a HS.out)
  have HFN := Lib.hid (fence_any (F := F) (g := g) _ (HV.out _ hB) (HG.out _ hB) (Nat.le_refl _) HSA.out.l HSA.out.s HGL.out HSA.out.i HSA.out.c)
  go_wp2_with fail
  refine HFN.out.mono ?_
  rintro e w3 ⟨u, rfl, hF3, hbb⟩
  have HEA := Lib.hid (show SmallA (fenF F g) from small_f g HS.out)
  have HEB := Lib.hid (era_back F g)
  obtain ⟨E, hE⟩ : ∃ E, E = fenF F g := ⟨_, rfl⟩
  rw [← hE] at hF3 HEA HEB
  replace hB := chain hB hbb
  replace hbx := Lib.hid (hbx.out.below hbb)
  have HF3 := Lib.hid hF3
  obtain ⟨vi3, vt3, vc3, rfl, ⟨A3, c3, rfl, -⟩, ⟨A4, c4, rfl, -⟩, ⟨A5, c5, rfl, -⟩⟩ := hF3
  clear t0 t1 t2 t3 t4 hbb HFN hE HSA
  unfold flv at *
  go_upto_region 5 with fail
  have hbb := below_al (Below.refl w3.heap.size w3) (.cells #[.string ⟨E.name.toArray⟩, .slice A3 E.init.length c3, .slice A4 E.ths.length c4, .bool E.all, .slice A5 E.cond.length c5] 30)
  have hby := Lib.hid (FlBox.at (w := w3) rfl ⟨E.name.toArray⟩ (.slice A3 E.init.length c3) (.slice A4 E.ths.length c4) (.slice A5 E.cond.length c5) E.all 30)
  replace HF3 := Lib.hid ((HF3.out.below hbb).more hbb.size)
  replace hB := chain hB hbb
  replace hbx := Lib.hid (hbx.out.below hbb)
  generalize w3.alloc (.cells #[.string ⟨E.name.toArray⟩, .slice A3 E.init.length c3, .slice A4 E.ths.length c4, .bool E.all, .slice A5 E.cond.length c5] 30) = w4 at *
  clear hbb
  have HER := Lib.hid (erase_any (F := E) (g := g) _ HF3.out (HG.out _ hB) (Nat.le_refl _) HEA.out.l HEA.out.s HGL.out HEA.out.i HEA.out.c)
  rw [show eraR E g = F by unfold eraR; rw [HEB.out.1, if_pos rfl]; exact HEB.out.2, HEB.out.1] at HER
  obtain ⟨s0, s1, s2, s3, s4⟩ := hby.out
  go_wp2_with fail
  refine HER.out.mono ?_
  rintro e w5 ⟨u, rfl, hF5, hbb⟩
  have HF5 := Lib.hid hF5
  obtain ⟨vi5, vt5, vc5, rfl, ⟨A6, c6, rfl, -⟩, ⟨A7, c7, rfl, -⟩, ⟨A8, c8, rfl, -⟩⟩ := hF5
  replace hB := chain hB hbb
  replace hbx := Lib.hid (hbx.out.below hbb)
  clear hbb s0 s1 s2 s3 s4 HER hby
  unfold flv at *
  go_upto_region 6 with fail
  have hbb := below_al (Below.refl w5.heap.size w5) (.cells #[.string ⟨F.name.toArray⟩, .slice A6 F.init.length c6, .slice A7 F.ths.length c7, .bool F.all, .slice A8 F.cond.length c8] 30)
  have hby := Lib.hid (FlBox.at (w := w5) rfl ⟨F.name.toArray⟩ (.slice A6 F.init.length c6) (.slice A7 F.ths.length c7) (.slice A8 F.cond.length c8) F.all 30)
  replace HF5 := Lib.hid ((HF5.out.below hbb).more hbb.size)
  replace hB := chain hB hbb
  replace hbx := Lib.hid (hbx.out.below hbb)
  generalize w5.alloc (.cells #[.string ⟨F.name.toArray⟩, .slice A6 F.init.length c6, .slice A7 F.ths.length c7, .bool F.all, .slice A8 F.cond.length c8] 30) = w6 at *
  clear hbb
  have HCS := Lib.hid (csame_any _ HF5.out (HV.out _ hB) (Nat.le_refl _))
  obtain ⟨s0, s1, s2, s3, s4⟩ := hby.out
  obtain ⟨t0, t1, t2, t3, t4⟩ := hbx.out
  go_wp2_with fail
  refine HCS.out.mono ?_
  rintro e w7 ⟨⟨cb, rfl, hcb⟩, hbb⟩
  obtain rfl : cb = true := hcb.2 rfl
  replace hB := chain hB hbb
  clear hbb
  go_wp2
  go_ret
  exact ⟨rfl, hB⟩
end Go.Proofs.Ytaelfjphgdlbcaa
