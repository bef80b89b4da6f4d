/-
  ENDS: Of.
-/
import Derived.Test.YtodpajnpnobfmaaOtL
namespace Go.Proofs.Ytodpajnpnobfmaa
open Go.RowKit
set_option linter.unusedVariables false
set_option linter.unusedSimpArgs false
open OtM

theorem compact_nil (w : World) : Calls Try.prog 31 #[.slice none 0 0, .func (.func 32) #[] #[]] w fun e w' => e = .returned (.slice none 0 0) ∧ w' = w := by
  go_enter Try.func31, Try.ntmps31
  go_wp2
  go_ret
  exact ⟨rfl, rfl⟩
theorem sort_nil (w : World) : Calls Try.prog 29 #[.slice none 0 0, .func (.func 25) #[] #[]] w fun e w' => e = .returned (.tuple #[]) ∧ w' = w := by
  have hcon := AnyF.slices_SortFunc_none Try.shSortO none 0 (.func (.func 25) #[] #[]) w
  change Calls Try.prog 29 _ _ _ at hcon
  exact hcon
def OfRet (w : World) (l : List Ot) (e : Ending) (w' : World) : Prop := ∃ u ys, e = .returned u ∧ os ys = ofO l ∧ OwnOs w.heap.size w' u ys ∧ Below w.heap.size w w'
theorem perm_os {ys zs : List OV} (h : ys.Perm zs) (x : Ot) : x ∈ os ys ↔ x ∈ os zs := (h.map _).mem_iff
set_option maxHeartbeats 8000000 in
set_option maxRecDepth 100000 in
theorem oof_any {B : Nat} {v : Value} {xs : List OV} (w : World) (hv : OutsX B w v xs) (hBB : B ≤ w.heap.size) (hl : xs.length ≤ 1000000) (hs : SmO xs) :
    Calls Try.prog 16 #[v] w (OfRet w (os xs)) := by
  have HCL := Lib.hid (cloneo_any w hv hBB hl)
  have HOK := Lib.hid hv.2
  have HS := Lib.hid hs
  have HLN := Lib.hid hl
  obtain ⟨⟨A, c, rfl, -⟩, -⟩ := hv
  clear hl hs
  go_enter Try.func16, Try.ntmps16
  go_wp2_with fail
  refine HCL.out.mono ?_
  rintro e w1 ⟨u, rfl, hown, hb1⟩
  have HB1 := Lib.hid hb1
  have hown0 := hown
  rcases hown.2 with ⟨hu, h0⟩ | ⟨g, cap, cur, hu, hbg, hg, hnc, hcm, hcs, htake⟩
  · have HX := Lib.hid (List.eq_nil_of_length_eq_zero h0)
    rw [hu]
    clear hown hown0 hb1 hu h0
    go_wp2_with fail
    refine (sort_nil w1).mono ?_
    rintro e w2 ⟨rfl, rfl⟩
    go_wp2_with fail
    refine (compact_nil w2).mono ?_
    rintro e w3 ⟨rfl, rfl⟩
    go_wp2_with fail
    refine (copies_any w3 (xs := []) (B := w3.heap.size) ⟨Rw.nil _ _, fun x hx => (by cases hx)⟩ (Nat.le_refl _) (by decide) (fun x hx => (by cases hx))).mono ?_
    rintro e w4 ⟨g0, ys, rfl, hey, hos, hb⟩
    have HR := Lib.hid (show OfRet w (os xs) (.returned (.slice (some ⟨g0, 0, none⟩) 0 0)) w4 from ⟨_, ys, rfl, by rw [hey, HX.out]; rfl, ⟨own_base hos.1 HB1.out.size, hos.2.base HB1.out.size⟩, chain HB1.out hb⟩)
    clear hey hos hb
    go_wp2
    go_ret
    exact HR.out
  · subst hu
    obtain ⟨n, hn⟩ : ∃ n, n = xs.length := ⟨_, rfl⟩
    have HN := Lib.hid hn
    rw [← hn] at hown0
    rw [← hn]
    have HOW := Lib.hid (show w1.ownsRow w.heap.size 24 2 (.slice (some ⟨g, 0, none⟩) n cap) n (xs.flatMap ovC) from by rw [HN.out]; rw [← HN.out]; have := hown0; unfold OwnO at this; rwa [← HN.out] at this)
    have HOK1 := Lib.hid (fun z hz => ((HOK.out z hz).more hBB).below HB1.out)
    clear hown hown0 hb1 hn hbg hg hnc hcm hcs htake
    go_wp2_with fail
    refine (osort_any w1 HOW.out HN.out.symm (by have := HN.out; have := HLN.out; omega) (Nat.le_refl _) HOK1.out).mono ?_
    rintro e w2 ⟨rfl, ys, hp, hsr, hown2, hg2⟩
    have HOW2 := Lib.hid hown2
    have HB2 := Lib.hid (below_append HB1.out HOW.out (Nat.le_refl _) HB1.out.size hg2)
    have HYL := Lib.hid (hp.length_eq.trans HN.out.symm)
    have HP := Lib.hid hp
    have HSR := Lib.hid hsr
    have HOK2 := Lib.hid (fun z (hz : z ∈ ys) => ((HOK.out z (HP.out.mem_iff.1 hz)).more hBB).below HB2.out)
    clear hp hsr hown2 hg2
    go_wp2_with fail
    refine (compact_any w2 HOW2.out HYL.out (by have := HN.out; have := HLN.out; omega) (Nat.le_refl _) HOK2.out HSR.out).mono ?_
    rintro e w3 ⟨i, zs, rfl, hzl, hile, hown3, hsz, hmem, hsub, hb3⟩
    have HB3 := Lib.hid (HB2.out.trans hb3)
    have HZX := Lib.hid (show OutsX w3.heap.size w3 (.slice (some ⟨g, 0, none⟩) i cap) zs from ⟨by subst hzl; exact Rw.own hown3 (Nat.le_refl _), fun z hz => ((((HOK2.out z (hsub z hz))).below hb3).more HB3.out.size)⟩)
    have HZL := Lib.hid (show zs.length ≤ 1000000 from by have := HYL.out; have := HN.out; have := HLN.out; omega)
    have HZS := Lib.hid (show SmO zs from fun z hz => HS.out z (HP.out.mem_iff.1 (hsub z hz)))
    have HZE := Lib.hid (show os zs = ofO (os xs) from ofO_eq hsz fun x => by rw [hmem, perm_os HP.out])
    clear hown3 hsz hmem hsub hb3 hile hzl
    go_wp2_with fail
    refine (copies_any w3 HZX.out (Nat.le_refl _) HZL.out HZS.out).mono ?_
    rintro e w4 ⟨g0, us, rfl, hey, hos, hb⟩
    have HR := Lib.hid (show OfRet w (os xs) (.returned (.slice (some ⟨g0, 0, none⟩) zs.length zs.length)) w4 from ⟨_, us, rfl, by rw [hey, HZE.out], ⟨own_base hos.1 HB3.out.size, hos.2.base HB3.out.size⟩, chain HB3.out hb⟩)
    clear hey hos hb
    go_wp2
    go_ret
    exact HR.out
end Go.Proofs.Ytodpajnpnobfmaa
