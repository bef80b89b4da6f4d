/-
  ENDS: Minus.
-/
import Derived.Test.YtodpajnpnobfmaaOtI
namespace Go.Proofs.Ytodpajnpnobfmaa
open Go.RowKit
set_option linter.unusedVariables false
set_option linter.unusedSimpArgs false
open OtM

theorem os_filter (ys bs : List OV) : os (ys.filter (kp bs)) = minO (os ys) (os bs) := by
  unfold minO
  show List.map _ _ = List.filter _ (List.map _ _)
  rw [List.filter_map]
  rfl
def MinRet (w : World) (l m : List Ot) (e : Ending) (w' : World) : Prop := ∃ u ys, e = .returned u ∧ os ys = minO l m ∧ OwnOs w.heap.size w' u ys ∧ Below w.heap.size w w'
set_option maxHeartbeats 8000000 in
set_option maxRecDepth 100000 in
theorem ominus_any {B : Nat} {v u : Value} {xs bs : List OV} (w : World) (hv : OutsX B w v xs) (hu : OutsX B w u bs) (hBB : B ≤ w.heap.size) (hl : xs.length ≤ 1000000) (hs : SmO xs) (hlb : bs.length ≤ 1000000) (hsr : Srt (os bs)) :
    Calls Try.prog 22 #[v, u] w (MinRet w (os xs) (os bs)) := by
  have HCP := Lib.hid (fun W (hW : Below w.heap.size w W) => copies_any W (hv.below (hW.mono hBB)) (Nat.le_trans hBB hW.size) hl hs)
  obtain ⟨⟨A, c, rfl, -⟩, -⟩ := hv
  have hu0 := hu
  obtain ⟨⟨D, c2, rfl, -⟩, -⟩ := hu0
  obtain ⟨n, hn⟩ : ∃ n, n = xs.length := ⟨_, rfl⟩
  have HN := Lib.hid hn
  have HLN := Lib.hid (show n ≤ 1000000 from by omega)
  obtain ⟨W1, hW1⟩ : ∃ W, W = w.alloc (.cells #[.slice D bs.length c2] 25) := ⟨_, rfl⟩
  obtain ⟨G, hG⟩ : ∃ x, x = w.heap.size := ⟨_, rfl⟩
  have HB1 := Lib.hid (show Below w.heap.size w W1 from by rw [hW1]; exact below_al (Below.refl _ _) _)
  have HCK := Lib.hid (show ClK G B (.slice D bs.length c2) bs W1 from ⟨by rw [hW1, hG, World.cell?_alloc_at _ _ _ _ rfl]; rfl, hu.below (HB1.out.mono hBB), Nat.le_trans hBB HB1.out.size⟩)
  have HBG := Lib.hid (show B ≤ G from by omega)
  rw [← hn] at HCP ⊢
  have HU := Lib.hid (And.intro hlb hsr)
  clear hu hn hl hs hlb hsr
  go_enter Try.func22, Try.ntmps22
  go_upto_region 1 with fail
  rw [← hW1]
  (try rw [← hG])
  clear hW1 hG
  go_wp2_with fail
  refine (HCP.out _ HB1.out).mono ?_
  rintro e W2 ⟨g0, ys, rfl, hey, hos, hb⟩
  rw [← HN.out] at hos
  (try rw [← HN.out])
  have HYL := Lib.hid (show ys.length = n from by have := congrArg List.length hey; simpa [HN.out] using this)
  have HEY := Lib.hid hey
  have HGG := Lib.hid (show G < g0 from by have h1 := (hos.1.lt g0 rfl).1; have h2 := lt_of_cell HCK.out.cell; omega)
  have HB2 := Lib.hid (chain HB1.out hb)
  have HOW := Lib.hid (show W2.ownsRow w.heap.size 24 2 (.slice (some ⟨g0, 0, none⟩) n n) n (ys.flatMap ovC) from by have := own_base hos.1 HB1.out.size; rwa [HYL.out] at this)
  have HEA := Lib.hid (hos.2.base HB1.out.size)
  have HC2 := Lib.hid (HCK.out.below hb (lt_of_cell HCK.out.cell) HCK.out.lt)
  have HG0 := Lib.hid (show w.heap.size ≤ g0 from (HOW.out.lt g0 rfl).1)
  clear hb hey hos
  go_wp2_with fail
  refine (delf_any W2 HC2.out HGG.out (Nat.le_trans HBG.out (Nat.le_of_lt HGG.out)) HU.out.1 HU.out.2 HYL.out HLN.out HOW.out HEA.out).mono ?_
  rintro e W3 ⟨i, hi, hil, rfl, ho3, hb3⟩
  have HR := Lib.hid (show MinRet w (os xs) (os bs) (.returned (.slice (some ⟨g0, 0, none⟩) i n)) W3 from ⟨_, _, rfl, by rw [os_filter, HEY.out], ho3, HB2.out.trans (hb3.mono HG0.out)⟩)
  clear ho3 hb3 hil
  go_wp2
  go_ret
  exact HR.out
end Go.Proofs.Ytodpajnpnobfmaa
