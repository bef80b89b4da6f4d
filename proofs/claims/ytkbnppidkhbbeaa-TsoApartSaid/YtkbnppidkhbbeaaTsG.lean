/-
  LAYER 11: Great.
-/
import Derived.Test.YtkbnppidkhbbeaaScW
import Derived.Test.YtkbnppidkhbbeaaScY
import Derived.Test.YtkbnppidkhbbeaaK04
import Derived.Deep.RegionHeld3
import Derived.Deep.DeepCutAuto
namespace Go.Proofs.Ytkbnppidkhbbeaa
open Go.RowKit
set_option linter.unusedVariables false
set_option linter.unusedSimpArgs false
open CodM (St Pg rightP)
open BfM (Wr plc)
open ScM

def GsR (P : Pg) (s : Sta) (w : World) (e : Ending) (w' : World) : Prop := ∃ b, e = .returned (.bool b) ∧ (b = false → rightP P = true ∧ WideN 300 s ∧ OkSt P s) ∧ Below w.heap.size w w'
set_option maxHeartbeats 4000000 in
set_option maxRecDepth 100000 in
theorem tgreat_any {B : Nat} {v u : Value} {P : Pg} {s : Sta} (w : World) (hv : PgV B w v P) (hu : StaV B w u s) (hBB : B ≤ w.heap.size) :
    Calls Try.prog 10 #[v, u] w (GsR P s w) := by
  have HG := Lib.hid (fun W (hW : Below w.heap.size w W) => cgreat_any W ((hv.below (hW.mono hBB)).more (Nat.le_trans hBB hW.size)) (Nat.le_refl _))
  have HW := Lib.hid (fun W (hW : Below w.heap.size w W) => wide_any W ((hu.below (hW.mono hBB)).more (Nat.le_trans hBB hW.size)) (Nat.le_refl _))
  have HR := Lib.hid (fun W (hW : Below w.heap.size w W) => rright_any W ((hv.below (hW.mono hBB)).more (Nat.le_trans hBB hW.size)) ((hu.below (hW.mono hBB)).more (Nat.le_trans hBB hW.size)) (Nat.le_refl _))
  obtain ⟨pi, pt, rfl, hpm⟩ := hv
  obtain ⟨um, ut, rfl, hum⟩ := hu
  obtain ⟨⟨P0, d0, rfl, -⟩, ⟨P1, d1, rfl, -⟩⟩ := hpm
  obtain ⟨⟨A7, c7, rfl, -⟩, ⟨A1, c1, rfl, -⟩⟩ := hum
  obtain ⟨W2, hW2⟩ : ∃ W, W = (w.alloc (.cells #[.slice P0 P.init.length d0, .slice P1 P.ths.length d1] 25)).alloc (.cells #[.slice A7 s.mem.length c7, .slice A1 s.ths.length c1] 28) := ⟨_, rfl⟩
  obtain ⟨gp, hgp⟩ : ∃ g, g = w.heap.size := ⟨_, rfl⟩
  obtain ⟨gs, hgs⟩ : ∃ g, g = w.heap.size + 1 := ⟨_, rfl⟩
  have HX := Lib.hid (show BoxC W2 gp 25 #[.slice P0 P.init.length d0, .slice P1 P.ths.length d1] from by rw [hW2, hgp]; exact (BoxC.new w _ _).alloc _)
  have HY := Lib.hid (show BoxC W2 gs 28 #[.slice A7 s.mem.length c7, .slice A1 s.ths.length c1] from by rw [hW2, hgs]; have := BoxC.new (w.alloc (.cells #[.slice P0 P.init.length d0, .slice P1 P.ths.length d1] 25)) 28 #[.slice A7 s.mem.length c7, .slice A1 s.ths.length c1]; rw [World.size_alloc] at this; exact this)
  have HB2 := Lib.hid (show Below w.heap.size w W2 from by rw [hW2]; exact below_al (below_al (Below.refl _ _) _) _)
  have HL := Lib.hid (Below.refl W2.heap.size W2)
  have x0 := HX.out.cell 0 _ rfl
  have x1 := HX.out.cell 1 _ rfl
  go_enter Try.func10, Try.ntmps10
  go_upto_region 1 with fail
  rw [← hW2]
  (try rw [← hgs])
  (try rw [← hgp])
  clear hW2 hgs hgp
  go_wp2_with fail
  refine (HG.out _ HB2.out).mono ?_
  rintro e w1 ⟨gb, rfl, hsx, hb⟩
  replace HL := Lib.hid hb
  clear x0 x1 hb HG
  cases gb
  case true =>
    go_wp2
    go_ret
    exact ⟨true, rfl, fun h => (by cases h), chain HB2.out HL.out⟩
  have HS := Lib.hid (hsx rfl).2
  clear hsx
  have y0 := (HY.out.below HL.out HY.out.lt).cell 0 _ rfl
  have y1 := (HY.out.below HL.out HY.out.lt).cell 1 _ rfl
  go_wp2_with fail
  refine (HW.out _ (chain HB2.out HL.out)).mono ?_
  rintro e w2 ⟨gb, rfl, hwx, hb⟩
  replace HL := Lib.hid (chain HL.out hb)
  clear y0 y1 hb HW
  cases gb
  case true =>
    go_wp2
    go_ret
    exact ⟨true, rfl, fun h => (by cases h), chain HB2.out HL.out⟩
  have HN := Lib.hid (hwx rfl)
  clear hwx
  have x0 := (HX.out.below HL.out HX.out.lt).cell 0 _ rfl
  have x1 := (HX.out.below HL.out HX.out.lt).cell 1 _ rfl
  have y0 := (HY.out.below HL.out HY.out.lt).cell 0 _ rfl
  have y1 := (HY.out.below HL.out HY.out.lt).cell 1 _ rfl
  go_wp2_with fail
  refine (HR.out _ (chain HB2.out HL.out)).mono ?_
  rintro e w3 ⟨d, rfl, hd, hb⟩
  replace HL := Lib.hid (chain HL.out hb)
  clear x0 x1 y0 y1 hb HR
  cases d
  case false =>
    go_wp2
    go_ret
    exact ⟨true, rfl, fun h => (by cases h), chain HB2.out HL.out⟩
  have HO := Lib.hid (hd.1 rfl)
  clear hd
  go_wp2
  go_ret
  exact ⟨false, rfl, fun _ => ⟨HS.out, HN.out, HO.out⟩, chain HB2.out HL.out⟩
end Go.Proofs.Ytkbnppidkhbbeaa
