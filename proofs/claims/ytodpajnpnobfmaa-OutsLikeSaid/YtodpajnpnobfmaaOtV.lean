/-
  LAYER 15: head, a live question whose answer is fixed.
-/
import Derived.Test.YtodpajnpnobfmaaWtk
import Derived.Test.YtodpajnpnobfmaaOtW
namespace Go.Proofs.Ytodpajnpnobfmaa
open Go.RowKit
set_option linter.unusedVariables false
set_option linter.unusedSimpArgs false
open OtM
abbrev oa : Ot := ([0, 2], [])
abbrev ob : Ot := ([1], [5])
abbrev oc : Ot := ([1], [4, 9])
abbrev oz : Ot := ([], [])
structure Bxd (T : Prop) : Prop where out : T
theorem cutT {T G : Prop} (h1 : Bxd T → G) (h2 : T) : G := h1 ⟨h2⟩
set_option maxHeartbeats 8000000 in
set_option maxRecDepth 100000 in
theorem head15_any (w : World) : Calls Try.prog 9 #[] w fun e w' => e = .returned (.bool true) ∧ Below w.heap.size w w' := by
  obtain ⟨h0, hh0⟩ : ∃ g, g = w.heap.size := ⟨_, rfl⟩
  obtain ⟨V0, hV0⟩ : ∃ W, W = w.alloc (.cells #[.int .i64 0, .int .i64 2] 3) := ⟨_, rfl⟩
  have hb0 : Below w.heap.size w V0 := by rw [hV0]; exact below_al (Below.refl _ _) _
  obtain ⟨h1, hh1⟩ : ∃ g, g = V0.heap.size := ⟨_, rfl⟩
  obtain ⟨V1, hV1⟩ : ∃ W, W = V0.alloc (.cells #[.slice (some ⟨h0, 0, none⟩) 2 2, .slice none 0 0] 24) := ⟨_, rfl⟩
  have hb1 : Below V0.heap.size V0 V1 := by rw [hV1]; exact below_al (Below.refl _ _) _
  obtain ⟨h2, hh2⟩ : ∃ g, g = V1.heap.size := ⟨_, rfl⟩
  obtain ⟨V2, hV2⟩ : ∃ W, W = V1.alloc (.cells #[.int .i64 1] 3) := ⟨_, rfl⟩
  have hb2 : Below V1.heap.size V1 V2 := by rw [hV2]; exact below_al (Below.refl _ _) _
  obtain ⟨h3, hh3⟩ : ∃ g, g = V2.heap.size := ⟨_, rfl⟩
  obtain ⟨V3, hV3⟩ : ∃ W, W = V2.alloc (.cells #[.int .i64 5] 3) := ⟨_, rfl⟩
  have hb3 : Below V2.heap.size V2 V3 := by rw [hV3]; exact below_al (Below.refl _ _) _
  obtain ⟨h4, hh4⟩ : ∃ g, g = V3.heap.size := ⟨_, rfl⟩
  obtain ⟨V4, hV4⟩ : ∃ W, W = V3.alloc (.cells #[.slice (some ⟨h2, 0, none⟩) 1 1, .slice (some ⟨h3, 0, none⟩) 1 1] 24) := ⟨_, rfl⟩
  have hb4 : Below V3.heap.size V3 V4 := by rw [hV4]; exact below_al (Below.refl _ _) _
  obtain ⟨h5, hh5⟩ : ∃ g, g = V4.heap.size := ⟨_, rfl⟩
  obtain ⟨V5, hV5⟩ : ∃ W, W = V4.alloc (.cells #[.int .i64 1] 3) := ⟨_, rfl⟩
  have hb5 : Below V4.heap.size V4 V5 := by rw [hV5]; exact below_al (Below.refl _ _) _
  obtain ⟨h6, hh6⟩ : ∃ g, g = V5.heap.size := ⟨_, rfl⟩
  obtain ⟨V6, hV6⟩ : ∃ W, W = V5.alloc (.cells #[.int .i64 4, .int .i64 9] 3) := ⟨_, rfl⟩
  have hb6 : Below V5.heap.size V5 V6 := by rw [hV6]; exact below_al (Below.refl _ _) _
  obtain ⟨h7, hh7⟩ : ∃ g, g = V6.heap.size := ⟨_, rfl⟩
  obtain ⟨V7, hV7⟩ : ∃ W, W = V6.alloc (.cells #[.slice (some ⟨h5, 0, none⟩) 1 1, .slice (some ⟨h6, 0, none⟩) 2 2] 24) := ⟨_, rfl⟩
  have hb7 : Below V6.heap.size V6 V7 := by rw [hV7]; exact below_al (Below.refl _ _) _
  have hs1 : h1 = h0 + 1 := by rw [hh1, hV0, World.size_alloc, hh0]
  have hs2 : h2 = h1 + 1 := by rw [hh2, hV1, World.size_alloc, hh1]
  have hs3 : h3 = h2 + 1 := by rw [hh3, hV2, World.size_alloc, hh2]
  have hs4 : h4 = h3 + 1 := by rw [hh4, hV3, World.size_alloc, hh3]
  have hs5 : h5 = h4 + 1 := by rw [hh5, hV4, World.size_alloc, hh4]
  have hs6 : h6 = h5 + 1 := by rw [hh6, hV5, World.size_alloc, hh5]
  have hs7 : h7 = h6 + 1 := by rw [hh7, hV6, World.size_alloc, hh6]
  have hw0 : h0 = w.heap.size := hh0
  have i0 : IntR V0.heap.size V0 (.slice (some ⟨h0, 0, none⟩) 2 2) [0, 2] := by rw [hV0, hh0]; exact lit_ints w [0, 2] rfl
  replace i0 := (i0.below hb1).more hb1.size
  replace i0 := (i0.below hb2).more hb2.size
  replace i0 := (i0.below hb3).more hb3.size
  replace i0 := (i0.below hb4).more hb4.size
  replace i0 := (i0.below hb5).more hb5.size
  replace i0 := (i0.below hb6).more hb6.size
  replace i0 := (i0.below hb7).more hb7.size
  have i2 : IntR V2.heap.size V2 (.slice (some ⟨h2, 0, none⟩) 1 1) [1] := by rw [hV2, hh2]; exact lit_ints V1 [1] rfl
  replace i2 := (i2.below hb3).more hb3.size
  replace i2 := (i2.below hb4).more hb4.size
  replace i2 := (i2.below hb5).more hb5.size
  replace i2 := (i2.below hb6).more hb6.size
  replace i2 := (i2.below hb7).more hb7.size
  have i3 : IntR V3.heap.size V3 (.slice (some ⟨h3, 0, none⟩) 1 1) [5] := by rw [hV3, hh3]; exact lit_ints V2 [5] rfl
  replace i3 := (i3.below hb4).more hb4.size
  replace i3 := (i3.below hb5).more hb5.size
  replace i3 := (i3.below hb6).more hb6.size
  replace i3 := (i3.below hb7).more hb7.size
  have i5 : IntR V5.heap.size V5 (.slice (some ⟨h5, 0, none⟩) 1 1) [1] := by rw [hV5, hh5]; exact lit_ints V4 [1] rfl
  replace i5 := (i5.below hb6).more hb6.size
  replace i5 := (i5.below hb7).more hb7.size
  have i6 : IntR V6.heap.size V6 (.slice (some ⟨h6, 0, none⟩) 2 2) [4, 9] := by rw [hV6, hh6]; exact lit_ints V5 [4, 9] rfl
  replace i6 := (i6.below hb7).more hb7.size
  obtain ⟨q10, q11⟩ : V1.cell? ⟨h1, 0, none⟩ = some (.slice (some ⟨h0, 0, none⟩) 2 2) ∧ V1.cell? ⟨h1, 1, none⟩ = some (.slice none 0 0) := by rw [hV1, hh1]; exact box2 (w := V0) _ _ _
  replace q10 := kc hb2 q10
  replace q11 := kc hb2 q11
  replace q10 := kc hb3 q10
  replace q11 := kc hb3 q11
  replace q10 := kc hb4 q10
  replace q11 := kc hb4 q11
  replace q10 := kc hb5 q10
  replace q11 := kc hb5 q11
  replace q10 := kc hb6 q10
  replace q11 := kc hb6 q11
  replace q10 := kc hb7 q10
  replace q11 := kc hb7 q11
  obtain ⟨q40, q41⟩ : V4.cell? ⟨h4, 0, none⟩ = some (.slice (some ⟨h2, 0, none⟩) 1 1) ∧ V4.cell? ⟨h4, 1, none⟩ = some (.slice (some ⟨h3, 0, none⟩) 1 1) := by rw [hV4, hh4]; exact box2 (w := V3) _ _ _
  replace q40 := kc hb5 q40
  replace q41 := kc hb5 q41
  replace q40 := kc hb6 q40
  replace q41 := kc hb6 q41
  replace q40 := kc hb7 q40
  replace q41 := kc hb7 q41
  obtain ⟨q70, q71⟩ : V7.cell? ⟨h7, 0, none⟩ = some (.slice (some ⟨h5, 0, none⟩) 1 1) ∧ V7.cell? ⟨h7, 1, none⟩ = some (.slice (some ⟨h6, 0, none⟩) 2 2) := by rw [hV7, hh7]; exact box2 (w := V6) _ _ _
  have HB7 := Lib.hid (chain (chain (chain (chain (chain (chain (chain (hb0) hb1) hb2) hb3) hb4) hb5) hb6) hb7)
  have HVa0 := Lib.hid (show OvOk V7.heap.size V7 ⟨.slice (some ⟨h0, 0, none⟩) 2 2, .slice none 0 0, oa⟩ from ⟨i0, Rw.nil _ _⟩)
  have HVb0 := Lib.hid (show OvOk V7.heap.size V7 ⟨.slice (some ⟨h2, 0, none⟩) 1 1, .slice (some ⟨h3, 0, none⟩) 1 1, ob⟩ from ⟨i2, i3⟩)
  have HVc0 := Lib.hid (show OvOk V7.heap.size V7 ⟨.slice (some ⟨h5, 0, none⟩) 1 1, .slice (some ⟨h6, 0, none⟩) 2 2, oc⟩ from ⟨i5, i6⟩)
  have HCH := Lib.hid (show V7 = ((((((((w.alloc (.cells #[.int .i64 0, .int .i64 2] 3)).alloc (.cells #[.slice (some ⟨w.heap.size, 0, none⟩) 2 2, .slice none 0 0] 24)).alloc (.cells #[.int .i64 1] 3)).alloc (.cells #[.int .i64 5] 3)).alloc (.cells #[.slice (some ⟨w.heap.size + 1 + 1, 0, none⟩) 1 1, .slice (some ⟨w.heap.size + 1 + 1 + 1, 0, none⟩) 1 1] 24)).alloc (.cells #[.int .i64 1] 3)).alloc (.cells #[.int .i64 4, .int .i64 9] 3)).alloc (.cells #[.slice (some ⟨w.heap.size + 1 + 1 + 1 + 1 + 1, 0, none⟩) 1 1, .slice (some ⟨w.heap.size + 1 + 1 + 1 + 1 + 1 + 1, 0, none⟩) 2 2] 24)) from by rw [hV7, hV6, hV5, hV4, hV3, hV2, hV1, hV0, hs6, hs5, hs4, hs3, hs2, hs1, hw0])
  have E1 := Lib.hid (show w.heap.size + 1 = h1 from by omega)
  have E2 := Lib.hid (show w.heap.size + 1 + 1 = h2 from by omega)
  have E3 := Lib.hid (show w.heap.size + 1 + 1 + 1 = h3 from by omega)
  have E4 := Lib.hid (show w.heap.size + 1 + 1 + 1 + 1 = h4 from by omega)
  have E5 := Lib.hid (show w.heap.size + 1 + 1 + 1 + 1 + 1 = h5 from by omega)
  have E6 := Lib.hid (show w.heap.size + 1 + 1 + 1 + 1 + 1 + 1 = h6 from by omega)
  have E7 := Lib.hid (show w.heap.size + 1 + 1 + 1 + 1 + 1 + 1 + 1 = h7 from by omega)
  clear hV0 hV1 hV2 hV3 hV4 hV5 hV6 hV7 hb0 hb1 hb2 hb3 hb4 hb5 hb6 hb7 hh1 hh2 hh3 hh4 hh5 hh6 hh7 i0 i2 i3 i5 i6 hs1 hs2 hs3 hs4 hs5 hs6 hs7 hh0
  have HW0 := Lib.hid hw0
  clear hw0
  go_enter Try.func9, Try.ntmps9
  go_upto_region 4 with fail
  rw [← HCH.out, E7.out, E6.out, E5.out, E4.out, E3.out, E2.out, E1.out, ← HW0.out]
  clear HCH E1 E2 E3 E4 E5 E6 E7 HW0
  obtain ⟨Y, hY⟩ : ∃ W, W = V7.alloc (.cells #[.slice (some ⟨h2, 0, none⟩) 1 1, .slice (some ⟨h3, 0, none⟩) 1 1, .slice (some ⟨h0, 0, none⟩) 2 2, .slice none 0 0, .slice (some ⟨h2, 0, none⟩) 1 1, .slice (some ⟨h3, 0, none⟩) 1 1, .slice (some ⟨h5, 0, none⟩) 1 1, .slice (some ⟨h6, 0, none⟩) 2 2] 24) := ⟨_, rfl⟩
  obtain ⟨gy, hgy⟩ : ∃ g, g = V7.heap.size := ⟨_, rfl⟩
  have hbY : Below V7.heap.size V7 Y := by rw [hY]; exact below_al (Below.refl _ _) _
  have HOY := Lib.hid (show OutsX Y.heap.size Y (.slice (some ⟨gy, 0, none⟩) 4 4) [⟨.slice (some ⟨h2, 0, none⟩) 1 1, .slice (some ⟨h3, 0, none⟩) 1 1, ob⟩, ⟨.slice (some ⟨h0, 0, none⟩) 2 2, .slice none 0 0, oa⟩, ⟨.slice (some ⟨h2, 0, none⟩) 1 1, .slice (some ⟨h3, 0, none⟩) 1 1, ob⟩, ⟨.slice (some ⟨h5, 0, none⟩) 1 1, .slice (some ⟨h6, 0, none⟩) 2 2, oc⟩] from by rw [hY, hgy]; exact lit_outs V7 [⟨.slice (some ⟨h2, 0, none⟩) 1 1, .slice (some ⟨h3, 0, none⟩) 1 1, ob⟩, ⟨.slice (some ⟨h0, 0, none⟩) 2 2, .slice none 0 0, oa⟩, ⟨.slice (some ⟨h2, 0, none⟩) 1 1, .slice (some ⟨h3, 0, none⟩) 1 1, ob⟩, ⟨.slice (some ⟨h5, 0, none⟩) 1 1, .slice (some ⟨h6, 0, none⟩) 2 2, oc⟩] rfl (by intro x hx; simp only [List.mem_cons, List.not_mem_nil, or_false] at hx; rcases hx with rfl | rfl | rfl | rfl; exact HVb0.out; exact HVa0.out; exact HVb0.out; exact HVc0.out))
  have HBY := Lib.hid (chain HB7.out hbY)
  have HYF := Lib.hid hbY
  go_wp2_with fail
  rw [← hY]
  (try rw [← hgy])
  clear hY hgy hbY
  refine (oof_any Y HOY.out (Nat.le_refl _) (by simp) (by intro x hx; simp only [List.mem_cons, List.not_mem_nil, or_false] at hx; rcases hx with rfl | rfl | rfl | rfl <;> exact ⟨by simp, by simp⟩)).mono ?_
  rintro e W5 ⟨v4, y4, rfl, hy4, ho4, hb5⟩
  have HLE := Lib.hid (show os y4 = [oa, oc, ob] from hy4.trans (by decide : ofO [ob, oa, ob, oc] = [oa, oc, ob]))
  have HLN := Lib.hid (show y4.length ≤ 1000000 from by have := congrArg List.length HLE.out; simp at this; omega)
  have HLS := Lib.hid (show Srt (os y4) from by rw [HLE.out]; decide)
  have HLM := Lib.hid (show SmO y4 from fun x hx => by
    have : x.o ∈ os y4 := List.mem_map.2 ⟨x, hx, rfl⟩
    rw [HLE.out] at this
    simp only [List.mem_cons, List.not_mem_nil, or_false] at this
    rcases this with h | h | h <;> (rw [h]; exact ⟨by decide, by decide⟩))
  have hb57 := (HYF.out).trans (hb5.mono HYF.out.size)
  have HBW5 := Lib.hid (chain HBY.out hb5)
  have hsz := hb57.size
  have HL4 := Lib.hid (fun W (hW : Below W5.heap.size W5 W) => (ho4.outs.below hW).more hW.size)
  obtain ⟨A4, n4, rfl⟩ := own_slice ho4.1
  have HVa := Lib.hid (fun W (hW : Below W5.heap.size W5 W) => ((HVa0.out.below hb57).more hsz |>.below hW).more hW.size)
  have HVb := Lib.hid (fun W (hW : Below W5.heap.size W5 W) => ((HVb0.out.below hb57).more hsz |>.below hW).more hW.size)
  have HVc := Lib.hid (fun W (hW : Below W5.heap.size W5 W) => ((HVc0.out.below hb57).more hsz |>.below hW).more hW.size)
  have c0 := kc hb57 q10
  have c1 := kc hb57 q11
  have c2 := kc hb57 q40
  have c3 := kc hb57 q41
  have c4 := kc hb57 q70
  have c5 := kc hb57 q71
  clear hb5 hb57 hsz ho4 hy4 q10 q11 q40 q41 q70 q71
  go_upto_region 5 with fail
  simp only [List.append_eq, List.cons_append, List.nil_append]
  refine wp_region_held_drew (S := (fun w' => (w'.cell? ⟨h1, 0, none⟩ = some (.slice (some ⟨h0, 0, none⟩) 2 2) ∧ w'.cell? ⟨h1, 1, none⟩ = some (.slice none 0 0) ∧ w'.cell? ⟨h4, 0, none⟩ = some (.slice (some ⟨h2, 0, none⟩) 1 1) ∧ w'.cell? ⟨h4, 1, none⟩ = some (.slice (some ⟨h3, 0, none⟩) 1 1) ∧ w'.cell? ⟨h7, 0, none⟩ = some (.slice (some ⟨h5, 0, none⟩) 1 1) ∧ w'.cell? ⟨h7, 1, none⟩ = some (.slice (some ⟨h6, 0, none⟩) 2 2)) ∧ Below W5.heap.size W5 w')) (by kernel_rfl) ⟨⟨c0, c1, c2, c3, c4, c5⟩, below_drewN (Below.refl _ _) 1⟩ (fun hHeld => ?_)
  (try dsimp only at hHeld)
  generalize W5.drew = X0 at hHeld ⊢
  refine wtk 0 ?_ ?_ ?_
  rotate_left
  · intro w hSw; (try dsimp only at hSw); go_simp; (try with_reducible rfl)
  (try simp only [Act.put, pt8])
  refine wtk 1 ?_ ?_ ?_
  rotate_left
  · intro w hSw; (try dsimp only at hSw); go_simp; (try with_reducible rfl)
  (try simp only [Act.put, pt8])
  refine wtk 2 ?_ ?_ ?_
  rotate_left
  · intro w hSw; (try dsimp only at hSw); go_simp; (try with_reducible rfl)
  (try simp only [Act.put, pt8])
  refine wtk 3 ?_ ?_ ?_
  rotate_left
  · intro w hSw; (try dsimp only at hSw); go_simp; (try with_reducible rfl)
  (try simp only [Act.put, pt8])
  refine wpAnyH_ready (rs := [4]) (by kernel_rfl) (by simp) ?_
  refine AllReadyH.cons rfl (fun K hK => ?_) AllReadyH.nil
  obtain ⟨X4, hX⟩ : ∃ X, X = (X0).alloc (.cells #[.slice (some ⟨h0, 0, none⟩) 2 2, .slice none 0 0, .slice (some ⟨h5, 0, none⟩) 1 1, .slice (some ⟨h6, 0, none⟩) 2 2, .slice (some ⟨h2, 0, none⟩) 1 1, .slice (some ⟨h3, 0, none⟩) 1 1] 24) := ⟨_, rfl⟩
  obtain ⟨g4, hg⟩ : ∃ g, g = (X0).heap.size := ⟨_, rfl⟩
  have hb : Below (X0).heap.size (X0) X4 := by rw [hX]; exact below_al (Below.refl _ _) _
  have HO4 := Lib.hid (show OutsX X4.heap.size X4 (.slice (some ⟨g4, 0, none⟩) 3 3) [⟨.slice (some ⟨h0, 0, none⟩) 2 2, .slice none 0 0, oa⟩, ⟨.slice (some ⟨h5, 0, none⟩) 1 1, .slice (some ⟨h6, 0, none⟩) 2 2, oc⟩, ⟨.slice (some ⟨h2, 0, none⟩) 1 1, .slice (some ⟨h3, 0, none⟩) 1 1, ob⟩] from by rw [hX, hg]; exact lit_outs (X0) [⟨.slice (some ⟨h0, 0, none⟩) 2 2, .slice none 0 0, oa⟩, ⟨.slice (some ⟨h5, 0, none⟩) 1 1, .slice (some ⟨h6, 0, none⟩) 2 2, oc⟩, ⟨.slice (some ⟨h2, 0, none⟩) 1 1, .slice (some ⟨h3, 0, none⟩) 1 1, ob⟩] rfl (by intro x hx; simp only [List.mem_cons, List.not_mem_nil, or_false] at hx; rcases hx with rfl | rfl | rfl; exact (HVa.out _ hHeld.2); exact (HVc.out _ hHeld.2); exact (HVb.out _ hHeld.2)))
  go_simp
  rw [← hX]
  (try rw [← hg])
  clear hX hg
  refine hK.out _ _ ⟨⟨kc hb hHeld.1.1, kc hb hHeld.1.2.1, kc hb hHeld.1.2.2.1, kc hb hHeld.1.2.2.2.1, kc hb hHeld.1.2.2.2.2.1, kc hb hHeld.1.2.2.2.2.2⟩, chain hHeld.2 hb⟩ (fun hHeld => ?_)
  clear hb
  clear hK K
  (try simp only [Act.put, pt8])
  refine wpAnyH_ready (rs := [5]) (by kernel_rfl) (by simp) ?_
  refine AllReadyH.cons rfl (fun K hK => ?_) AllReadyH.nil
  go_simp
  have C := rsame_any (X4) (HL4.out _ hHeld.2) HO4.out (Nat.le_refl _) HLN.out (by simp)
  rw [HLE.out, show decide (([oa, oc, ob] : List Ot) = os [⟨.slice (some ⟨h0, 0, none⟩) 2 2, .slice none 0 0, oa⟩, ⟨.slice (some ⟨h5, 0, none⟩) 1 1, .slice (some ⟨h6, 0, none⟩) 2 2, oc⟩, ⟨.slice (some ⟨h2, 0, none⟩) 1 1, .slice (some ⟨h3, 0, none⟩) 1 1, ob⟩]) = true from (by decide : decide (([oa, oc, ob] : List Ot) = [oa, oc, ob]) = true)] at C
  refine C.mono ?_
  rintro e X5 ⟨rfl, hb⟩
  clear C
  refine hK.out _ _ ⟨⟨kc hb hHeld.1.1, kc hb hHeld.1.2.1, kc hb hHeld.1.2.2.1, kc hb hHeld.1.2.2.2.1, kc hb hHeld.1.2.2.2.2.1, kc hb hHeld.1.2.2.2.2.2⟩, chain hHeld.2 hb⟩ (fun hHeld => ?_)
  clear hb
  clear hK K
  (try simp only [Act.put, pt8])
  refine wtk 6 ?_ ?_ ?_
  rotate_left
  · intro w hSw; (try dsimp only at hSw); go_simp; (try with_reducible rfl)
  (try simp only [Act.put, pt8])
  refine wtk 7 ?_ ?_ ?_
  rotate_left
  · intro w hSw; (try dsimp only at hSw); go_simp; (try with_reducible rfl)
  (try simp only [Act.put, pt8])
  refine wtk 8 ?_ ?_ ?_
  rotate_left
  · intro w hSw; (try dsimp only at hSw); go_simp; (try with_reducible rfl)
  (try simp only [Act.put, pt8])
  refine wpAnyH_ready (rs := [9]) (by kernel_rfl) (by simp) ?_
  refine AllReadyH.cons rfl (fun K hK => ?_) AllReadyH.nil
  go_simp
  have C := oless_any (X5) (HVa.out _ hHeld.2).out (HVb.out _ hHeld.2).out (Nat.le_refl _)
  rw [show decide (Lt oa ob) = true from by decide] at C
  refine C.mono ?_
  rintro e X9 ⟨rfl, hb⟩
  replace hb := hb.1
  clear C
  refine hK.out _ _ ⟨⟨kc hb hHeld.1.1, kc hb hHeld.1.2.1, kc hb hHeld.1.2.2.1, kc hb hHeld.1.2.2.2.1, kc hb hHeld.1.2.2.2.2.1, kc hb hHeld.1.2.2.2.2.2⟩, chain hHeld.2 hb⟩ (fun hHeld => ?_)
  clear hb
  clear hK K
  (try simp only [Act.put, pt8])
  refine wtk 10 ?_ ?_ ?_
  rotate_left
  · intro w hSw; (try dsimp only at hSw); go_simp; (try with_reducible rfl)
  (try simp only [Act.put, pt8])
  refine wtk 11 ?_ ?_ ?_
  rotate_left
  · intro w hSw; (try dsimp only at hSw); go_simp; (try with_reducible rfl)
  (try simp only [Act.put, pt8])
  refine wtk 12 ?_ ?_ ?_
  rotate_left
  · intro w hSw; (try dsimp only at hSw); go_simp; (try with_reducible rfl)
  (try simp only [Act.put, pt8])
  refine wtk 13 ?_ ?_ ?_
  rotate_left
  · intro w hSw; (try dsimp only at hSw); go_simp; (try with_reducible rfl)
  (try simp only [Act.put, pt8])
  refine wpAnyH_ready (rs := [14]) (by kernel_rfl) (by simp) ?_
  refine AllReadyH.cons rfl (fun K hK => ?_) AllReadyH.nil
  go_simp
  have C := oless_any (X9) (HVb.out _ hHeld.2).out (HVa.out _ hHeld.2).out (Nat.le_refl _)
  rw [show decide (Lt ob oa) = false from by decide] at C
  refine C.mono ?_
  rintro e X14 ⟨rfl, hb⟩
  replace hb := hb.1
  clear C
  refine hK.out _ _ ⟨⟨kc hb hHeld.1.1, kc hb hHeld.1.2.1, kc hb hHeld.1.2.2.1, kc hb hHeld.1.2.2.2.1, kc hb hHeld.1.2.2.2.2.1, kc hb hHeld.1.2.2.2.2.2⟩, chain hHeld.2 hb⟩ (fun hHeld => ?_)
  clear hb
  clear hK K
  (try simp only [Act.put, pt8])
  refine wtk 15 ?_ ?_ ?_
  rotate_left
  · intro w hSw; (try dsimp only at hSw); go_simp; (try with_reducible rfl)
  (try simp only [Act.put, pt8])
  refine wtk 16 ?_ ?_ ?_
  rotate_left
  · intro w hSw; (try dsimp only at hSw); go_simp; (try with_reducible rfl)
  (try simp only [Act.put, pt8])
  refine wtk 17 ?_ ?_ ?_
  rotate_left
  · intro w hSw; (try dsimp only at hSw); go_simp; (try with_reducible rfl)
  (try simp only [Act.put, pt8])
  refine wtk 18 ?_ ?_ ?_
  rotate_left
  · intro w hSw; (try dsimp only at hSw); go_simp; (try with_reducible rfl)
  (try simp only [Act.put, pt8])
  refine wtk 19 ?_ ?_ ?_
  rotate_left
  · intro w hSw; (try dsimp only at hSw); go_simp; (try with_reducible rfl)
  (try simp only [Act.put, pt8])
  refine wpAnyH_ready (rs := [20]) (by kernel_rfl) (by simp) ?_
  refine AllReadyH.cons rfl (fun K hK => ?_) AllReadyH.nil
  go_simp
  have C := oless_any (X14) (HVa.out _ hHeld.2).out (HVa.out _ hHeld.2).out (Nat.le_refl _)
  rw [show decide (Lt oa oa) = false from by decide] at C
  refine C.mono ?_
  rintro e X20 ⟨rfl, hb⟩
  replace hb := hb.1
  clear C
  refine hK.out _ _ ⟨⟨kc hb hHeld.1.1, kc hb hHeld.1.2.1, kc hb hHeld.1.2.2.1, kc hb hHeld.1.2.2.2.1, kc hb hHeld.1.2.2.2.2.1, kc hb hHeld.1.2.2.2.2.2⟩, chain hHeld.2 hb⟩ (fun hHeld => ?_)
  clear hb
  clear hK K
  (try simp only [Act.put, pt8])
  refine wtk 21 ?_ ?_ ?_
  rotate_left
  · intro w hSw; (try dsimp only at hSw); go_simp; (try with_reducible rfl)
  (try simp only [Act.put, pt8])
  refine wtk 22 ?_ ?_ ?_
  rotate_left
  · intro w hSw; (try dsimp only at hSw); go_simp; (try with_reducible rfl)
  (try simp only [Act.put, pt8])
  refine wtk 23 ?_ ?_ ?_
  rotate_left
  · intro w hSw; (try dsimp only at hSw); go_simp; (try with_reducible rfl)
  (try simp only [Act.put, pt8])
  refine wtk 24 ?_ ?_ ?_
  rotate_left
  · intro w hSw; (try dsimp only at hSw); go_simp; (try with_reducible rfl)
  (try simp only [Act.put, pt8])
  refine wtk 25 ?_ ?_ ?_
  rotate_left
  · intro w hSw; (try dsimp only at hSw); go_simp; (try with_reducible rfl)
  (try simp only [Act.put, pt8])
  refine wpAnyH_ready (rs := [26]) (by kernel_rfl) (by simp) ?_
  refine AllReadyH.cons rfl (fun K hK => ?_) AllReadyH.nil
  go_simp
  have C := ohas_any (X20) (HL4.out _ hHeld.2) (HVc.out _ hHeld.2).out (Nat.le_refl _) HLN.out HLS.out
  rw [HLE.out, show decide (oc ∈ ([oa, oc, ob] : List Ot)) = true from by decide] at C
  refine C.mono ?_
  rintro e X26 ⟨rfl, hb⟩
  replace hb := hb.1
  clear C
  refine hK.out _ _ ⟨⟨kc hb hHeld.1.1, kc hb hHeld.1.2.1, kc hb hHeld.1.2.2.1, kc hb hHeld.1.2.2.2.1, kc hb hHeld.1.2.2.2.2.1, kc hb hHeld.1.2.2.2.2.2⟩, chain hHeld.2 hb⟩ (fun hHeld => ?_)
  clear hb
  clear hK K
  (try simp only [Act.put, pt8])
  refine wtk 27 ?_ ?_ ?_
  rotate_left
  · intro w hSw; (try dsimp only at hSw); go_simp; (try with_reducible rfl)
  (try simp only [Act.put, pt8])
  refine wtk 28 ?_ ?_ ?_
  rotate_left
  · intro w hSw; (try dsimp only at hSw); go_simp; (try with_reducible rfl)
  (try simp only [Act.put, pt8])
  refine wtk 29 ?_ ?_ ?_
  rotate_left
  · intro w hSw; (try dsimp only at hSw); go_simp; (try with_reducible rfl)
  (try simp only [Act.put, pt8])
  refine wtk 30 ?_ ?_ ?_
  rotate_left
  · intro w hSw; (try dsimp only at hSw); go_simp; (try with_reducible rfl)
  (try simp only [Act.put, pt8])
  refine wpAnyH_ready (rs := [31]) (by kernel_rfl) (by simp) ?_
  refine AllReadyH.cons rfl (fun K hK => ?_) AllReadyH.nil
  go_simp
  have C := ohas_any (o := oz) (X26) (HL4.out _ hHeld.2) (⟨_, _, rfl, Rw.nil _ _, Rw.nil _ _⟩ : OutR (X26).heap.size (X26) (.agg #[.slice none 0 0, .slice none 0 0]) oz) (Nat.le_refl _) HLN.out HLS.out
  rw [HLE.out, show decide (oz ∈ ([oa, oc, ob] : List Ot)) = false from by decide] at C
  refine C.mono ?_
  rintro e X31 ⟨rfl, hb⟩
  replace hb := hb.1
  clear C
  refine hK.out _ _ ⟨⟨kc hb hHeld.1.1, kc hb hHeld.1.2.1, kc hb hHeld.1.2.2.1, kc hb hHeld.1.2.2.2.1, kc hb hHeld.1.2.2.2.2.1, kc hb hHeld.1.2.2.2.2.2⟩, chain hHeld.2 hb⟩ (fun hHeld => ?_)
  clear hb
  clear hK K
  (try simp only [Act.put, pt8])
  refine wtk 32 ?_ ?_ ?_
  rotate_left
  · intro w hSw; (try dsimp only at hSw); go_simp; (try with_reducible rfl)
  (try simp only [Act.put, pt8])
  refine wtk 33 ?_ ?_ ?_
  rotate_left
  · intro w hSw; (try dsimp only at hSw); go_simp; (try with_reducible rfl)
  (try simp only [Act.put, pt8])
  refine wtk 34 ?_ ?_ ?_
  rotate_left
  · intro w hSw; (try dsimp only at hSw); go_simp; (try with_reducible rfl)
  (try simp only [Act.put, pt8])
  refine wtk 35 ?_ ?_ ?_
  rotate_left
  · intro w hSw; (try dsimp only at hSw); go_simp; (try with_reducible rfl)
  (try simp only [Act.put, pt8])
  refine wtk 36 ?_ ?_ ?_
  rotate_left
  · intro w hSw; (try dsimp only at hSw); go_simp; (try with_reducible rfl)
  (try simp only [Act.put, pt8])
  apply cutT
  · intro hT
    refine wtk 39 ?_ ?_ ?_
    rotate_left
    · intro w hSw; (try dsimp only at hSw); go_simp; (try with_reducible rfl)
    (try simp only [Act.put, pt8])
    refine wtk 40 ?_ ?_ ?_
    rotate_left
    · intro w hSw; (try dsimp only at hSw); go_simp; (try with_reducible rfl)
    (try simp only [Act.put, pt8])
    refine wpAnyH_ready (rs := [37, 41]) (by kernel_rfl) (by simp) ?_
    refine AllReadyH.cons rfl (fun K hK => ?_) (AllReadyH.cons rfl (fun K hK => ?_) (AllReadyH.nil))
    · -- 37 first
      obtain ⟨X37, hX⟩ : ∃ X, X = (X31).alloc (.cells #[.slice (some ⟨h5, 0, none⟩) 1 1, .slice (some ⟨h6, 0, none⟩) 2 2] 24) := ⟨_, rfl⟩
      obtain ⟨g37, hg⟩ : ∃ g, g = (X31).heap.size := ⟨_, rfl⟩
      have hb : Below (X31).heap.size (X31) X37 := by rw [hX]; exact below_al (Below.refl _ _) _
      have HO37 := Lib.hid (show OutsX X37.heap.size X37 (.slice (some ⟨g37, 0, none⟩) 1 1) [⟨.slice (some ⟨h5, 0, none⟩) 1 1, .slice (some ⟨h6, 0, none⟩) 2 2, oc⟩] from by rw [hX, hg]; exact lit_outs (X31) [⟨.slice (some ⟨h5, 0, none⟩) 1 1, .slice (some ⟨h6, 0, none⟩) 2 2, oc⟩] rfl (by intro x hx; simp only [List.mem_cons, List.not_mem_nil, or_false] at hx; subst hx; exact (HVc.out _ hHeld.2)))
      go_simp
      rw [← hX]
      (try rw [← hg])
      clear hX hg
      refine hK.out _ _ ⟨⟨kc hb hHeld.1.1, kc hb hHeld.1.2.1, kc hb hHeld.1.2.2.1, kc hb hHeld.1.2.2.2.1, kc hb hHeld.1.2.2.2.2.1, kc hb hHeld.1.2.2.2.2.2⟩, chain hHeld.2 hb⟩ (fun hHeld => ?_)
      clear hb
      clear hK K
      (try simp only [Act.put, pt8])
      refine wpAnyH_ready (rs := [38, 41]) (by kernel_rfl) (by simp) ?_
      refine AllReadyH.cons rfl (fun K hK => ?_) (AllReadyH.cons rfl (fun K hK => ?_) (AllReadyH.nil))
      · -- 38 first
        go_simp
        have C := ominus_any (X37) (HL4.out _ hHeld.2) HO37.out (Nat.le_refl _) HLN.out HLM.out (by simp) (show Srt [oc] from by decide)
        refine C.mono ?_
        rintro e X38 ⟨u38, z38, rfl, hz38, ho38, hb⟩
        clear C
        rw [HLE.out] at hz38
        have HZ38 := Lib.hid (show os z38 = [oa, ob] from hz38.trans (by decide : minO [oa, oc, ob] [oc] = [oa, ob]))
        have HO38 := Lib.hid ho38.outs
        obtain ⟨A38, c38, rfl⟩ := own_slice ho38.1
        obtain ⟨m38, hm38⟩ : ∃ m, m = z38.length := ⟨_, rfl⟩
        rw [← hm38] at HO38 ⊢
        have HM38 := Lib.hid (show z38.length ≤ 1000000 from by have := congrArg List.length HZ38.out; simp at this; omega)
        clear hz38 ho38 hm38
        refine hK.out _ _ ⟨⟨kc hb hHeld.1.1, kc hb hHeld.1.2.1, kc hb hHeld.1.2.2.1, kc hb hHeld.1.2.2.2.1, kc hb hHeld.1.2.2.2.2.1, kc hb hHeld.1.2.2.2.2.2⟩, chain hHeld.2 hb⟩ (fun hHeld => ?_)
        clear hb
        clear hK K
        (try simp only [Act.put, pt8])
        refine wpAnyH_ready (rs := [41]) (by kernel_rfl) (by simp) ?_
        refine AllReadyH.cons rfl (fun K hK => ?_) AllReadyH.nil
        obtain ⟨X41, hX⟩ : ∃ X, X = (X38).alloc (.cells #[.slice (some ⟨h0, 0, none⟩) 2 2, .slice none 0 0, .slice (some ⟨h2, 0, none⟩) 1 1, .slice (some ⟨h3, 0, none⟩) 1 1] 24) := ⟨_, rfl⟩
        obtain ⟨g41, hg⟩ : ∃ g, g = (X38).heap.size := ⟨_, rfl⟩
        have hb : Below (X38).heap.size (X38) X41 := by rw [hX]; exact below_al (Below.refl _ _) _
        have HO41 := Lib.hid (show OutsX X41.heap.size X41 (.slice (some ⟨g41, 0, none⟩) 2 2) [⟨.slice (some ⟨h0, 0, none⟩) 2 2, .slice none 0 0, oa⟩, ⟨.slice (some ⟨h2, 0, none⟩) 1 1, .slice (some ⟨h3, 0, none⟩) 1 1, ob⟩] from by rw [hX, hg]; exact lit_outs (X38) [⟨.slice (some ⟨h0, 0, none⟩) 2 2, .slice none 0 0, oa⟩, ⟨.slice (some ⟨h2, 0, none⟩) 1 1, .slice (some ⟨h3, 0, none⟩) 1 1, ob⟩] rfl (by intro x hx; simp only [List.mem_cons, List.not_mem_nil, or_false] at hx; rcases hx with rfl | rfl; exact (HVa.out _ hHeld.2); exact (HVb.out _ hHeld.2)))
        replace HO38 := Lib.hid ((HO38.out.below hb).more hb.size)
        go_simp
        rw [← hX]
        (try rw [← hg])
        clear hX hg
        refine hK.out _ _ ⟨⟨kc hb hHeld.1.1, kc hb hHeld.1.2.1, kc hb hHeld.1.2.2.1, kc hb hHeld.1.2.2.2.1, kc hb hHeld.1.2.2.2.2.1, kc hb hHeld.1.2.2.2.2.2⟩, chain hHeld.2 hb⟩ (fun hHeld => ?_)
        clear hb
        clear hK K
        (try simp only [Act.put, pt8])
        refine wpAnyH_ready (rs := [42]) (by kernel_rfl) (by simp) ?_
        refine AllReadyH.cons rfl (fun K hK => ?_) AllReadyH.nil
        go_simp
        have C := rsame_any (X41) HO38.out HO41.out (Nat.le_refl _) HM38.out (by simp)
        rw [HZ38.out, show decide (([oa, ob] : List Ot) = os [⟨.slice (some ⟨h0, 0, none⟩) 2 2, .slice none 0 0, oa⟩, ⟨.slice (some ⟨h2, 0, none⟩) 1 1, .slice (some ⟨h3, 0, none⟩) 1 1, ob⟩]) = true from (by decide : decide (([oa, ob] : List Ot) = [oa, ob]) = true)] at C
        refine C.mono ?_
        rintro e X42 ⟨rfl, hb⟩
        clear C
        refine hK.out _ _ ⟨⟨kc hb hHeld.1.1, kc hb hHeld.1.2.1, kc hb hHeld.1.2.2.1, kc hb hHeld.1.2.2.2.1, kc hb hHeld.1.2.2.2.2.1, kc hb hHeld.1.2.2.2.2.2⟩, chain hHeld.2 hb⟩ (fun hHeld => ?_)
        clear hb
        clear hK K
        (try simp only [Act.put, pt8])
        refine wtk 43 ?_ ?_ ?_
        rotate_left
        · intro w hSw; (try dsimp only at hSw); go_simp; (try with_reducible rfl)
        (try simp only [Act.put, pt8])
        (try clear HO37)
        (try clear HO38)
        (try clear HO41)
        (try clear HZ38)
        (try clear HM38)
        revert hHeld
        revert X42
        revert m38
        revert c38
        revert A38
        revert g41
        revert g37
        exact hT.out
      · -- 41 first
        obtain ⟨X41, hX⟩ : ∃ X, X = (X37).alloc (.cells #[.slice (some ⟨h0, 0, none⟩) 2 2, .slice none 0 0, .slice (some ⟨h2, 0, none⟩) 1 1, .slice (some ⟨h3, 0, none⟩) 1 1] 24) := ⟨_, rfl⟩
        obtain ⟨g41, hg⟩ : ∃ g, g = (X37).heap.size := ⟨_, rfl⟩
        have hb : Below (X37).heap.size (X37) X41 := by rw [hX]; exact below_al (Below.refl _ _) _
        have HO41 := Lib.hid (show OutsX X41.heap.size X41 (.slice (some ⟨g41, 0, none⟩) 2 2) [⟨.slice (some ⟨h0, 0, none⟩) 2 2, .slice none 0 0, oa⟩, ⟨.slice (some ⟨h2, 0, none⟩) 1 1, .slice (some ⟨h3, 0, none⟩) 1 1, ob⟩] from by rw [hX, hg]; exact lit_outs (X37) [⟨.slice (some ⟨h0, 0, none⟩) 2 2, .slice none 0 0, oa⟩, ⟨.slice (some ⟨h2, 0, none⟩) 1 1, .slice (some ⟨h3, 0, none⟩) 1 1, ob⟩] rfl (by intro x hx; simp only [List.mem_cons, List.not_mem_nil, or_false] at hx; rcases hx with rfl | rfl; exact (HVa.out _ hHeld.2); exact (HVb.out _ hHeld.2)))
        replace HO37 := Lib.hid ((HO37.out.below hb).more hb.size)
        go_simp
        rw [← hX]
        (try rw [← hg])
        clear hX hg
        refine hK.out _ _ ⟨⟨kc hb hHeld.1.1, kc hb hHeld.1.2.1, kc hb hHeld.1.2.2.1, kc hb hHeld.1.2.2.2.1, kc hb hHeld.1.2.2.2.2.1, kc hb hHeld.1.2.2.2.2.2⟩, chain hHeld.2 hb⟩ (fun hHeld => ?_)
        clear hb
        clear hK K
        (try simp only [Act.put, pt8])
        refine wpAnyH_ready (rs := [38]) (by kernel_rfl) (by simp) ?_
        refine AllReadyH.cons rfl (fun K hK => ?_) AllReadyH.nil
        go_simp
        have C := ominus_any (X41) (HL4.out _ hHeld.2) HO37.out (Nat.le_refl _) HLN.out HLM.out (by simp) (show Srt [oc] from by decide)
        refine C.mono ?_
        rintro e X38 ⟨u38, z38, rfl, hz38, ho38, hb⟩
        clear C
        rw [HLE.out] at hz38
        have HZ38 := Lib.hid (show os z38 = [oa, ob] from hz38.trans (by decide : minO [oa, oc, ob] [oc] = [oa, ob]))
        have HO38 := Lib.hid ho38.outs
        obtain ⟨A38, c38, rfl⟩ := own_slice ho38.1
        obtain ⟨m38, hm38⟩ : ∃ m, m = z38.length := ⟨_, rfl⟩
        rw [← hm38] at HO38 ⊢
        have HM38 := Lib.hid (show z38.length ≤ 1000000 from by have := congrArg List.length HZ38.out; simp at this; omega)
        clear hz38 ho38 hm38
        replace HO41 := Lib.hid ((HO41.out.below hb).more hb.size)
        refine hK.out _ _ ⟨⟨kc hb hHeld.1.1, kc hb hHeld.1.2.1, kc hb hHeld.1.2.2.1, kc hb hHeld.1.2.2.2.1, kc hb hHeld.1.2.2.2.2.1, kc hb hHeld.1.2.2.2.2.2⟩, chain hHeld.2 hb⟩ (fun hHeld => ?_)
        clear hb
        clear hK K
        (try simp only [Act.put, pt8])
        refine wpAnyH_ready (rs := [42]) (by kernel_rfl) (by simp) ?_
        refine AllReadyH.cons rfl (fun K hK => ?_) AllReadyH.nil
        go_simp
        have C := rsame_any (X38) HO38.out HO41.out (Nat.le_refl _) HM38.out (by simp)
        rw [HZ38.out, show decide (([oa, ob] : List Ot) = os [⟨.slice (some ⟨h0, 0, none⟩) 2 2, .slice none 0 0, oa⟩, ⟨.slice (some ⟨h2, 0, none⟩) 1 1, .slice (some ⟨h3, 0, none⟩) 1 1, ob⟩]) = true from (by decide : decide (([oa, ob] : List Ot) = [oa, ob]) = true)] at C
        refine C.mono ?_
        rintro e X42 ⟨rfl, hb⟩
        clear C
        refine hK.out _ _ ⟨⟨kc hb hHeld.1.1, kc hb hHeld.1.2.1, kc hb hHeld.1.2.2.1, kc hb hHeld.1.2.2.2.1, kc hb hHeld.1.2.2.2.2.1, kc hb hHeld.1.2.2.2.2.2⟩, chain hHeld.2 hb⟩ (fun hHeld => ?_)
        clear hb
        clear hK K
        (try simp only [Act.put, pt8])
        refine wtk 43 ?_ ?_ ?_
        rotate_left
        · intro w hSw; (try dsimp only at hSw); go_simp; (try with_reducible rfl)
        (try simp only [Act.put, pt8])
        (try clear HO37)
        (try clear HO38)
        (try clear HO41)
        (try clear HZ38)
        (try clear HM38)
        revert hHeld
        revert X42
        revert m38
        revert c38
        revert A38
        revert g41
        revert g37
        exact hT.out
    · -- 41 first
      obtain ⟨X41, hX⟩ : ∃ X, X = (X31).alloc (.cells #[.slice (some ⟨h0, 0, none⟩) 2 2, .slice none 0 0, .slice (some ⟨h2, 0, none⟩) 1 1, .slice (some ⟨h3, 0, none⟩) 1 1] 24) := ⟨_, rfl⟩
      obtain ⟨g41, hg⟩ : ∃ g, g = (X31).heap.size := ⟨_, rfl⟩
      have hb : Below (X31).heap.size (X31) X41 := by rw [hX]; exact below_al (Below.refl _ _) _
      have HO41 := Lib.hid (show OutsX X41.heap.size X41 (.slice (some ⟨g41, 0, none⟩) 2 2) [⟨.slice (some ⟨h0, 0, none⟩) 2 2, .slice none 0 0, oa⟩, ⟨.slice (some ⟨h2, 0, none⟩) 1 1, .slice (some ⟨h3, 0, none⟩) 1 1, ob⟩] from by rw [hX, hg]; exact lit_outs (X31) [⟨.slice (some ⟨h0, 0, none⟩) 2 2, .slice none 0 0, oa⟩, ⟨.slice (some ⟨h2, 0, none⟩) 1 1, .slice (some ⟨h3, 0, none⟩) 1 1, ob⟩] rfl (by intro x hx; simp only [List.mem_cons, List.not_mem_nil, or_false] at hx; rcases hx with rfl | rfl; exact (HVa.out _ hHeld.2); exact (HVb.out _ hHeld.2)))
      go_simp
      rw [← hX]
      (try rw [← hg])
      clear hX hg
      refine hK.out _ _ ⟨⟨kc hb hHeld.1.1, kc hb hHeld.1.2.1, kc hb hHeld.1.2.2.1, kc hb hHeld.1.2.2.2.1, kc hb hHeld.1.2.2.2.2.1, kc hb hHeld.1.2.2.2.2.2⟩, chain hHeld.2 hb⟩ (fun hHeld => ?_)
      clear hb
      clear hK K
      (try simp only [Act.put, pt8])
      refine wpAnyH_ready (rs := [37]) (by kernel_rfl) (by simp) ?_
      refine AllReadyH.cons rfl (fun K hK => ?_) AllReadyH.nil
      obtain ⟨X37, hX⟩ : ∃ X, X = (X41).alloc (.cells #[.slice (some ⟨h5, 0, none⟩) 1 1, .slice (some ⟨h6, 0, none⟩) 2 2] 24) := ⟨_, rfl⟩
      obtain ⟨g37, hg⟩ : ∃ g, g = (X41).heap.size := ⟨_, rfl⟩
      have hb : Below (X41).heap.size (X41) X37 := by rw [hX]; exact below_al (Below.refl _ _) _
      have HO37 := Lib.hid (show OutsX X37.heap.size X37 (.slice (some ⟨g37, 0, none⟩) 1 1) [⟨.slice (some ⟨h5, 0, none⟩) 1 1, .slice (some ⟨h6, 0, none⟩) 2 2, oc⟩] from by rw [hX, hg]; exact lit_outs (X41) [⟨.slice (some ⟨h5, 0, none⟩) 1 1, .slice (some ⟨h6, 0, none⟩) 2 2, oc⟩] rfl (by intro x hx; simp only [List.mem_cons, List.not_mem_nil, or_false] at hx; subst hx; exact (HVc.out _ hHeld.2)))
      replace HO41 := Lib.hid ((HO41.out.below hb).more hb.size)
      go_simp
      rw [← hX]
      (try rw [← hg])
      clear hX hg
      refine hK.out _ _ ⟨⟨kc hb hHeld.1.1, kc hb hHeld.1.2.1, kc hb hHeld.1.2.2.1, kc hb hHeld.1.2.2.2.1, kc hb hHeld.1.2.2.2.2.1, kc hb hHeld.1.2.2.2.2.2⟩, chain hHeld.2 hb⟩ (fun hHeld => ?_)
      clear hb
      clear hK K
      (try simp only [Act.put, pt8])
      refine wpAnyH_ready (rs := [38]) (by kernel_rfl) (by simp) ?_
      refine AllReadyH.cons rfl (fun K hK => ?_) AllReadyH.nil
      go_simp
      have C := ominus_any (X37) (HL4.out _ hHeld.2) HO37.out (Nat.le_refl _) HLN.out HLM.out (by simp) (show Srt [oc] from by decide)
      refine C.mono ?_
      rintro e X38 ⟨u38, z38, rfl, hz38, ho38, hb⟩
      clear C
      rw [HLE.out] at hz38
      have HZ38 := Lib.hid (show os z38 = [oa, ob] from hz38.trans (by decide : minO [oa, oc, ob] [oc] = [oa, ob]))
      have HO38 := Lib.hid ho38.outs
      obtain ⟨A38, c38, rfl⟩ := own_slice ho38.1
      obtain ⟨m38, hm38⟩ : ∃ m, m = z38.length := ⟨_, rfl⟩
      rw [← hm38] at HO38 ⊢
      have HM38 := Lib.hid (show z38.length ≤ 1000000 from by have := congrArg List.length HZ38.out; simp at this; omega)
      clear hz38 ho38 hm38
      replace HO41 := Lib.hid ((HO41.out.below hb).more hb.size)
      refine hK.out _ _ ⟨⟨kc hb hHeld.1.1, kc hb hHeld.1.2.1, kc hb hHeld.1.2.2.1, kc hb hHeld.1.2.2.2.1, kc hb hHeld.1.2.2.2.2.1, kc hb hHeld.1.2.2.2.2.2⟩, chain hHeld.2 hb⟩ (fun hHeld => ?_)
      clear hb
      clear hK K
      (try simp only [Act.put, pt8])
      refine wpAnyH_ready (rs := [42]) (by kernel_rfl) (by simp) ?_
      refine AllReadyH.cons rfl (fun K hK => ?_) AllReadyH.nil
      go_simp
      have C := rsame_any (X38) HO38.out HO41.out (Nat.le_refl _) HM38.out (by simp)
      rw [HZ38.out, show decide (([oa, ob] : List Ot) = os [⟨.slice (some ⟨h0, 0, none⟩) 2 2, .slice none 0 0, oa⟩, ⟨.slice (some ⟨h2, 0, none⟩) 1 1, .slice (some ⟨h3, 0, none⟩) 1 1, ob⟩]) = true from (by decide : decide (([oa, ob] : List Ot) = [oa, ob]) = true)] at C
      refine C.mono ?_
      rintro e X42 ⟨rfl, hb⟩
      clear C
      refine hK.out _ _ ⟨⟨kc hb hHeld.1.1, kc hb hHeld.1.2.1, kc hb hHeld.1.2.2.1, kc hb hHeld.1.2.2.2.1, kc hb hHeld.1.2.2.2.2.1, kc hb hHeld.1.2.2.2.2.2⟩, chain hHeld.2 hb⟩ (fun hHeld => ?_)
      clear hb
      clear hK K
      (try simp only [Act.put, pt8])
      refine wtk 43 ?_ ?_ ?_
      rotate_left
      · intro w hSw; (try dsimp only at hSw); go_simp; (try with_reducible rfl)
      (try simp only [Act.put, pt8])
      (try clear HO37)
      (try clear HO38)
      (try clear HO41)
      (try clear HZ38)
      (try clear HM38)
      revert hHeld
      revert X42
      revert m38
      revert c38
      revert A38
      revert g41
      revert g37
      exact hT.out
  · intro g37 g41 A38 c38 m38 X42 hHeld
    apply cutT
    · intro hT
      refine wtk 44 ?_ ?_ ?_
      rotate_left
      · intro w hSw; (try dsimp only at hSw); go_simp; (try with_reducible rfl)
      (try simp only [Act.put, pt8])
      refine wtk 45 ?_ ?_ ?_
      rotate_left
      · intro w hSw; (try dsimp only at hSw); go_simp; (try with_reducible rfl)
      (try simp only [Act.put, pt8])
      refine wtk 47 ?_ ?_ ?_
      rotate_left
      · intro w hSw; (try dsimp only at hSw); go_simp; (try with_reducible rfl)
      (try simp only [Act.put, pt8])
      refine wtk 49 ?_ ?_ ?_
      rotate_left
      · intro w hSw; (try dsimp only at hSw); go_simp; (try with_reducible rfl)
      (try simp only [Act.put, pt8])
      refine wtk 50 ?_ ?_ ?_
      rotate_left
      · intro w hSw; (try dsimp only at hSw); go_simp; (try with_reducible rfl)
      (try simp only [Act.put, pt8])
      refine wpAnyH_ready (rs := [46, 51]) (by kernel_rfl) (by simp) ?_
      refine AllReadyH.cons rfl (fun K hK => ?_) (AllReadyH.cons rfl (fun K hK => ?_) (AllReadyH.nil))
      · -- 46 first
        obtain ⟨X46, hX⟩ : ∃ X, X = (X42).alloc (.cells #[.slice (some ⟨h0, 0, none⟩) 2 2, .slice none 0 0] 24) := ⟨_, rfl⟩
        obtain ⟨g46, hg⟩ : ∃ g, g = (X42).heap.size := ⟨_, rfl⟩
        have hb : Below (X42).heap.size (X42) X46 := by rw [hX]; exact below_al (Below.refl _ _) _
        have HO46 := Lib.hid (show OutsX X46.heap.size X46 (.slice (some ⟨g46, 0, none⟩) 1 1) [⟨.slice (some ⟨h0, 0, none⟩) 2 2, .slice none 0 0, oa⟩] from by rw [hX, hg]; exact lit_outs (X42) [⟨.slice (some ⟨h0, 0, none⟩) 2 2, .slice none 0 0, oa⟩] rfl (by intro x hx; simp only [List.mem_cons, List.not_mem_nil, or_false] at hx; subst hx; exact (HVa.out _ hHeld.2)))
        go_simp
        rw [← hX]
        (try rw [← hg])
        clear hX hg
        refine hK.out _ _ ⟨⟨kc hb hHeld.1.1, kc hb hHeld.1.2.1, kc hb hHeld.1.2.2.1, kc hb hHeld.1.2.2.2.1, kc hb hHeld.1.2.2.2.2.1, kc hb hHeld.1.2.2.2.2.2⟩, chain hHeld.2 hb⟩ (fun hHeld => ?_)
        clear hb
        clear hK K
        (try simp only [Act.put, pt8])
        refine wpAnyH_ready (rs := [48, 51]) (by kernel_rfl) (by simp) ?_
        refine AllReadyH.cons rfl (fun K hK => ?_) (AllReadyH.cons rfl (fun K hK => ?_) (AllReadyH.nil))
        · -- 48 first
          go_simp
          have C := oput_any (X46) HO46.out (HVb.out _ hHeld.2).out (Nat.le_refl _) (by simp) (by intro x hx; rw [List.mem_singleton.1 hx]; exact ⟨by simp, by simp⟩) (by simp) (by simp) (show Srt [oa] from by decide)
          refine C.mono ?_
          rintro e X48 ⟨u48, z48, rfl, hz48, ho48, hb⟩
          clear C
          have HZ48 := Lib.hid (show os z48 = [oa, ob] from hz48.trans (by decide : putO [oa] ob = [oa, ob]))
          have HO48 := Lib.hid ho48.outs
          obtain ⟨A48, c48, rfl⟩ := own_slice ho48.1
          obtain ⟨m48, hm48⟩ : ∃ m, m = z48.length := ⟨_, rfl⟩
          rw [← hm48] at HO48 ⊢
          have HM48 := Lib.hid (show z48.length ≤ 1000000 from by have := congrArg List.length HZ48.out; simp at this; omega)
          clear hz48 ho48 hm48
          refine hK.out _ _ ⟨⟨kc hb hHeld.1.1, kc hb hHeld.1.2.1, kc hb hHeld.1.2.2.1, kc hb hHeld.1.2.2.2.1, kc hb hHeld.1.2.2.2.2.1, kc hb hHeld.1.2.2.2.2.2⟩, chain hHeld.2 hb⟩ (fun hHeld => ?_)
          clear hb
          clear hK K
          (try simp only [Act.put, pt8])
          refine wpAnyH_ready (rs := [51]) (by kernel_rfl) (by simp) ?_
          refine AllReadyH.cons rfl (fun K hK => ?_) AllReadyH.nil
          obtain ⟨X51, hX⟩ : ∃ X, X = (X48).alloc (.cells #[.slice (some ⟨h0, 0, none⟩) 2 2, .slice none 0 0, .slice (some ⟨h2, 0, none⟩) 1 1, .slice (some ⟨h3, 0, none⟩) 1 1] 24) := ⟨_, rfl⟩
          obtain ⟨g51, hg⟩ : ∃ g, g = (X48).heap.size := ⟨_, rfl⟩
          have hb : Below (X48).heap.size (X48) X51 := by rw [hX]; exact below_al (Below.refl _ _) _
          have HO51 := Lib.hid (show OutsX X51.heap.size X51 (.slice (some ⟨g51, 0, none⟩) 2 2) [⟨.slice (some ⟨h0, 0, none⟩) 2 2, .slice none 0 0, oa⟩, ⟨.slice (some ⟨h2, 0, none⟩) 1 1, .slice (some ⟨h3, 0, none⟩) 1 1, ob⟩] from by rw [hX, hg]; exact lit_outs (X48) [⟨.slice (some ⟨h0, 0, none⟩) 2 2, .slice none 0 0, oa⟩, ⟨.slice (some ⟨h2, 0, none⟩) 1 1, .slice (some ⟨h3, 0, none⟩) 1 1, ob⟩] rfl (by intro x hx; simp only [List.mem_cons, List.not_mem_nil, or_false] at hx; rcases hx with rfl | rfl; exact (HVa.out _ hHeld.2); exact (HVb.out _ hHeld.2)))
          replace HO48 := Lib.hid ((HO48.out.below hb).more hb.size)
          go_simp
          rw [← hX]
          (try rw [← hg])
          clear hX hg
          refine hK.out _ _ ⟨⟨kc hb hHeld.1.1, kc hb hHeld.1.2.1, kc hb hHeld.1.2.2.1, kc hb hHeld.1.2.2.2.1, kc hb hHeld.1.2.2.2.2.1, kc hb hHeld.1.2.2.2.2.2⟩, chain hHeld.2 hb⟩ (fun hHeld => ?_)
          clear hb
          clear hK K
          (try simp only [Act.put, pt8])
          refine wpAnyH_ready (rs := [52]) (by kernel_rfl) (by simp) ?_
          refine AllReadyH.cons rfl (fun K hK => ?_) AllReadyH.nil
          go_simp
          have C := rsame_any (X51) HO48.out HO51.out (Nat.le_refl _) HM48.out (by simp)
          rw [HZ48.out, show decide (([oa, ob] : List Ot) = os [⟨.slice (some ⟨h0, 0, none⟩) 2 2, .slice none 0 0, oa⟩, ⟨.slice (some ⟨h2, 0, none⟩) 1 1, .slice (some ⟨h3, 0, none⟩) 1 1, ob⟩]) = true from (by decide : decide (([oa, ob] : List Ot) = [oa, ob]) = true)] at C
          refine C.mono ?_
          rintro e X52 ⟨rfl, hb⟩
          clear C
          refine hK.out _ _ ⟨⟨kc hb hHeld.1.1, kc hb hHeld.1.2.1, kc hb hHeld.1.2.2.1, kc hb hHeld.1.2.2.2.1, kc hb hHeld.1.2.2.2.2.1, kc hb hHeld.1.2.2.2.2.2⟩, chain hHeld.2 hb⟩ (fun hHeld => ?_)
          clear hb
          clear hK K
          (try simp only [Act.put, pt8])
          refine wtk 53 ?_ ?_ ?_
          rotate_left
          · intro w hSw; (try dsimp only at hSw); go_simp; (try with_reducible rfl)
          (try simp only [Act.put, pt8])
          (try clear HO46)
          (try clear HO48)
          (try clear HO51)
          (try clear HZ48)
          (try clear HM48)
          revert hHeld
          revert X52
          revert m48
          revert c48
          revert A48
          revert g51
          revert g46
          exact hT.out
        · -- 51 first
          obtain ⟨X51, hX⟩ : ∃ X, X = (X46).alloc (.cells #[.slice (some ⟨h0, 0, none⟩) 2 2, .slice none 0 0, .slice (some ⟨h2, 0, none⟩) 1 1, .slice (some ⟨h3, 0, none⟩) 1 1] 24) := ⟨_, rfl⟩
          obtain ⟨g51, hg⟩ : ∃ g, g = (X46).heap.size := ⟨_, rfl⟩
          have hb : Below (X46).heap.size (X46) X51 := by rw [hX]; exact below_al (Below.refl _ _) _
          have HO51 := Lib.hid (show OutsX X51.heap.size X51 (.slice (some ⟨g51, 0, none⟩) 2 2) [⟨.slice (some ⟨h0, 0, none⟩) 2 2, .slice none 0 0, oa⟩, ⟨.slice (some ⟨h2, 0, none⟩) 1 1, .slice (some ⟨h3, 0, none⟩) 1 1, ob⟩] from by rw [hX, hg]; exact lit_outs (X46) [⟨.slice (some ⟨h0, 0, none⟩) 2 2, .slice none 0 0, oa⟩, ⟨.slice (some ⟨h2, 0, none⟩) 1 1, .slice (some ⟨h3, 0, none⟩) 1 1, ob⟩] rfl (by intro x hx; simp only [List.mem_cons, List.not_mem_nil, or_false] at hx; rcases hx with rfl | rfl; exact (HVa.out _ hHeld.2); exact (HVb.out _ hHeld.2)))
          replace HO46 := Lib.hid ((HO46.out.below hb).more hb.size)
          go_simp
          rw [← hX]
          (try rw [← hg])
          clear hX hg
          refine hK.out _ _ ⟨⟨kc hb hHeld.1.1, kc hb hHeld.1.2.1, kc hb hHeld.1.2.2.1, kc hb hHeld.1.2.2.2.1, kc hb hHeld.1.2.2.2.2.1, kc hb hHeld.1.2.2.2.2.2⟩, chain hHeld.2 hb⟩ (fun hHeld => ?_)
          clear hb
          clear hK K
          (try simp only [Act.put, pt8])
          refine wpAnyH_ready (rs := [48]) (by kernel_rfl) (by simp) ?_
          refine AllReadyH.cons rfl (fun K hK => ?_) AllReadyH.nil
          go_simp
          have C := oput_any (X51) HO46.out (HVb.out _ hHeld.2).out (Nat.le_refl _) (by simp) (by intro x hx; rw [List.mem_singleton.1 hx]; exact ⟨by simp, by simp⟩) (by simp) (by simp) (show Srt [oa] from by decide)
          refine C.mono ?_
          rintro e X48 ⟨u48, z48, rfl, hz48, ho48, hb⟩
          clear C
          have HZ48 := Lib.hid (show os z48 = [oa, ob] from hz48.trans (by decide : putO [oa] ob = [oa, ob]))
          have HO48 := Lib.hid ho48.outs
          obtain ⟨A48, c48, rfl⟩ := own_slice ho48.1
          obtain ⟨m48, hm48⟩ : ∃ m, m = z48.length := ⟨_, rfl⟩
          rw [← hm48] at HO48 ⊢
          have HM48 := Lib.hid (show z48.length ≤ 1000000 from by have := congrArg List.length HZ48.out; simp at this; omega)
          clear hz48 ho48 hm48
          replace HO51 := Lib.hid ((HO51.out.below hb).more hb.size)
          refine hK.out _ _ ⟨⟨kc hb hHeld.1.1, kc hb hHeld.1.2.1, kc hb hHeld.1.2.2.1, kc hb hHeld.1.2.2.2.1, kc hb hHeld.1.2.2.2.2.1, kc hb hHeld.1.2.2.2.2.2⟩, chain hHeld.2 hb⟩ (fun hHeld => ?_)
          clear hb
          clear hK K
          (try simp only [Act.put, pt8])
          refine wpAnyH_ready (rs := [52]) (by kernel_rfl) (by simp) ?_
          refine AllReadyH.cons rfl (fun K hK => ?_) AllReadyH.nil
          go_simp
          have C := rsame_any (X48) HO48.out HO51.out (Nat.le_refl _) HM48.out (by simp)
          rw [HZ48.out, show decide (([oa, ob] : List Ot) = os [⟨.slice (some ⟨h0, 0, none⟩) 2 2, .slice none 0 0, oa⟩, ⟨.slice (some ⟨h2, 0, none⟩) 1 1, .slice (some ⟨h3, 0, none⟩) 1 1, ob⟩]) = true from (by decide : decide (([oa, ob] : List Ot) = [oa, ob]) = true)] at C
          refine C.mono ?_
          rintro e X52 ⟨rfl, hb⟩
          clear C
          refine hK.out _ _ ⟨⟨kc hb hHeld.1.1, kc hb hHeld.1.2.1, kc hb hHeld.1.2.2.1, kc hb hHeld.1.2.2.2.1, kc hb hHeld.1.2.2.2.2.1, kc hb hHeld.1.2.2.2.2.2⟩, chain hHeld.2 hb⟩ (fun hHeld => ?_)
          clear hb
          clear hK K
          (try simp only [Act.put, pt8])
          refine wtk 53 ?_ ?_ ?_
          rotate_left
          · intro w hSw; (try dsimp only at hSw); go_simp; (try with_reducible rfl)
          (try simp only [Act.put, pt8])
          (try clear HO46)
          (try clear HO48)
          (try clear HO51)
          (try clear HZ48)
          (try clear HM48)
          revert hHeld
          revert X52
          revert m48
          revert c48
          revert A48
          revert g51
          revert g46
          exact hT.out
      · -- 51 first
        obtain ⟨X51, hX⟩ : ∃ X, X = (X42).alloc (.cells #[.slice (some ⟨h0, 0, none⟩) 2 2, .slice none 0 0, .slice (some ⟨h2, 0, none⟩) 1 1, .slice (some ⟨h3, 0, none⟩) 1 1] 24) := ⟨_, rfl⟩
        obtain ⟨g51, hg⟩ : ∃ g, g = (X42).heap.size := ⟨_, rfl⟩
        have hb : Below (X42).heap.size (X42) X51 := by rw [hX]; exact below_al (Below.refl _ _) _
        have HO51 := Lib.hid (show OutsX X51.heap.size X51 (.slice (some ⟨g51, 0, none⟩) 2 2) [⟨.slice (some ⟨h0, 0, none⟩) 2 2, .slice none 0 0, oa⟩, ⟨.slice (some ⟨h2, 0, none⟩) 1 1, .slice (some ⟨h3, 0, none⟩) 1 1, ob⟩] from by rw [hX, hg]; exact lit_outs (X42) [⟨.slice (some ⟨h0, 0, none⟩) 2 2, .slice none 0 0, oa⟩, ⟨.slice (some ⟨h2, 0, none⟩) 1 1, .slice (some ⟨h3, 0, none⟩) 1 1, ob⟩] rfl (by intro x hx; simp only [List.mem_cons, List.not_mem_nil, or_false] at hx; rcases hx with rfl | rfl; exact (HVa.out _ hHeld.2); exact (HVb.out _ hHeld.2)))
        go_simp
        rw [← hX]
        (try rw [← hg])
        clear hX hg
        refine hK.out _ _ ⟨⟨kc hb hHeld.1.1, kc hb hHeld.1.2.1, kc hb hHeld.1.2.2.1, kc hb hHeld.1.2.2.2.1, kc hb hHeld.1.2.2.2.2.1, kc hb hHeld.1.2.2.2.2.2⟩, chain hHeld.2 hb⟩ (fun hHeld => ?_)
        clear hb
        clear hK K
        (try simp only [Act.put, pt8])
        refine wpAnyH_ready (rs := [46]) (by kernel_rfl) (by simp) ?_
        refine AllReadyH.cons rfl (fun K hK => ?_) AllReadyH.nil
        obtain ⟨X46, hX⟩ : ∃ X, X = (X51).alloc (.cells #[.slice (some ⟨h0, 0, none⟩) 2 2, .slice none 0 0] 24) := ⟨_, rfl⟩
        obtain ⟨g46, hg⟩ : ∃ g, g = (X51).heap.size := ⟨_, rfl⟩
        have hb : Below (X51).heap.size (X51) X46 := by rw [hX]; exact below_al (Below.refl _ _) _
        have HO46 := Lib.hid (show OutsX X46.heap.size X46 (.slice (some ⟨g46, 0, none⟩) 1 1) [⟨.slice (some ⟨h0, 0, none⟩) 2 2, .slice none 0 0, oa⟩] from by rw [hX, hg]; exact lit_outs (X51) [⟨.slice (some ⟨h0, 0, none⟩) 2 2, .slice none 0 0, oa⟩] rfl (by intro x hx; simp only [List.mem_cons, List.not_mem_nil, or_false] at hx; subst hx; exact (HVa.out _ hHeld.2)))
        replace HO51 := Lib.hid ((HO51.out.below hb).more hb.size)
        go_simp
        rw [← hX]
        (try rw [← hg])
        clear hX hg
        refine hK.out _ _ ⟨⟨kc hb hHeld.1.1, kc hb hHeld.1.2.1, kc hb hHeld.1.2.2.1, kc hb hHeld.1.2.2.2.1, kc hb hHeld.1.2.2.2.2.1, kc hb hHeld.1.2.2.2.2.2⟩, chain hHeld.2 hb⟩ (fun hHeld => ?_)
        clear hb
        clear hK K
        (try simp only [Act.put, pt8])
        refine wpAnyH_ready (rs := [48]) (by kernel_rfl) (by simp) ?_
        refine AllReadyH.cons rfl (fun K hK => ?_) AllReadyH.nil
        go_simp
        have C := oput_any (X46) HO46.out (HVb.out _ hHeld.2).out (Nat.le_refl _) (by simp) (by intro x hx; rw [List.mem_singleton.1 hx]; exact ⟨by simp, by simp⟩) (by simp) (by simp) (show Srt [oa] from by decide)
        refine C.mono ?_
        rintro e X48 ⟨u48, z48, rfl, hz48, ho48, hb⟩
        clear C
        have HZ48 := Lib.hid (show os z48 = [oa, ob] from hz48.trans (by decide : putO [oa] ob = [oa, ob]))
        have HO48 := Lib.hid ho48.outs
        obtain ⟨A48, c48, rfl⟩ := own_slice ho48.1
        obtain ⟨m48, hm48⟩ : ∃ m, m = z48.length := ⟨_, rfl⟩
        rw [← hm48] at HO48 ⊢
        have HM48 := Lib.hid (show z48.length ≤ 1000000 from by have := congrArg List.length HZ48.out; simp at this; omega)
        clear hz48 ho48 hm48
        replace HO51 := Lib.hid ((HO51.out.below hb).more hb.size)
        refine hK.out _ _ ⟨⟨kc hb hHeld.1.1, kc hb hHeld.1.2.1, kc hb hHeld.1.2.2.1, kc hb hHeld.1.2.2.2.1, kc hb hHeld.1.2.2.2.2.1, kc hb hHeld.1.2.2.2.2.2⟩, chain hHeld.2 hb⟩ (fun hHeld => ?_)
        clear hb
        clear hK K
        (try simp only [Act.put, pt8])
        refine wpAnyH_ready (rs := [52]) (by kernel_rfl) (by simp) ?_
        refine AllReadyH.cons rfl (fun K hK => ?_) AllReadyH.nil
        go_simp
        have C := rsame_any (X48) HO48.out HO51.out (Nat.le_refl _) HM48.out (by simp)
        rw [HZ48.out, show decide (([oa, ob] : List Ot) = os [⟨.slice (some ⟨h0, 0, none⟩) 2 2, .slice none 0 0, oa⟩, ⟨.slice (some ⟨h2, 0, none⟩) 1 1, .slice (some ⟨h3, 0, none⟩) 1 1, ob⟩]) = true from (by decide : decide (([oa, ob] : List Ot) = [oa, ob]) = true)] at C
        refine C.mono ?_
        rintro e X52 ⟨rfl, hb⟩
        clear C
        refine hK.out _ _ ⟨⟨kc hb hHeld.1.1, kc hb hHeld.1.2.1, kc hb hHeld.1.2.2.1, kc hb hHeld.1.2.2.2.1, kc hb hHeld.1.2.2.2.2.1, kc hb hHeld.1.2.2.2.2.2⟩, chain hHeld.2 hb⟩ (fun hHeld => ?_)
        clear hb
        clear hK K
        (try simp only [Act.put, pt8])
        refine wtk 53 ?_ ?_ ?_
        rotate_left
        · intro w hSw; (try dsimp only at hSw); go_simp; (try with_reducible rfl)
        (try simp only [Act.put, pt8])
        (try clear HO46)
        (try clear HO48)
        (try clear HO51)
        (try clear HZ48)
        (try clear HM48)
        revert hHeld
        revert X52
        revert m48
        revert c48
        revert A48
        revert g51
        revert g46
        exact hT.out
    · intro g46 g51 A48 c48 m48 X52 hHeld
      refine wtk 54 ?_ ?_ ?_
      rotate_left
      · intro w hSw; (try dsimp only at hSw); go_simp; (try with_reducible rfl)
      (try simp only [Act.put, pt8])
      refine wtk 55 ?_ ?_ ?_
      rotate_left
      · intro w hSw; (try dsimp only at hSw); go_simp; (try with_reducible rfl)
      (try simp only [Act.put, pt8])
      refine wpAnyH_ready (rs := [56]) (by kernel_rfl) (by simp) ?_
      refine AllReadyH.cons rfl (fun K hK => ?_) AllReadyH.nil
      go_simp
      have C := oset_any (X52) (HL4.out _ hHeld.2) (Nat.le_refl _) HLN.out
      rw [HLE.out, show srtB ([oa, oc, ob] : List Ot) = true from by decide] at C
      refine C.mono ?_
      rintro e X56 ⟨rfl, hb⟩
      replace hb := hb.1
      clear C
      refine hK.out _ _ ⟨⟨kc hb hHeld.1.1, kc hb hHeld.1.2.1, kc hb hHeld.1.2.2.1, kc hb hHeld.1.2.2.2.1, kc hb hHeld.1.2.2.2.2.1, kc hb hHeld.1.2.2.2.2.2⟩, chain hHeld.2 hb⟩ (fun hHeld => ?_)
      clear hb
      clear hK K
      (try simp only [Act.put, pt8])
      refine wtk 57 ?_ ?_ ?_
      rotate_left
      · intro w hSw; (try dsimp only at hSw); go_simp; (try with_reducible rfl)
      (try simp only [Act.put, pt8])
      refine wtk 58 ?_ ?_ ?_
      rotate_left
      · intro w hSw; (try dsimp only at hSw); go_simp; (try with_reducible rfl)
      (try simp only [Act.put, pt8])
      refine wtk 59 ?_ ?_ ?_
      rotate_left
      · intro w hSw; (try dsimp only at hSw); go_simp; (try with_reducible rfl)
      (try simp only [Act.put, pt8])
      refine wtk 60 ?_ ?_ ?_
      rotate_left
      · intro w hSw; (try dsimp only at hSw); go_simp; (try with_reducible rfl)
      (try simp only [Act.put, pt8])
      refine wpAnyH_ready (rs := [61]) (by kernel_rfl) (by simp) ?_
      refine AllReadyH.cons rfl (fun K hK => ?_) AllReadyH.nil
      obtain ⟨X61, hX⟩ : ∃ X, X = (X56).alloc (.cells #[.slice (some ⟨h2, 0, none⟩) 1 1, .slice (some ⟨h3, 0, none⟩) 1 1, .slice (some ⟨h0, 0, none⟩) 2 2, .slice none 0 0] 24) := ⟨_, rfl⟩
      obtain ⟨g61, hg⟩ : ∃ g, g = (X56).heap.size := ⟨_, rfl⟩
      have hb : Below (X56).heap.size (X56) X61 := by rw [hX]; exact below_al (Below.refl _ _) _
      have HO61 := Lib.hid (show OutsX X61.heap.size X61 (.slice (some ⟨g61, 0, none⟩) 2 2) [⟨.slice (some ⟨h2, 0, none⟩) 1 1, .slice (some ⟨h3, 0, none⟩) 1 1, ob⟩, ⟨.slice (some ⟨h0, 0, none⟩) 2 2, .slice none 0 0, oa⟩] from by rw [hX, hg]; exact lit_outs (X56) [⟨.slice (some ⟨h2, 0, none⟩) 1 1, .slice (some ⟨h3, 0, none⟩) 1 1, ob⟩, ⟨.slice (some ⟨h0, 0, none⟩) 2 2, .slice none 0 0, oa⟩] rfl (by intro x hx; simp only [List.mem_cons, List.not_mem_nil, or_false] at hx; rcases hx with rfl | rfl; exact (HVb.out _ hHeld.2); exact (HVa.out _ hHeld.2)))
      go_simp
      rw [← hX]
      (try rw [← hg])
      clear hX hg
      refine hK.out _ _ ⟨⟨kc hb hHeld.1.1, kc hb hHeld.1.2.1, kc hb hHeld.1.2.2.1, kc hb hHeld.1.2.2.2.1, kc hb hHeld.1.2.2.2.2.1, kc hb hHeld.1.2.2.2.2.2⟩, chain hHeld.2 hb⟩ (fun hHeld => ?_)
      clear hb
      clear hK K
      (try simp only [Act.put, pt8])
      refine wpAnyH_ready (rs := [62]) (by kernel_rfl) (by simp) ?_
      refine AllReadyH.cons rfl (fun K hK => ?_) AllReadyH.nil
      go_simp
      have C := oset_any (X61) HO61.out (Nat.le_refl _) (by simp)
      rw [show srtB (os [⟨.slice (some ⟨h2, 0, none⟩) 1 1, .slice (some ⟨h3, 0, none⟩) 1 1, ob⟩, ⟨.slice (some ⟨h0, 0, none⟩) 2 2, .slice none 0 0, oa⟩]) = false from (by decide : srtB [ob, oa] = false)] at C
      refine C.mono ?_
      rintro e X62 ⟨rfl, hb⟩
      replace hb := hb.1
      clear C
      refine hK.out _ _ ⟨⟨kc hb hHeld.1.1, kc hb hHeld.1.2.1, kc hb hHeld.1.2.2.1, kc hb hHeld.1.2.2.2.1, kc hb hHeld.1.2.2.2.2.1, kc hb hHeld.1.2.2.2.2.2⟩, chain hHeld.2 hb⟩ (fun hHeld => ?_)
      clear hb
      clear hK K
      (try simp only [Act.put, pt8])
      refine wtk 63 ?_ ?_ ?_
      rotate_left
      · intro w hSw; (try dsimp only at hSw); go_simp; (try with_reducible rfl)
      (try simp only [Act.put, pt8])
      refine wtk 64 ?_ ?_ ?_
      rotate_left
      · intro w hSw; (try dsimp only at hSw); go_simp; (try with_reducible rfl)
      (try simp only [Act.put, pt8])
      refine wpAnyH_ready (rs := [65]) (by kernel_rfl) (by simp) ?_
      refine AllReadyH.cons rfl (fun K hK => ?_) AllReadyH.nil
      go_simp
      refine hK.out _ _ hHeld (fun hHeld => ?_)
      clear hK K
      (try simp only [Act.put, pt8])
      refine wpAnyH_done (by kernel_rfl) ?_ _
      have HBF := Lib.hid (chain HBW5.out hHeld.2)
      clear hHeld
      go_wp2
      go_ret
      exact ⟨rfl, HBF.out⟩
end Go.Proofs.Ytodpajnpnobfmaa
