/-
  sc.own: a copy of a state that shares no list with it.
-/
import Derived.Test.YtbffjhdocicfoaaK15
import Derived.Test.YtbffjhdocicfoaaScAt
import Derived.Deep.RegionHeld3
import Derived.Deep.DeepCutAuto
namespace Go.Proofs.Ytbffjhdocicfoaa
open Go.RowKit
set_option linter.unusedVariables false
set_option linter.unusedSimpArgs false
open CodM (St Pg)
open BfM (Wr plc)
open ScM

theorem ownp_box {base B g : Nat} {X : World} {vm vt a b : Value} {s : Sta} {ps : List TV} {cs : Array Value} (h1 : OwnI base X vm s.mem) (h2 : OwnTs base B X vt s.ths ps) (hb : BoxC X g 62 cs) (hg : B ≤ g) :
    OwnP base B 0 ((X.setCell ⟨g, 0, none⟩ a).setCell ⟨g, 1, none⟩ b) vm vt s ps := by
  have e : Below B X ((X.setCell ⟨g, 0, none⟩ a).setCell ⟨g, 1, none⟩ b) := ((Below.refl B X).setCell (p := ⟨g, 0, none⟩) hg _).setCell (p := ⟨g, 1, none⟩) hg _
  refine OwnP.start (own_box (own_box h1 hb (by decide) 0 a) (hb.set 0 a) (by decide) 1 b) ⟨own_box (own_box h2.1 hb (by decide) 0 a) (hb.set 0 a) (by decide) 1 b, h2.2.1, fun p hp => ⟨(h2.2.2 p hp).1.below e, (h2.2.2 p hp).2.below e⟩⟩
def PoQ (base B : Nat) (w : World) (go : Value) (s : Sta) (wx : World) : Prop := ∃ (g : Nat) (vm vt : Value) (ps : List TV), go = .pointer (some ⟨g, 0, none⟩) ∧ BoxC wx g 62 #[vm, vt] ∧ OwnP base B 0 wx vm vt s ps ∧ Below base w wx ∧ base ≤ g
theorem ownts_below {base B : Nat} {w w' : World} {v : Value} {ts : List Th} {ps : List TV} (h : OwnTs base B w v ts ps) (hb : Below w.heap.size w w') (hB : B ≤ w.heap.size) : OwnTs base B w' v ts ps :=
  ⟨own_below h.1 hb, h.2.1, fun p hp => ⟨(h.2.2 p hp).1.below (hb.mono hB), (h.2.2 p hp).2.below (hb.mono hB)⟩⟩
set_option maxHeartbeats 8000000 in
set_option maxRecDepth 100000 in
theorem sown_any {B : Nat} {v : Value} {s : Sta} (w : World) (hv : StaV B w v s) (hBB : B ≤ w.heap.size) (hw : WideS s) :
    Calls Try.prog 67 #[v] w (StRet s w) := by
  obtain ⟨vm, vt, rfl, hvm, hvt⟩ := hv
  have hml := hw.mem
  have htl := hw.ths
  have HWD := Lib.hid hw.regs
  clear hw
  have HVM := Lib.hid hvm
  have HVT := Lib.hid hvt
  obtain ⟨A7, c7, rfl, -⟩ := hvm
  obtain ⟨A1, c1, rfl, -⟩ := hvt
  have HCO := Lib.hid (show Try.prog.cellsOf 62 = 2 from by kernel_rfl)
  obtain ⟨W2, hW2⟩ : ∃ W, W = (w.alloc (.cells #[.slice A7 s.mem.length c7, .slice A1 s.ths.length c1] 62)).alloc (.cells #[.slice none 0 0, .slice none 0 0] 62) := ⟨_, rfl⟩
  obtain ⟨gp, hgp⟩ : ∃ g, g = w.heap.size := ⟨_, rfl⟩
  obtain ⟨gr, hgr⟩ : ∃ g, g = w.heap.size + 1 := ⟨_, rfl⟩
  have HX := Lib.hid (show BoxC W2 gp 62 #[.slice A7 s.mem.length c7, .slice A1 s.ths.length c1] from by rw [hW2, hgp]; exact (BoxC.new w _ _).alloc _)
  have HR := Lib.hid (show BoxC W2 gr 62 #[.slice none 0 0, .slice none 0 0] from by rw [hW2, hgr]; have := BoxC.new (w.alloc (.cells #[.slice A7 s.mem.length c7, .slice A1 s.ths.length c1] 62)) 62 #[.slice none 0 0, .slice none 0 0]; rw [World.size_alloc] at this; exact this)
  have HB2 := Lib.hid (show Below w.heap.size w W2 from by rw [hW2]; exact below_al (below_al (Below.refl _ _) _) _)
  have HGR := Lib.hid (show w.heap.size ≤ gr from by omega)
  have HBB2 := Lib.hid (Nat.le_trans hBB HB2.out.size)
  have HC1 := Lib.hid (fun W (hW : Below W2.heap.size W2 W) => clonei_any W (HVM.out.below ((chain HB2.out hW).mono hBB)) (Nat.le_trans hBB (chain HB2.out hW).size) (by omega))
  have HC2 := Lib.hid (fun W (hW : Below W2.heap.size W2 W) => clonet_any W (HVT.out.below ((chain HB2.out hW).mono hBB)) (Nat.le_trans hBB (chain HB2.out hW).size) (by omega))
  have x0 := HX.out.cell 0 _ rfl
  have x1 := HX.out.cell 1 _ rfl
  go_enter Try.func67, Try.ntmps67
  go_upto_region 1 with fail
  rw [← hW2]
  (try rw [← hgr])
  (try rw [← hgp])
  clear hW2 hgr hgp HVM HVT
  go_cut [3] (fun s3 wx => PoQ W2.heap.size B W2 s3 s wx)
  case first =>
    refine wp_region_held_drew (S := (fun w' => (w'.cell? ⟨gp, 0, none⟩ = some (.slice A7 s.mem.length c7) ∧ w'.cell? ⟨gp, 1, none⟩ = some (.slice A1 s.ths.length c1) ∧ True) ∧ Below W2.heap.size W2 w')) (by kernel_rfl) ⟨⟨x0, x1, trivial⟩, below_drewN (Below.refl _ _) 1⟩ (fun hHeld => ?_)
    obtain ⟨Xs, hXs⟩ : ∃ W, W = W2.drew := ⟨_, rfl⟩
    have HL := Lib.hid (show Below W2.heap.size W2 Xs from by rw [hXs]; exact below_drewN (Below.refl _ _) 1)
    rw [← hXs] at hHeld ⊢
    clear hXs x0 x1
    refine wpAnyH_take (i := 0) (v := ?_) rfl (by kernel_rfl) (by kernel_rfl) (by kernel_rfl) (fun _ _ _ h => h) (Or.inl ⟨by rfl, ?_⟩) (by assumption) ?_
    rotate_left
    · intro w hSw; (try dsimp only at hSw); go_simp; (try with_reducible rfl)
    (try simp only [Act.put, pt8])
    refine wpAnyH_take (i := 1) (v := ?_) rfl (by kernel_rfl) (by kernel_rfl) (by kernel_rfl) (fun _ _ _ h => h) (Or.inl ⟨by rfl, ?_⟩) (by assumption) ?_
    rotate_left
    · intro w hSw; (try dsimp only at hSw); go_simp; (try with_reducible rfl)
    (try simp only [Act.put, pt8])
    refine wpAnyH_take (i := 3) (v := ?_) rfl (by kernel_rfl) (by kernel_rfl) (by kernel_rfl) (fun _ _ _ h => h) (Or.inl ⟨by rfl, ?_⟩) (by assumption) ?_
    rotate_left
    · intro w hSw; (try dsimp only at hSw); go_simp; (try with_reducible rfl)
    (try simp only [Act.put, pt8])
    refine wpAnyH_take (i := 4) (v := ?_) rfl (by kernel_rfl) (by kernel_rfl) (by kernel_rfl) (fun _ _ _ h => h) (Or.inl ⟨by rfl, ?_⟩) (by assumption) ?_
    rotate_left
    · intro w hSw; (try dsimp only at hSw); go_simp; (try with_reducible rfl)
    (try simp only [Act.put, pt8])
    refine wpAnyH_ready (rs := [2, 7]) (by kernel_rfl) (by simp) ?_
    refine AllReadyH.cons rfl (fun K hK => ?_) (AllReadyH.cons rfl (fun K hK => ?_) (AllReadyH.nil))
    · -- 2 first
      go_simp
      refine (HC1.out _ hHeld.2).mono ?_
      rintro e X2 ⟨u1, rfl, hou, hba⟩
      obtain ⟨Am, cm, rfl⟩ := own_slice hou
      have HST := Lib.hid hba
      replace HL := Lib.hid (chain HL.out HST.out)
      have HOI := Lib.hid (show OwnI W2.heap.size X2 (.slice Am s.mem.length cm) s.mem from own_base hou hHeld.2.size)
      clear hou
      refine hK.out _ _ ⟨⟨kc hba hHeld.1.1, kc hba hHeld.1.2.1, trivial⟩, chain hHeld.2 hba⟩ (fun hHeld => ?_)
      clear hK K
      (try simp only [Act.put, pt8])
      clear hba HST
      refine wpAnyH_ready (rs := [5, 7]) (by kernel_rfl) (by simp) ?_
      refine AllReadyH.cons rfl (fun K hK => ?_) (AllReadyH.cons rfl (fun K hK => ?_) (AllReadyH.nil))
      · -- 5 first
        go_simp
        refine (HC2.out _ hHeld.2).mono ?_
        rintro e X5 ⟨⟨u2, ps, rfl, hou⟩, hba⟩
        obtain ⟨Av, cv, rfl⟩ := own_slice hou.1
        have HST := Lib.hid hba
        replace HOI := Lib.hid (own_below HOI.out HST.out)
        replace HL := Lib.hid (chain HL.out HST.out)
        have HOT := Lib.hid (show OwnTs W2.heap.size B X5 (.slice Av s.ths.length cv) s.ths ps from ⟨own_base hou.1 hHeld.2.size, hou.2⟩)
        clear hou
        refine hK.out _ _ ⟨⟨kc hba hHeld.1.1, kc hba hHeld.1.2.1, trivial⟩, chain hHeld.2 hba⟩ (fun hHeld => ?_)
        clear hK K
        (try simp only [Act.put, pt8])
        clear hba HST
        refine wpAnyH_take (i := 6) (v := ?_) rfl (by kernel_rfl) (by kernel_rfl) (by kernel_rfl) (fun _ _ _ h => h) (Or.inl ⟨by rfl, ?_⟩) (by assumption) ?_
        rotate_left
        · intro w hSw; (try dsimp only at hSw); go_simp; (try with_reducible rfl)
        (try simp only [Act.put, pt8])
        refine wpAnyH_ready (rs := [7]) (by kernel_rfl) (by simp) ?_
        refine AllReadyH.cons rfl (fun K hK => ?_) AllReadyH.nil
        go_simp
        refine hK.out _ _ ⟨⟨kc (below_al (Below.refl _ _) _) hHeld.1.1, kc (below_al (Below.refl _ _) _) hHeld.1.2.1, trivial⟩, chain hHeld.2 (below_al (Below.refl _ _) _)⟩ (fun hHeld => ?_)
        clear hK K
        (try simp only [Act.put, pt8])
        obtain ⟨go, hgo⟩ : ∃ g, g = X5.heap.size := ⟨_, rfl⟩
        obtain ⟨X7, hX7⟩ : ∃ W, W = X5.alloc (.cells #[.slice none 0 0, .slice none 0 0] 62) := ⟨_, rfl⟩
        have HST := Lib.hid (show Below X5.heap.size X5 X7 from by rw [hX7]; exact below_al (Below.refl _ _) _)
        have HBO := Lib.hid (show BoxC X7 go 62 #[.slice none 0 0, .slice none 0 0] from by rw [hX7, hgo]; exact BoxC.new _ _ _)
        have HGO := Lib.hid (show W2.heap.size ≤ go from by rw [hgo]; exact HL.out.size)
        replace HOI := Lib.hid (own_below HOI.out HST.out)
        replace HOT := Lib.hid (ownts_below HOT.out HST.out (Nat.le_trans HBB2.out HL.out.size))
        replace HL := Lib.hid (chain HL.out HST.out)
        rw [← hX7] at hHeld ⊢
        rw [← hgo]
        clear hX7 hgo HST
        refine wpAnyH_ready (rs := [8]) (by kernel_rfl) (by simp) ?_
        refine AllReadyH.cons rfl (fun K hK => ?_) AllReadyH.nil
        have o0 := HBO.out.cell 0 _ rfl
        have o1 := HBO.out.cell 1 _ rfl
        have g0 := HBO.out.frozen 0
        have g1 := HBO.out.frozen 1
        have HNE := Lib.hid (show gp ≠ go from by have := HGO.out; have := HX.out.lt; omega)
        go_simp
        refine hK.out _ _ ⟨⟨st_ne HNE.out (st_ne HNE.out hHeld.1.1), st_ne HNE.out (st_ne HNE.out hHeld.1.2.1), trivial⟩, (hHeld.2.setCell (p := ⟨go, 0, none⟩) HGO.out _).setCell (p := ⟨go, 1, none⟩) HGO.out _⟩ (fun hHeld => ?_)
        clear hK K
        (try simp only [Act.put, pt8])
        refine wpAnyH_done (by kernel_rfl) ?_ _
        clear hHeld
        go_wp2_with fail
        go_meet
        exact ⟨go, _, _, ps, rfl, (HBO.out.set 0 _).set 1 _, ownp_box HOI.out HOT.out HBO.out (Nat.le_trans HBB2.out HGO.out), (HL.out.setCell (p := ⟨go, 0, none⟩) HGO.out _).setCell (p := ⟨go, 1, none⟩) HGO.out _, HGO.out⟩
      · -- 7 first
        go_simp
        refine hK.out _ _ ⟨⟨kc (below_al (Below.refl _ _) _) hHeld.1.1, kc (below_al (Below.refl _ _) _) hHeld.1.2.1, trivial⟩, chain hHeld.2 (below_al (Below.refl _ _) _)⟩ (fun hHeld => ?_)
        clear hK K
        (try simp only [Act.put, pt8])
        obtain ⟨go, hgo⟩ : ∃ g, g = X2.heap.size := ⟨_, rfl⟩
        obtain ⟨X7, hX7⟩ : ∃ W, W = X2.alloc (.cells #[.slice none 0 0, .slice none 0 0] 62) := ⟨_, rfl⟩
        have HST := Lib.hid (show Below X2.heap.size X2 X7 from by rw [hX7]; exact below_al (Below.refl _ _) _)
        have HBO := Lib.hid (show BoxC X7 go 62 #[.slice none 0 0, .slice none 0 0] from by rw [hX7, hgo]; exact BoxC.new _ _ _)
        have HGO := Lib.hid (show W2.heap.size ≤ go from by rw [hgo]; exact HL.out.size)
        replace HOI := Lib.hid (own_below HOI.out HST.out)
        replace HL := Lib.hid (chain HL.out HST.out)
        rw [← hX7] at hHeld ⊢
        rw [← hgo]
        clear hX7 hgo HST
        refine wpAnyH_ready (rs := [5]) (by kernel_rfl) (by simp) ?_
        refine AllReadyH.cons rfl (fun K hK => ?_) AllReadyH.nil
        go_simp
        refine (HC2.out _ hHeld.2).mono ?_
        rintro e X5 ⟨⟨u2, ps, rfl, hou⟩, hba⟩
        obtain ⟨Av, cv, rfl⟩ := own_slice hou.1
        have HST := Lib.hid hba
        replace HBO := Lib.hid (HBO.out.below HST.out HBO.out.lt)
        replace HOI := Lib.hid (own_below HOI.out HST.out)
        replace HL := Lib.hid (chain HL.out HST.out)
        have HOT := Lib.hid (show OwnTs W2.heap.size B X5 (.slice Av s.ths.length cv) s.ths ps from ⟨own_base hou.1 hHeld.2.size, hou.2⟩)
        clear hou
        refine hK.out _ _ ⟨⟨kc hba hHeld.1.1, kc hba hHeld.1.2.1, trivial⟩, chain hHeld.2 hba⟩ (fun hHeld => ?_)
        clear hK K
        (try simp only [Act.put, pt8])
        clear hba HST
        refine wpAnyH_take (i := 6) (v := ?_) rfl (by kernel_rfl) (by kernel_rfl) (by kernel_rfl) (fun _ _ _ h => h) (Or.inl ⟨by rfl, ?_⟩) (by assumption) ?_
        rotate_left
        · intro w hSw; (try dsimp only at hSw); go_simp; (try with_reducible rfl)
        (try simp only [Act.put, pt8])
        refine wpAnyH_ready (rs := [8]) (by kernel_rfl) (by simp) ?_
        refine AllReadyH.cons rfl (fun K hK => ?_) AllReadyH.nil
        have o0 := HBO.out.cell 0 _ rfl
        have o1 := HBO.out.cell 1 _ rfl
        have g0 := HBO.out.frozen 0
        have g1 := HBO.out.frozen 1
        have HNE := Lib.hid (show gp ≠ go from by have := HGO.out; have := HX.out.lt; omega)
        go_simp
        refine hK.out _ _ ⟨⟨st_ne HNE.out (st_ne HNE.out hHeld.1.1), st_ne HNE.out (st_ne HNE.out hHeld.1.2.1), trivial⟩, (hHeld.2.setCell (p := ⟨go, 0, none⟩) HGO.out _).setCell (p := ⟨go, 1, none⟩) HGO.out _⟩ (fun hHeld => ?_)
        clear hK K
        (try simp only [Act.put, pt8])
        refine wpAnyH_done (by kernel_rfl) ?_ _
        clear hHeld
        go_wp2_with fail
        go_meet
        exact ⟨go, _, _, ps, rfl, (HBO.out.set 0 _).set 1 _, ownp_box HOI.out HOT.out HBO.out (Nat.le_trans HBB2.out HGO.out), (HL.out.setCell (p := ⟨go, 0, none⟩) HGO.out _).setCell (p := ⟨go, 1, none⟩) HGO.out _, HGO.out⟩
    · -- 7 first
      go_simp
      refine hK.out _ _ ⟨⟨kc (below_al (Below.refl _ _) _) hHeld.1.1, kc (below_al (Below.refl _ _) _) hHeld.1.2.1, trivial⟩, chain hHeld.2 (below_al (Below.refl _ _) _)⟩ (fun hHeld => ?_)
      clear hK K
      (try simp only [Act.put, pt8])
      obtain ⟨go, hgo⟩ : ∃ g, g = Xs.heap.size := ⟨_, rfl⟩
      obtain ⟨X7, hX7⟩ : ∃ W, W = Xs.alloc (.cells #[.slice none 0 0, .slice none 0 0] 62) := ⟨_, rfl⟩
      have HST := Lib.hid (show Below Xs.heap.size Xs X7 from by rw [hX7]; exact below_al (Below.refl _ _) _)
      have HBO := Lib.hid (show BoxC X7 go 62 #[.slice none 0 0, .slice none 0 0] from by rw [hX7, hgo]; exact BoxC.new _ _ _)
      have HGO := Lib.hid (show W2.heap.size ≤ go from by rw [hgo]; exact HL.out.size)
      replace HL := Lib.hid (chain HL.out HST.out)
      rw [← hX7] at hHeld ⊢
      rw [← hgo]
      clear hX7 hgo HST
      refine wpAnyH_ready (rs := [2]) (by kernel_rfl) (by simp) ?_
      refine AllReadyH.cons rfl (fun K hK => ?_) AllReadyH.nil
      go_simp
      refine (HC1.out _ hHeld.2).mono ?_
      rintro e X2 ⟨u1, rfl, hou, hba⟩
      obtain ⟨Am, cm, rfl⟩ := own_slice hou
      have HST := Lib.hid hba
      replace HBO := Lib.hid (HBO.out.below HST.out HBO.out.lt)
      replace HL := Lib.hid (chain HL.out HST.out)
      have HOI := Lib.hid (show OwnI W2.heap.size X2 (.slice Am s.mem.length cm) s.mem from own_base hou hHeld.2.size)
      clear hou
      refine hK.out _ _ ⟨⟨kc hba hHeld.1.1, kc hba hHeld.1.2.1, trivial⟩, chain hHeld.2 hba⟩ (fun hHeld => ?_)
      clear hK K
      (try simp only [Act.put, pt8])
      clear hba HST
      refine wpAnyH_ready (rs := [5]) (by kernel_rfl) (by simp) ?_
      refine AllReadyH.cons rfl (fun K hK => ?_) AllReadyH.nil
      go_simp
      refine (HC2.out _ hHeld.2).mono ?_
      rintro e X5 ⟨⟨u2, ps, rfl, hou⟩, hba⟩
      obtain ⟨Av, cv, rfl⟩ := own_slice hou.1
      have HST := Lib.hid hba
      replace HBO := Lib.hid (HBO.out.below HST.out HBO.out.lt)
      replace HOI := Lib.hid (own_below HOI.out HST.out)
      replace HL := Lib.hid (chain HL.out HST.out)
      have HOT := Lib.hid (show OwnTs W2.heap.size B X5 (.slice Av s.ths.length cv) s.ths ps from ⟨own_base hou.1 hHeld.2.size, hou.2⟩)
      clear hou
      refine hK.out _ _ ⟨⟨kc hba hHeld.1.1, kc hba hHeld.1.2.1, trivial⟩, chain hHeld.2 hba⟩ (fun hHeld => ?_)
      clear hK K
      (try simp only [Act.put, pt8])
      clear hba HST
      refine wpAnyH_take (i := 6) (v := ?_) rfl (by kernel_rfl) (by kernel_rfl) (by kernel_rfl) (fun _ _ _ h => h) (Or.inl ⟨by rfl, ?_⟩) (by assumption) ?_
      rotate_left
      · intro w hSw; (try dsimp only at hSw); go_simp; (try with_reducible rfl)
      (try simp only [Act.put, pt8])
      refine wpAnyH_ready (rs := [8]) (by kernel_rfl) (by simp) ?_
      refine AllReadyH.cons rfl (fun K hK => ?_) AllReadyH.nil
      have o0 := HBO.out.cell 0 _ rfl
      have o1 := HBO.out.cell 1 _ rfl
      have g0 := HBO.out.frozen 0
      have g1 := HBO.out.frozen 1
      have HNE := Lib.hid (show gp ≠ go from by have := HGO.out; have := HX.out.lt; omega)
      go_simp
      refine hK.out _ _ ⟨⟨st_ne HNE.out (st_ne HNE.out hHeld.1.1), st_ne HNE.out (st_ne HNE.out hHeld.1.2.1), trivial⟩, (hHeld.2.setCell (p := ⟨go, 0, none⟩) HGO.out _).setCell (p := ⟨go, 1, none⟩) HGO.out _⟩ (fun hHeld => ?_)
      clear hK K
      (try simp only [Act.put, pt8])
      refine wpAnyH_done (by kernel_rfl) ?_ _
      clear hHeld
      go_wp2_with fail
      go_meet
      exact ⟨go, _, _, ps, rfl, (HBO.out.set 0 _).set 1 _, ownp_box HOI.out HOT.out HBO.out (Nat.le_trans HBB2.out HGO.out), (HL.out.setCell (p := ⟨go, 0, none⟩) HGO.out _).setCell (p := ⟨go, 1, none⟩) HGO.out _, HGO.out⟩
  case rest =>
    obtain ⟨go, vm, vt, ps, rfl, hbo, hop, hBc, hgo⟩ := hcut
    have HBO := Lib.hid hbo
    have HOP := Lib.hid hop
    have HBC := Lib.hid hBc
    obtain ⟨Am, cm, rfl⟩ := own_slice hop.mem
    obtain ⟨Av, cv, rfl⟩ := own_slice hop.ths
    have HLN := Lib.hid hop.len
    clear hbo hop hBc x0 x1 HC1 HC2
    have o1 := HBO.out.cell 1 _ rfl
    go_wp2
    clear o1
    go_loopw [16] (fun i wr => ∃ (k : Nat) (ps : List TV), k ≤ s.ths.length ∧ i = .int .i64 k ∧ BoxC wr go 62 #[.slice Am s.mem.length cm, .slice Av s.ths.length cv] ∧ OwnP W2.heap.size B k wr (.slice Am s.mem.length cm) (.slice Av s.ths.length cv) s ps ∧ Below W2.heap.size W2 wr) (fun i _ => s.ths.length - (intOf i).toNat)
    case atStart => exact ⟨0, ps, Nat.zero_le _, rfl, HBO.out, HOP.out, HBC.out⟩
    case round =>
      clear HOP HBO HBC HLN ps
      obtain ⟨k, ps, hk, rfl, hbx, hop, hB⟩ := hrel
      have HBX := Lib.hid hbx
      have HOP := Lib.hid hop
      have HB := Lib.hid hB
      have HSZ := Lib.hid (show W2.heap.size ≤ wr.heap.size from hB.size)
      have HBr := Lib.hid (Nat.le_trans HBB2.out hB.size)
      clear hbx hop hB
      by_cases hlt : k < s.ths.length
      · have hkp : k < ps.length := by rw [HOP.out.len]; exact hlt
        obtain ⟨gv, cv', cur, hev, hgv, hbv, z0, z1, z2, z3⟩ := HOP.out.cell hkp
        injection hev with hev1 hev3 hev2
        clear hev3
        subst hev1 hev2
        have HBV := Lib.hid hbv
        have HGV := Lib.hid hgv
        have HGL := Lib.hid hbv.lt
        obtain ⟨hrr, hrb⟩ := HOP.out.todo k hkp (Nat.le_refl _)
        have hpt : ps[k].t.regs.length ≤ 300 ∧ ps[k].t.buf.length ≤ 50000 := HWD.out _ (by rw [← HOP.out.eq]; exact List.mem_map_of_mem (List.getElem_mem hkp))
        have HNX := Lib.hid (fun (X : World) (h : OwnP W2.heap.size B k X (.slice Am s.mem.length cm) (.slice (some ⟨gv, 0, none⟩) s.ths.length cv) s ps) (v1 v2 : Value) => h.next (v1 := v1) (v2 := v2) hkp HBB2.out)
        generalize ps[k] = pk at *
        obtain ⟨t, vr, vb⟩ := pk
        dsimp only at hrr hrb hpt z0 z1 z2 z3 HNX
        obtain ⟨hp1, hp2⟩ := hpt
        have HRR := Lib.hid hrr
        have HRB := Lib.hid hrb
        obtain ⟨Ar, cr, rfl, -⟩ := hrr
        obtain ⟨Ab, cb, rfl, -⟩ := hrb
        have HD1 := Lib.hid (fun W (hW : Below B wr W) => clonei_any W (HRR.out.below hW) (Nat.le_trans HBr.out hW.size) (by omega))
        have HD2 := Lib.hid (fun W (hW : Below B wr W) => clonew_any W (HRB.out.below hW) (Nat.le_trans HBr.out hW.size) (by omega))
        clear hkp
        go_upto_region 5 with fail
        obtain ⟨X0, hX0⟩ : ∃ W, W = wr.alloc (.cells #[.int .i64 t.at', .slice Ar t.regs.length cr, .bool t.eq, .slice Ab t.buf.length cb] 94) := ⟨_, rfl⟩
        obtain ⟨gx, hgx⟩ : ∃ g, g = wr.heap.size := ⟨_, rfl⟩
        have HL0 := Lib.hid (show Below wr.heap.size wr X0 from by rw [hX0]; exact below_al (Below.refl _ _) _)
        have HQ0 := Lib.hid (show BoxC X0 gx 94 #[.int .i64 t.at', .slice Ar t.regs.length cr, .bool t.eq, .slice Ab t.buf.length cb] from by rw [hX0, hgx]; exact BoxC.new wr _ _)
        have HGX := Lib.hid (show gx = wr.heap.size from hgx)
        rw [← hX0]
        (try rw [← hgx])
        clear hX0 hgx
        have x1 := HQ0.out.cell 1 _ rfl
        have x3 := HQ0.out.cell 3 _ rfl
        have y1 := (HBX.out.below HL0.out HBX.out.lt).cell 1 _ rfl
        have hgov : go ≠ gv := HBX.out.unlike HBV.out (by decide)
        have hgxv : gx ≠ gv := by have := HGX.out; have := HGL.out; omega
        have c1 := kc HL0.out z1
        have c3 := kc HL0.out z3
        have HZ1 := Lib.hid z1
        have HZ3 := Lib.hid z3
        clear z0 z1 z2 z3
        refine wp_region_held_drew (S := (fun w' => (w'.cell? ⟨go, 1, none⟩ = some (.slice (some ⟨gv, 0, none⟩) s.ths.length cv) ∧ w'.cell? ⟨gx, 1, none⟩ = some (.slice Ar t.regs.length cr) ∧ w'.cell? ⟨gx, 3, none⟩ = some (.slice Ab t.buf.length cb) ∧ True) ∧ Below B wr w')) (by kernel_rfl) ⟨⟨y1, x1, x3, trivial⟩, below_drewN (HL0.out.mono HBr.out) 1⟩ (fun hHeld => ?_)
        obtain ⟨Xs, hXs⟩ : ∃ W, W = X0.drew := ⟨_, rfl⟩
        have HLs := Lib.hid (show Below wr.heap.size wr Xs from by rw [hXs]; exact below_drewN HL0.out 1)
        rw [← hXs] at hHeld ⊢
        clear hXs
        refine wpAnyH_take (i := 0) (v := ?_) rfl (by kernel_rfl) (by kernel_rfl) (by kernel_rfl) (fun _ _ _ h => h) (Or.inl ⟨by rfl, ?_⟩) (by assumption) ?_
        rotate_left
        · intro w hSw; (try dsimp only at hSw); go_simp; (try with_reducible rfl)
        (try simp only [Act.put, pt8])
        refine wpAnyH_take (i := 1) (v := ?_) rfl (by kernel_rfl) (by kernel_rfl) (by kernel_rfl) (fun _ _ _ h => h) (Or.inl ⟨by rfl, ?_⟩) (by assumption) ?_
        rotate_left
        · intro w hSw; (try dsimp only at hSw); go_simp; (try with_reducible rfl)
        (try simp only [Act.put, pt8])
        refine wpAnyH_take (i := 2) (v := ?_) rfl (by kernel_rfl) (by kernel_rfl) (by kernel_rfl) (fun _ _ _ h => h) (Or.inl ⟨by rfl, ?_⟩) (by assumption) ?_
        rotate_left
        · intro w hSw; (try dsimp only at hSw); go_simp; (try with_reducible rfl)
        (try simp only [Act.put, pt8])
        refine wpAnyH_take (i := 3) (v := ?_) rfl (by kernel_rfl) (by kernel_rfl) (by kernel_rfl) (fun _ _ _ h => h) (Or.inl ⟨by rfl, ?_⟩) (by assumption) ?_
        rotate_left
        · intro w hSw; (try dsimp only at hSw); go_simp; (try with_reducible rfl)
        (try simp only [Act.put, pt8])
        refine wpAnyH_take (i := 4) (v := ?_) rfl (by kernel_rfl) (by kernel_rfl) (by kernel_rfl) (fun _ _ _ h => h) (Or.inl ⟨by rfl, ?_⟩) (by assumption) ?_
        rotate_left
        · intro w hSw; (try dsimp only at hSw); go_simp; (try with_reducible rfl)
        (try simp only [Act.put, pt8])
        refine wpAnyH_take (i := 5) (v := ?_) rfl (by kernel_rfl) (by kernel_rfl) (by kernel_rfl) (fun _ _ _ h => h) (Or.inl ⟨by rfl, ?_⟩) (by assumption) ?_
        rotate_left
        · intro w hSw; (try dsimp only at hSw); go_simp; (try with_reducible rfl)
        (try simp only [Act.put, pt8])
        refine wpAnyH_take (i := 6) (v := ?_) rfl (by kernel_rfl) (by kernel_rfl) (by kernel_rfl) (fun _ _ _ h => h) (Or.inl ⟨by rfl, ?_⟩) (by assumption) ?_
        rotate_left
        · intro w hSw; (try dsimp only at hSw); go_simp; (try with_reducible rfl)
        (try simp only [Act.put, pt8])
        refine wpAnyH_take (i := 7) (v := ?_) rfl (by kernel_rfl) (by kernel_rfl) (by kernel_rfl) (fun _ _ _ h => h) (Or.inl ⟨by rfl, ?_⟩) (by assumption) ?_
        rotate_left
        · intro w hSw; (try dsimp only at hSw); go_simp; (try with_reducible rfl)
        (try simp only [Act.put, pt8])
        refine wpAnyH_take (i := 9) (v := ?_) rfl (by kernel_rfl) (by kernel_rfl) (by kernel_rfl) (fun _ _ _ h => h) (Or.inl ⟨by rfl, ?_⟩) (by assumption) ?_
        rotate_left
        · intro w hSw; (try dsimp only at hSw); go_simp; (try with_reducible rfl)
        (try simp only [Act.put, pt8])
        refine wpAnyH_take (i := 10) (v := ?_) rfl (by kernel_rfl) (by kernel_rfl) (by kernel_rfl) (fun _ _ _ h => h) (Or.inl ⟨by rfl, ?_⟩) (by assumption) ?_
        rotate_left
        · intro w hSw; (try dsimp only at hSw); go_simp; (try with_reducible rfl)
        (try simp only [Act.put, pt8])
        refine wpAnyH_ready (rs := [8]) (by kernel_rfl) (by simp) ?_
        refine AllReadyH.cons rfl (fun K hK => ?_) AllReadyH.nil
        go_simp
        refine (HD1.out _ hHeld.2).mono ?_
        rintro e X8 ⟨u1, rfl, hou, hba⟩
        obtain ⟨A1', c1', rfl⟩ := own_slice hou
        have HL8 := Lib.hid (chain HLs.out hba)
        have HV1 := Lib.hid (show OwnI wr.heap.size X8 (.slice A1' t.regs.length c1') t.regs from own_base hou HLs.out.size)
        clear hou
        refine hK.out _ _ ⟨⟨kc hba hHeld.1.1, kc hba hHeld.1.2.1, kc hba hHeld.1.2.2.1, trivial⟩, hHeld.2.trans (hba.mono (Nat.le_trans HBr.out HLs.out.size))⟩ (fun hHeld => ?_)
        clear hK K
        (try simp only [Act.put, pt8])
        clear hba
        refine wpAnyH_ready (rs := [11]) (by kernel_rfl) (by simp) ?_
        refine AllReadyH.cons rfl (fun K hK => ?_) AllReadyH.nil
        go_simp
        refine (HD2.out _ hHeld.2).mono ?_
        rintro e X11 ⟨u2, rfl, hou, hba⟩
        obtain ⟨A2', c2', rfl⟩ := own_slice hou
        have HL11 := Lib.hid (chain HL8.out hba)
        replace HV1 := Lib.hid (own_below HV1.out hba)
        have HV2 := Lib.hid (show OwnW wr.heap.size X11 (.slice A2' t.buf.length c2') t.buf from own_base hou HL8.out.size)
        clear hou
        refine hK.out _ _ ⟨⟨kc hba hHeld.1.1, kc hba hHeld.1.2.1, kc hba hHeld.1.2.2.1, trivial⟩, hHeld.2.trans (hba.mono (Nat.le_trans HBr.out HL8.out.size))⟩ (fun hHeld => ?_)
        clear hK K
        (try simp only [Act.put, pt8])
        clear hba
        have e1 : X11.cell? ⟨gv, k * 4 + 1, none⟩ = some (.slice Ar t.regs.length cr) := (HL11.out.cell (p := ⟨gv, k * 4 + 1, none⟩) HGL.out).trans HZ1.out
        have e3 : X11.cell? ⟨gv, k * 4 + 3, none⟩ = some (.slice Ab t.buf.length cb) := (HL11.out.cell (p := ⟨gv, k * 4 + 3, none⟩) HGL.out).trans HZ3.out
        have HBV11 := Lib.hid (HBV.out.below HL11.out HGL.out)
        have g1 := HBV11.out.frozen (k * 4 + 1)
        obtain ⟨Y1, hY1⟩ : ∃ W, W = X11.setCell ⟨gv, k * 4 + 1, none⟩ (.slice A1' t.regs.length c1') := ⟨_, rfl⟩
        have e3' : Y1.cell? ⟨gv, k * 4 + 3, none⟩ = some (.slice Ab t.buf.length cb) := by rw [hY1]; exact st_oth (by omega) e3
        have g3' : Y1.frozen? ⟨gv, k * 4 + 3, none⟩ = false := by rw [hY1]; exact (HBV11.out.set _ _).frozen _
        have HY1 := Lib.hid hY1
        clear hY1
        refine wpAnyH_take (i := 12) (v := ?_) rfl (by kernel_rfl) (by kernel_rfl) (by kernel_rfl) (fun _ _ _ h => h) (Or.inl ⟨by rfl, ?_⟩) (by assumption) ?_
        rotate_left
        · intro w hSw; (try dsimp only at hSw); go_simp; (try with_reducible rfl)
        (try simp only [Act.put, pt8])
        refine wpAnyH_take (i := 13) (v := ?_) rfl (by kernel_rfl) (by kernel_rfl) (by kernel_rfl) (fun _ _ _ h => h) (Or.inl ⟨by rfl, ?_⟩) (by assumption) ?_
        rotate_left
        · intro w hSw; (try dsimp only at hSw); go_simp; (try with_reducible rfl)
        (try simp only [Act.put, pt8])
        refine wpAnyH_ready (rs := [14]) (by kernel_rfl) (by simp) ?_
        refine AllReadyH.cons rfl (fun K hK => ?_) AllReadyH.nil
        go_simp
        have hgv2 : W2.heap.size ≤ gv := HGV.out
        refine hK.out _ _ ⟨⟨st_ne hgov hHeld.1.1, st_ne hgxv hHeld.1.2.1, st_ne hgxv hHeld.1.2.2.1, trivial⟩, hHeld.2.setCell (p := ⟨gv, k * 4 + 1, none⟩) (Nat.le_trans HBB2.out HGV.out) _⟩ (fun hHeld => ?_)
        clear hK K
        (try simp only [Act.put, pt8])
        clear hgv2
        rw [← HY1.out] at hHeld ⊢
        refine wpAnyH_take (i := 15) (v := ?_) rfl (by kernel_rfl) (by kernel_rfl) (by kernel_rfl) (fun _ _ _ h => h) (Or.inl ⟨by rfl, ?_⟩) (by assumption) ?_
        rotate_left
        · intro w hSw; (try dsimp only at hSw); go_simp; (try with_reducible rfl)
        (try simp only [Act.put, pt8])
        refine wpAnyH_take (i := 16) (v := ?_) rfl (by kernel_rfl) (by kernel_rfl) (by kernel_rfl) (fun _ _ _ h => h) (Or.inl ⟨by rfl, ?_⟩) (by assumption) ?_
        rotate_left
        · intro w hSw; (try dsimp only at hSw); go_simp; (try with_reducible rfl)
        (try simp only [Act.put, pt8])
        refine wpAnyH_ready (rs := [17]) (by kernel_rfl) (by simp) ?_
        refine AllReadyH.cons rfl (fun K hK => ?_) AllReadyH.nil
        go_simp
        refine hK.out _ _ ⟨⟨st_ne hgov hHeld.1.1, st_ne hgxv hHeld.1.2.1, st_ne hgxv hHeld.1.2.2.1, trivial⟩, hHeld.2.setCell (p := ⟨gv, k * 4 + 3, none⟩) (Nat.le_trans HBB2.out HGV.out) _⟩ (fun hHeld => ?_)
        clear hK K
        (try simp only [Act.put, pt8])
        refine wpAnyH_done (by kernel_rfl) ?_ _
        clear hHeld
        go_wp2_with fail
        clear e1 e3 e3' g1 g3' c1 c3 x1 x3 y1
        rw [HY1.out]
        go_roundw
        case rel =>
          have hop11 := HOP.out.below HL11.out HBr.out
          have hn := HOP.out.new_r (u := .slice A1' t.regs.length c1') (l := t.regs) HV1.out (Nat.le_refl _)
          exact ⟨k + 1, _, by omega, by go_num, ((HBX.out.below HL11.out HBX.out.lt).other hgov _ _).other hgov _ _, HNX.out _ hop11 _ _ (own_base HV1.out HSZ.out) (own_base HV2.out HSZ.out) hn.1 hn.2, ((HB.out.trans (HL11.out.mono HSZ.out)).setCell (p := ⟨gv, k * 4 + 1, none⟩) HGV.out _).setCell (p := ⟨gv, k * 4 + 3, none⟩) HGV.out _⟩
        case measure => simp [intOf]; omega
      · obtain rfl : s.ths.length = k := by omega
        have y0 := HBX.out.cell 0 _ rfl
        have y1 := HBX.out.cell 1 _ rfl
        have HRR := Lib.hid (HR.out.below HB.out HR.out.lt)
        have r0 := HRR.out.cell 0 _ rfl
        have r1 := HRR.out.cell 1 _ rfl
        have f0 := HRR.out.frozen 0
        have f1 := HRR.out.frozen 1
        obtain ⟨W9, hW9⟩ : ∃ W, W = (wr.setCell ⟨gr, 0, none⟩ (.slice Am s.mem.length cm)).setCell ⟨gr, 1, none⟩ (.slice Av s.ths.length cv) := ⟨_, rfl⟩
        have HR9 := Lib.hid (show BoxC W9 gr 62 #[.slice Am s.mem.length cm, .slice Av s.ths.length cv] from by rw [hW9]; exact (HRR.out.set 0 _).set 1 _)
        have HO9 := Lib.hid (show OwnSt W2.heap.size W9 (.slice Am s.mem.length cm) (.slice Av s.ths.length cv) s ps from by
          have e := HOP.out.fin (by rw [HOP.out.len]; exact Nat.le_refl _)
          rw [hW9]
          exact (e.box HRR.out (by decide) (by decide) (by decide) 0 _).box (HRR.out.set 0 _) (by decide) (by decide) (by decide) 1 _)
        have HB9 := Lib.hid (show Below w.heap.size w W9 from by rw [hW9]; exact ((chain HB2.out HB.out).setCell (p := ⟨gr, 0, none⟩) HGR.out _).setCell (p := ⟨gr, 1, none⟩) HGR.out _)
        have HW9 := Lib.hid hW9
        clear hW9
        go_wp2_with fail
        rw [← HW9.out]
        clear y0 y1 r0 r1 f0 f1
        have r0 := HR9.out.cell 0 _ rfl
        have r1 := HR9.out.cell 1 _ rfl
        have hz := HCO.out
        refine bodyPost_ret (v := .agg #[.slice Am s.mem.length cm, .slice Av s.ths.length cv]) (by simp [results, Try.results67, go_sem, r0, r1, hz]) rfl ⟨_, _, _, rfl, HO9.out.base HB2.out.size, HB9.out⟩
end Go.Proofs.Ytbffjhdocicfoaa
