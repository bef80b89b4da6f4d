/-
  slots.Insert.
-/
import Derived.Test.YtaelfjphgdlbcaaM14
import Derived.Deep.RegionHeld3
import Derived.Deep.DeepCutAuto
namespace Go.Proofs.Ytaelfjphgdlbcaa
open Go.RowKit
set_option linter.unusedVariables false
set_option linter.unusedSimpArgs false
open CodM (St Pg)
open SlM

theorem rows_base {A : Type} {W : World} {b b' : Nat} {T : TypeId} {cs : List A → List Value} {vs : List Value} {xss : List (List A)} (h : RowsA W b T cs vs xss) (hb : b' ≤ b) : RowsA W b' T cs vs xss :=
  ⟨h.len, fun j hj => by obtain ⟨u, h1, h2⟩ := h.own j hj; exact ⟨u, h1, own_base h2 hb⟩, h.apart⟩
theorem is_made {b gm gq n : Nat} {WW W : World} {ns : List Int} {ui : Value} {vs : List Value} {xss : List (List St)} (h1 : W.ownsRow b 3 1 ui ns.length (ns.flatMap inC)) (h2 : W.ownsRow b 50 1 (.slice (some ⟨gm, 0, none⟩) n n) n vs)
    (h3 : RowsA W b 53 stsCs vs xss) (h4 : BoxC W gq 25 #[.slice none 0 0, .slice none 0 0]) (hgq : b ≤ gq) (h5 : Below b WW W) :
    IS b WW ns ui gm gq n vs xss ((W.setCell ⟨gq, 0, none⟩ ui).setCell ⟨gq, 1, none⟩ (.slice (some ⟨gm, 0, none⟩) n n)) := by
  have hb1 := h4.set 0 ui
  have k1 : ∀ {s m : Nat} {T : TypeId} {v : Value} {xs : List Value}, T ≠ 25 → W.ownsRow b T s v m xs → ((W.setCell ⟨gq, 0, none⟩ ui).setCell ⟨gq, 1, none⟩ (.slice (some ⟨gm, 0, none⟩) n n)).ownsRow b T s v m xs := fun hT h => by
    have ha := h.kept (grown_set W gq 0 ui) (own_box h h4 hT)
    exact ha.kept (grown_set _ gq 1 _) (own_box ha hb1 hT)
  refine ⟨k1 (by decide) h1, k1 (by decide) h2, ⟨h3.len, fun j hj => ?_, h3.apart⟩, hb1.set 1 _, (h5.setCell (p := ⟨gq, 0, none⟩) hgq _).setCell (p := ⟨gq, 1, none⟩) hgq _⟩
  obtain ⟨u, e1, e2⟩ := h3.own j hj
  exact ⟨u, e1, k1 (by decide) e2⟩
theorem landing_any (bp : Nat) (i n : Int) (w : World) :
    Calls Try.prog 49 #[.map (some bp), .int .i64 i, .int .i64 n] w fun e w' => ∃ gf gt ge, e = .returned (.func (.func 65) #[] #[.pointer (some ⟨ge, 0, none⟩), .pointer (some ⟨gf, 0, none⟩), .pointer (some ⟨gt, 0, none⟩)]) ∧
      BoxC w' gf 76 #[.map (some bp)] ∧ BoxC w' gt 3 #[.int .i64 i] ∧ BoxC w' ge 3 #[.int .i64 n] ∧ Below w.heap.size w w' := by
  have b1 := ((BoxC.new w 76 #[.map (some bp)]).alloc (.cells #[.int .i64 i] 3)).alloc (.cells #[.int .i64 n] 3)
  have b2 := (BoxC.new (w.alloc (.cells #[.map (some bp)] 76)) 3 #[.int .i64 i]).alloc (.cells #[.int .i64 n] 3)
  have b3 := BoxC.new ((w.alloc (.cells #[.map (some bp)] 76)).alloc (.cells #[.int .i64 i] 3)) 3 #[.int .i64 n]
  rw [World.size_alloc] at b2
  rw [World.size_alloc, World.size_alloc] at b3
  have hB := below_al (below_al (below_al (Below.refl w.heap.size w) (.cells #[.map (some bp)] 76)) (.cells #[.int .i64 i] 3)) (.cells #[.int .i64 n] 3)
  have hst : ∀ (W : World) (a : Addr) (f : Fn) (x y : Array Value), (store a (.func f x y)).run Try.prog W = _ := fun W a f x y => run_store Try.prog W a (.func f x y) _ rfl
  go_enter Try.func49, Try.ntmps49
  go_wp2
  go_ret
  exact ⟨w.heap.size, w.heap.size + 1, w.heap.size + 1 + 1, rfl, b1, b2, b3, hB⟩
set_option maxHeartbeats 8000000 in
set_option maxRecDepth 100000 in
theorem insert_any {B : Nat} {v vg : Value} {P : Pg} {g : List Int} (w : World) (hv : PgV B w v P) (hg : Ints B w vg g) (hBB : B ≤ w.heap.size) (hi : P.init.length ≤ 1000000) (hl : P.ths.length ≤ 1000000) (hll : ∀ ss ∈ P.ths, ss.length ≤ 1000000) (hgl : g.length ≤ 1000000)
    (hj : ∀ ss ∈ P.ths, ∀ s ∈ ss, jmpS s = true → 0 ≤ s.5 ∧ s.5 ≤ 1000000) :
    Calls Try.prog 22 #[v, vg] w fun e w' => ∃ u, e = .returned u ∧ PgV w'.heap.size w' u (insP P g) ∧ Below w.heap.size w w' := by
  obtain ⟨vi, vt, rfl, hm⟩ := hv
  have HM := Lib.hid hm
  have HG := Lib.hid hg
  have HN1 := Lib.hid hi
  have HN2 := Lib.hid hl
  have HN3 := Lib.hid hll
  have HN4 := Lib.hid hgl
  have HJ := Lib.hid hj
  obtain ⟨⟨P0, c0, rfl, -⟩, ⟨P1, c1, rfl, l1, l2, l3⟩⟩ := hm
  obtain ⟨PG, cg, rfl, -⟩ := hg
  unfold maxLen at l2
  obtain ⟨W1, hW1⟩ : ∃ W, W = (w.alloc (.cells #[(.slice P0 P.init.length c0), (.slice P1 P.ths.length c1)] 25)).alloc (.cells #[.slice none 0 0, .slice none 0 0] 25) := ⟨_, rfl⟩
  have hB1 := Lib.hid (show Below w.heap.size w W1 from by rw [hW1]; exact below_al (below_al (Below.refl _ w) _) _)
  have HPB := Lib.hid (show BoxC W1 w.heap.size 25 #[(.slice P0 P.init.length c0), (.slice P1 P.ths.length c1)] from by rw [hW1]; exact (BoxC.new w _ _).alloc _)
  have HRB := Lib.hid (show BoxC W1 (w.heap.size + 1) 25 #[.slice none 0 0, .slice none 0 0] from by
    rw [hW1]; have := BoxC.new (w.alloc (.cells #[(.slice P0 P.init.length c0), (.slice P1 P.ths.length c1)] 25)) 25 #[.slice none 0 0, .slice none 0 0]
    rw [World.size_alloc] at this; exact this)
  have HCH := Lib.hid (callsIn_wide.1 (chosens_in Fence.wide 10 trivial trivial trivial trivial trivial trivial rfl (by omega) (B := B) (v := (.slice P1 P.ths.length c1)) (vg := .slice PG g.length cg) (ths := P.ths) (g := g) W1 (HM.out.2.below (hB1.out.mono hBB)) (HG.out.below (hB1.out.mono hBB)) (Nat.le_trans hBB hB1.out.size) HN2.out HN3.out HN4.out))
  rw [hW1] at HCH
  go_enter Try.func22, Try.ntmps22
  go_wp2_with fail
  refine HCH.out.mono ?_
  rintro e WW ⟨bp, f, rfl, hbp1, hbp2, hmp, hf, hba⟩
  rw [← hW1] at hba
  have HF := Lib.hid hf
  have hBW := Lib.hid (hB1.out.trans (hba.mono hB1.out.size))
  have HPW := Lib.hid (HPB.out.below hba HPB.out.lt)
  have HRW := Lib.hid (HRB.out.below hba HRB.out.lt)
  have HMP := Lib.hid (fun X (hX : Below WW.heap.size WW X) => hmp.below hX hbp1)
  have HBP := Lib.hid (fun X (hX : Below WW.heap.size WW X) => Nat.lt_of_lt_of_le hbp1 hX.size)
  have hBWW : B ≤ WW.heap.size := Nat.le_trans hBB hBW.out.size
  have HBX := Lib.hid (fun X (hX : Below WW.heap.size WW X) => Nat.le_trans hBWW hX.size)
  have HIN := Lib.hid (fun X (hX : Below WW.heap.size WW X) => (HM.out.1.below (hBW.out.mono hBB)).below (hX.mono hBWW))
  have HTH := Lib.hid (fun X (hX : Below WW.heap.size WW X) => (HM.out.2.below (hBW.out.mono hBB)).below (hX.mono hBWW))
  have HS := Lib.hid (fun X (hX : Below WW.heap.size WW X) => (show ((X.cell? ⟨w.heap.size, 0, none⟩ = some (.slice P0 P.init.length c0) ∧ X.cell? ⟨w.heap.size, 1, none⟩ = some (.slice P1 P.ths.length c1)) ∧ Below WW.heap.size WW X) from ⟨⟨(HPW.out.below hX HPW.out.lt).cell 0 _ rfl, (HPW.out.below hX HPW.out.lt).cell 1 _ rfl⟩, hX⟩))
  clear hW1 HCH hba hmp hf hbp1 hbp2
  have p1 := HPW.out.cell 1 _ rfl
  go_upto_region 2 with fail
  clear p1
  go_cut [6] (fun s6 wx => ∃ gq gm vs ui, s6 = .pointer (some ⟨gq, 0, none⟩) ∧ IS WW.heap.size WW P.init ui gm gq P.ths.length vs ((List.range P.ths.length).map (fun (t : Nat) => wthN (fun q => f (t : Int) (q : Int)) fenS (P.ths.getD t []) (P.ths.getD t []).length)) wx)
  case first =>
    refine wp_region_held_drew (S := (fun w' => (w'.cell? ⟨w.heap.size, 0, none⟩ = some (.slice P0 P.init.length c0) ∧ w'.cell? ⟨w.heap.size, 1, none⟩ = some (.slice P1 P.ths.length c1)) ∧ Below WW.heap.size WW w')) (by kernel_rfl) (HS.out _ (below_drewN (Below.refl _ _) 1)) (fun hHeld => ?_)
    obtain ⟨X0, hX0⟩ : ∃ W, W = WW.drew := ⟨_, rfl⟩
    have HLX0 := Lib.hid (show Below WW.heap.size WW X0 from by rw [hX0]; exact below_drewN (Below.refl _ _) 1)
    rw [← hX0] at hHeld ⊢
    clear hX0
    refine wpAnyH_take (i := 0) (v := ?_) rfl (by kernel_rfl) (by kernel_rfl) (by kernel_rfl) (fun _ _ _ h => h) (Or.inl ⟨by rfl, ?_⟩) (by assumption) ?_
    rotate_left
    · intro w hSw; (try dsimp only at hSw); go_simp; (try with_reducible rfl)
    (try simp only [Act.put, List.getElem_toArray, List.getElem_cons_zero, List.getElem_cons_succ, Array.getInternal_eq_getElem, List.setIfInBounds_toArray, List.set_cons_zero, List.set_cons_succ])
    refine wpAnyH_take (i := 1) (v := ?_) rfl (by kernel_rfl) (by kernel_rfl) (by kernel_rfl) (fun _ _ _ h => h) (Or.inl ⟨by rfl, ?_⟩) (by assumption) ?_
    rotate_left
    · intro w hSw; (try dsimp only at hSw); go_simp; (try with_reducible rfl)
    (try simp only [Act.put, List.getElem_toArray, List.getElem_cons_zero, List.getElem_cons_succ, Array.getInternal_eq_getElem, List.setIfInBounds_toArray, List.set_cons_zero, List.set_cons_succ])
    refine wpAnyH_take (i := 3) (v := ?_) rfl (by kernel_rfl) (by kernel_rfl) (by kernel_rfl) (fun _ _ _ h => h) (Or.inl ⟨by rfl, ?_⟩) (by assumption) ?_
    rotate_left
    · intro w hSw; (try dsimp only at hSw); go_simp; (try with_reducible rfl)
    (try simp only [Act.put, List.getElem_toArray, List.getElem_cons_zero, List.getElem_cons_succ, Array.getInternal_eq_getElem, List.setIfInBounds_toArray, List.set_cons_zero, List.set_cons_succ])
    refine wpAnyH_take (i := 4) (v := ?_) rfl (by kernel_rfl) (by kernel_rfl) (by kernel_rfl) (fun _ _ _ h => h) (Or.inl ⟨by rfl, ?_⟩) (by assumption) ?_
    rotate_left
    · intro w hSw; (try dsimp only at hSw); go_simp; (try with_reducible rfl)
    (try simp only [Act.put, List.getElem_toArray, List.getElem_cons_zero, List.getElem_cons_succ, Array.getInternal_eq_getElem, List.setIfInBounds_toArray, List.set_cons_zero, List.set_cons_succ])
    refine wpAnyH_take (i := 5) (v := ?_) rfl (by kernel_rfl) (by kernel_rfl) (by kernel_rfl) (fun _ _ _ h => h) (Or.inl ⟨by rfl, ?_⟩) (by assumption) ?_
    rotate_left
    · intro w hSw; (try dsimp only at hSw); go_simp; (try with_reducible rfl)
    (try simp only [Act.put, List.getElem_toArray, List.getElem_cons_zero, List.getElem_cons_succ, Array.getInternal_eq_getElem, List.setIfInBounds_toArray, List.set_cons_zero, List.set_cons_succ])
    refine wpAnyH_take (i := 6) (v := ?_) rfl (by kernel_rfl) (by kernel_rfl) (by kernel_rfl) (fun _ _ _ h => h) (Or.inl ⟨by rfl, ?_⟩) (by assumption) ?_
    rotate_left
    · intro w hSw; (try dsimp only at hSw); go_simp; (try with_reducible rfl)
    (try simp only [Act.put, List.getElem_toArray, List.getElem_cons_zero, List.getElem_cons_succ, Array.getInternal_eq_getElem, List.setIfInBounds_toArray, List.set_cons_zero, List.set_cons_succ])
    refine wpAnyH_ready (rs := [2, 9]) (by kernel_rfl) (by simp) ?_
    refine AllReadyH.cons rfl (fun K hK => ?_) (AllReadyH.cons rfl (fun K hK => ?_) (AllReadyH.nil))
    · -- 2 first
      go_simp
      refine (clonei_any _ (HIN.out _ HLX0.out) (HBX.out _ HLX0.out) HN1.out).mono ?_
      rintro e wa ⟨u1, rfl, hu1, hba⟩
      obtain ⟨Au1, cu1, rfl⟩ := own_slice hu1
      have HLwa := Lib.hid (chain HLX0.out hba)
      have HU1 := Lib.hid (own_base hu1 HLX0.out.size)
      clear hba hu1
      refine hK.out _ _ (HS.out _ HLwa.out) (fun hHeld => ?_)
      clear hK K
      (try simp only [Act.put, List.getElem_toArray, List.getElem_cons_zero, List.getElem_cons_succ, Array.getInternal_eq_getElem, List.setIfInBounds_toArray, List.set_cons_zero, List.set_cons_succ])
      refine wpAnyH_ready (rs := [7, 9]) (by kernel_rfl) (by simp) ?_
      refine AllReadyH.cons rfl (fun K hK => ?_) (AllReadyH.cons rfl (fun K hK => ?_) (AllReadyH.nil))
      · -- 7 first
        go_simp
        refine (withs_any fenS _ (HTH.out _ HLwa.out) (HBX.out _ HLwa.out) (HMP.out _ HLwa.out) (HBP.out _ HLwa.out) HN2.out HN3.out).mono ?_
        rintro e wb ⟨gm, vs, rfl, hmo, hro, hba⟩
        have HLwb := Lib.hid (chain HLwa.out hba)
        replace HU1 := Lib.hid (own_below HU1.out hba)
        have HMO := Lib.hid (own_base hmo HLwa.out.size)
        have HRO := Lib.hid (rows_base hro HLwa.out.size)
        clear hba hmo hro
        refine hK.out _ _ (HS.out _ HLwb.out) (fun hHeld => ?_)
        clear hK K
        (try simp only [Act.put, List.getElem_toArray, List.getElem_cons_zero, List.getElem_cons_succ, Array.getInternal_eq_getElem, List.setIfInBounds_toArray, List.set_cons_zero, List.set_cons_succ])
        refine wpAnyH_take (i := 8) (v := ?_) rfl (by kernel_rfl) (by kernel_rfl) (by kernel_rfl) (fun _ _ _ h => h) (Or.inl ⟨by rfl, ?_⟩) (by assumption) ?_
        rotate_left
        · intro w hSw; (try dsimp only at hSw); go_simp; (try with_reducible rfl)
        (try simp only [Act.put, List.getElem_toArray, List.getElem_cons_zero, List.getElem_cons_succ, Array.getInternal_eq_getElem, List.setIfInBounds_toArray, List.set_cons_zero, List.set_cons_succ])
        refine wpAnyH_ready (rs := [9]) (by kernel_rfl) (by simp) ?_
        refine AllReadyH.cons rfl (fun K hK => ?_) AllReadyH.nil
        go_simp
        refine hK.out _ _ (HS.out _ (below_al HLwb.out (.cells #[.slice none 0 0, .slice none 0 0] 25))) (fun hHeld => ?_)
        clear hK K
        (try simp only [Act.put, List.getElem_toArray, List.getElem_cons_zero, List.getElem_cons_succ, Array.getInternal_eq_getElem, List.setIfInBounds_toArray, List.set_cons_zero, List.set_cons_succ])
        obtain ⟨gq, hgq⟩ : ∃ g, g = wb.heap.size := ⟨_, rfl⟩
        obtain ⟨xq, hxq⟩ : ∃ W, W = wb.alloc (.cells #[.slice none 0 0, .slice none 0 0] 25) := ⟨_, rfl⟩
        have hba := Lib.hid (show Below wb.heap.size wb xq from by rw [hxq]; exact below_al (Below.refl _ _) _)
        have HLxq := Lib.hid (chain HLwb.out hba.out)
        replace HU1 := Lib.hid (own_below HU1.out hba.out)
        replace HMO := Lib.hid (own_below HMO.out hba.out)
        replace HRO := Lib.hid (HRO.out.below hba.out)
        have HQ := Lib.hid (show BoxC xq gq 25 #[.slice none 0 0, .slice none 0 0] from by rw [hxq, hgq]; exact BoxC.new _ _ _)
        have HGQ := Lib.hid (show WW.heap.size ≤ gq from by rw [hgq]; exact HLwb.out.size)
        rw [← hxq] at hHeld ⊢
        rw [← hgq]
        clear hxq hgq hba
        refine wpAnyH_ready (rs := [10]) (by kernel_rfl) (by simp) ?_
        refine AllReadyH.cons rfl (fun K hK => ?_) AllReadyH.nil
        have q0 := HQ.out.cell 0 _ rfl
        have q1 := HQ.out.cell 1 _ rfl
        have f0 := HQ.out.frozen 0
        have f1 := HQ.out.frozen 1
        go_simp
        refine hK.out _ _ (HS.out _ ((HLxq.out.setCell (p := ⟨gq, 0, none⟩) HGQ.out _).setCell (p := ⟨gq, 1, none⟩) HGQ.out _)) (fun hHeld => ?_)
        clear hK K
        (try simp only [Act.put, List.getElem_toArray, List.getElem_cons_zero, List.getElem_cons_succ, Array.getInternal_eq_getElem, List.setIfInBounds_toArray, List.set_cons_zero, List.set_cons_succ])
        clear q0 q1 f0 f1
        refine wpAnyH_done (by kernel_rfl) ?_ _
        have HIS := Lib.hid (is_made HU1.out HMO.out HRO.out HQ.out HGQ.out HLxq.out)
        clear hHeld
        go_wp2_with fail
        go_meet
        exact ⟨gq, gm, vs, _, rfl, HIS.out⟩
      · -- 9 first
        go_simp
        refine hK.out _ _ (HS.out _ (below_al HLwa.out (.cells #[.slice none 0 0, .slice none 0 0] 25))) (fun hHeld => ?_)
        clear hK K
        (try simp only [Act.put, List.getElem_toArray, List.getElem_cons_zero, List.getElem_cons_succ, Array.getInternal_eq_getElem, List.setIfInBounds_toArray, List.set_cons_zero, List.set_cons_succ])
        obtain ⟨gq, hgq⟩ : ∃ g, g = wa.heap.size := ⟨_, rfl⟩
        obtain ⟨xq, hxq⟩ : ∃ W, W = wa.alloc (.cells #[.slice none 0 0, .slice none 0 0] 25) := ⟨_, rfl⟩
        have hba := Lib.hid (show Below wa.heap.size wa xq from by rw [hxq]; exact below_al (Below.refl _ _) _)
        have HLxq := Lib.hid (chain HLwa.out hba.out)
        replace HU1 := Lib.hid (own_below HU1.out hba.out)
        have HQ := Lib.hid (show BoxC xq gq 25 #[.slice none 0 0, .slice none 0 0] from by rw [hxq, hgq]; exact BoxC.new _ _ _)
        have HGQ := Lib.hid (show WW.heap.size ≤ gq from by rw [hgq]; exact HLwa.out.size)
        rw [← hxq] at hHeld ⊢
        rw [← hgq]
        clear hxq hgq hba
        refine wpAnyH_ready (rs := [7]) (by kernel_rfl) (by simp) ?_
        refine AllReadyH.cons rfl (fun K hK => ?_) AllReadyH.nil
        go_simp
        refine (withs_any fenS _ (HTH.out _ HLxq.out) (HBX.out _ HLxq.out) (HMP.out _ HLxq.out) (HBP.out _ HLxq.out) HN2.out HN3.out).mono ?_
        rintro e wb ⟨gm, vs, rfl, hmo, hro, hba⟩
        have HLwb := Lib.hid (chain HLxq.out hba)
        replace HU1 := Lib.hid (own_below HU1.out hba)
        replace HQ := Lib.hid (HQ.out.below hba HQ.out.lt)
        have HMO := Lib.hid (own_base hmo HLxq.out.size)
        have HRO := Lib.hid (rows_base hro HLxq.out.size)
        clear hba hmo hro
        refine hK.out _ _ (HS.out _ HLwb.out) (fun hHeld => ?_)
        clear hK K
        (try simp only [Act.put, List.getElem_toArray, List.getElem_cons_zero, List.getElem_cons_succ, Array.getInternal_eq_getElem, List.setIfInBounds_toArray, List.set_cons_zero, List.set_cons_succ])
        refine wpAnyH_take (i := 8) (v := ?_) rfl (by kernel_rfl) (by kernel_rfl) (by kernel_rfl) (fun _ _ _ h => h) (Or.inl ⟨by rfl, ?_⟩) (by assumption) ?_
        rotate_left
        · intro w hSw; (try dsimp only at hSw); go_simp; (try with_reducible rfl)
        (try simp only [Act.put, List.getElem_toArray, List.getElem_cons_zero, List.getElem_cons_succ, Array.getInternal_eq_getElem, List.setIfInBounds_toArray, List.set_cons_zero, List.set_cons_succ])
        refine wpAnyH_ready (rs := [10]) (by kernel_rfl) (by simp) ?_
        refine AllReadyH.cons rfl (fun K hK => ?_) AllReadyH.nil
        have q0 := HQ.out.cell 0 _ rfl
        have q1 := HQ.out.cell 1 _ rfl
        have f0 := HQ.out.frozen 0
        have f1 := HQ.out.frozen 1
        go_simp
        refine hK.out _ _ (HS.out _ ((HLwb.out.setCell (p := ⟨gq, 0, none⟩) HGQ.out _).setCell (p := ⟨gq, 1, none⟩) HGQ.out _)) (fun hHeld => ?_)
        clear hK K
        (try simp only [Act.put, List.getElem_toArray, List.getElem_cons_zero, List.getElem_cons_succ, Array.getInternal_eq_getElem, List.setIfInBounds_toArray, List.set_cons_zero, List.set_cons_succ])
        clear q0 q1 f0 f1
        refine wpAnyH_done (by kernel_rfl) ?_ _
        have HIS := Lib.hid (is_made HU1.out HMO.out HRO.out HQ.out HGQ.out HLwb.out)
        clear hHeld
        go_wp2_with fail
        go_meet
        exact ⟨gq, gm, vs, _, rfl, HIS.out⟩
    · -- 9 first
      go_simp
      refine hK.out _ _ (HS.out _ (below_al HLX0.out (.cells #[.slice none 0 0, .slice none 0 0] 25))) (fun hHeld => ?_)
      clear hK K
      (try simp only [Act.put, List.getElem_toArray, List.getElem_cons_zero, List.getElem_cons_succ, Array.getInternal_eq_getElem, List.setIfInBounds_toArray, List.set_cons_zero, List.set_cons_succ])
      obtain ⟨gq, hgq⟩ : ∃ g, g = X0.heap.size := ⟨_, rfl⟩
      obtain ⟨xq, hxq⟩ : ∃ W, W = X0.alloc (.cells #[.slice none 0 0, .slice none 0 0] 25) := ⟨_, rfl⟩
      have hba := Lib.hid (show Below X0.heap.size X0 xq from by rw [hxq]; exact below_al (Below.refl _ _) _)
      have HLxq := Lib.hid (chain HLX0.out hba.out)
      have HQ := Lib.hid (show BoxC xq gq 25 #[.slice none 0 0, .slice none 0 0] from by rw [hxq, hgq]; exact BoxC.new _ _ _)
      have HGQ := Lib.hid (show WW.heap.size ≤ gq from by rw [hgq]; exact HLX0.out.size)
      rw [← hxq] at hHeld ⊢
      rw [← hgq]
      clear hxq hgq hba
      refine wpAnyH_ready (rs := [2]) (by kernel_rfl) (by simp) ?_
      refine AllReadyH.cons rfl (fun K hK => ?_) AllReadyH.nil
      go_simp
      refine (clonei_any _ (HIN.out _ HLxq.out) (HBX.out _ HLxq.out) HN1.out).mono ?_
      rintro e wa ⟨u1, rfl, hu1, hba⟩
      obtain ⟨Au1, cu1, rfl⟩ := own_slice hu1
      have HLwa := Lib.hid (chain HLxq.out hba)
      replace HQ := Lib.hid (HQ.out.below hba HQ.out.lt)
      have HU1 := Lib.hid (own_base hu1 HLxq.out.size)
      clear hba hu1
      refine hK.out _ _ (HS.out _ HLwa.out) (fun hHeld => ?_)
      clear hK K
      (try simp only [Act.put, List.getElem_toArray, List.getElem_cons_zero, List.getElem_cons_succ, Array.getInternal_eq_getElem, List.setIfInBounds_toArray, List.set_cons_zero, List.set_cons_succ])
      refine wpAnyH_ready (rs := [7]) (by kernel_rfl) (by simp) ?_
      refine AllReadyH.cons rfl (fun K hK => ?_) AllReadyH.nil
      go_simp
      refine (withs_any fenS _ (HTH.out _ HLwa.out) (HBX.out _ HLwa.out) (HMP.out _ HLwa.out) (HBP.out _ HLwa.out) HN2.out HN3.out).mono ?_
      rintro e wb ⟨gm, vs, rfl, hmo, hro, hba⟩
      have HLwb := Lib.hid (chain HLwa.out hba)
      replace HU1 := Lib.hid (own_below HU1.out hba)
      replace HQ := Lib.hid (HQ.out.below hba HQ.out.lt)
      have HMO := Lib.hid (own_base hmo HLwa.out.size)
      have HRO := Lib.hid (rows_base hro HLwa.out.size)
      clear hba hmo hro
      refine hK.out _ _ (HS.out _ HLwb.out) (fun hHeld => ?_)
      clear hK K
      (try simp only [Act.put, List.getElem_toArray, List.getElem_cons_zero, List.getElem_cons_succ, Array.getInternal_eq_getElem, List.setIfInBounds_toArray, List.set_cons_zero, List.set_cons_succ])
      refine wpAnyH_take (i := 8) (v := ?_) rfl (by kernel_rfl) (by kernel_rfl) (by kernel_rfl) (fun _ _ _ h => h) (Or.inl ⟨by rfl, ?_⟩) (by assumption) ?_
      rotate_left
      · intro w hSw; (try dsimp only at hSw); go_simp; (try with_reducible rfl)
      (try simp only [Act.put, List.getElem_toArray, List.getElem_cons_zero, List.getElem_cons_succ, Array.getInternal_eq_getElem, List.setIfInBounds_toArray, List.set_cons_zero, List.set_cons_succ])
      refine wpAnyH_ready (rs := [10]) (by kernel_rfl) (by simp) ?_
      refine AllReadyH.cons rfl (fun K hK => ?_) AllReadyH.nil
      have q0 := HQ.out.cell 0 _ rfl
      have q1 := HQ.out.cell 1 _ rfl
      have f0 := HQ.out.frozen 0
      have f1 := HQ.out.frozen 1
      go_simp
      refine hK.out _ _ (HS.out _ ((HLwb.out.setCell (p := ⟨gq, 0, none⟩) HGQ.out _).setCell (p := ⟨gq, 1, none⟩) HGQ.out _)) (fun hHeld => ?_)
      clear hK K
      (try simp only [Act.put, List.getElem_toArray, List.getElem_cons_zero, List.getElem_cons_succ, Array.getInternal_eq_getElem, List.setIfInBounds_toArray, List.set_cons_zero, List.set_cons_succ])
      clear q0 q1 f0 f1
      refine wpAnyH_done (by kernel_rfl) ?_ _
      have HIS := Lib.hid (is_made HU1.out HMO.out HRO.out HQ.out HGQ.out HLwb.out)
      clear hHeld
      go_wp2_with fail
      go_meet
      exact ⟨gq, gm, vs, _, rfl, HIS.out⟩
  case rest =>
    obtain ⟨gq, gm, vs, ui, rfl, hIS⟩ := hcut
    obtain ⟨Au1, cu1, rfl⟩ := own_slice hIS.ini
    obtain ⟨R, hR⟩ : ∃ R : Nat → List St, R = (fun (t : Nat) => wthN (fun q => f (t : Int) (q : Int)) fenS (P.ths.getD t []) (P.ths.getD t []).length) := ⟨_, rfl⟩
    obtain ⟨M, hM⟩ : ∃ M : Nat → St → St, M = fun (t : Nat) => mv (fun q => f (t : Int) (q : Int)) (P.ths.getD t []).length := ⟨_, rfl⟩
    rw [← hR, ← rowsG_zero (fun t => (R t).map (M t)) R] at hIS
    have HI0 := Lib.hid hIS
    have HINS := Lib.hid (show insP P g = ⟨P.init, (List.range P.ths.length).map fun t => (R t).map (M t)⟩ from by rw [← insF_eq HF.out, hR, hM]; rfl)
    have HRL := Lib.hid (fun (t : Nat) (ht : t < P.ths.length) => show (R t).length ≤ 2000000 from by
      have h1 := wthN_len (fun q => f (t : Int) (q : Int)) fenS (P.ths.getD t []) (P.ths.getD t []).length
      have h2 := HN3.out _ (List.getElem_mem ht)
      rw [hR]; simp only [SlM.getD_at ht] at h1 ⊢; omega)
    have HRJ := Lib.hid (fun (t : Nat) (ht : t < P.ths.length) (s : St) (hs : s ∈ R t) (hjs : jmpS s = true) => show ∃ tn : Nat, s.5 = (tn : Int) ∧ tn ≤ 1000000 from by
      rw [hR] at hs
      rcases mem_wthN hs with rfl | hs
      · cases hjs
      · rw [SlM.getD_at ht] at hs
        obtain ⟨h1, h2⟩ := HJ.out _ (List.getElem_mem ht) s hs hjs
        exact ⟨s.5.toNat, by omega, by omega⟩)
    have HMJ := Lib.hid (fun (t : Nat) (ht : t < P.ths.length) (s : St) => show M t s = mv (fun q => f (t : Int) (q : Int)) P.ths[t].length s from by rw [hM]; simp only [SlM.getD_at ht])
    clear hR hM hIS HF
    have b1 := HI0.out.box.cell 1 _ rfl
    have b0 := HI0.out.box.cell 0 _ rfl
    go_wp2
    go_loopw [28] (fun i wr => ∃ j : Nat, j ≤ P.ths.length ∧ i = .int .i64 j ∧ IS WW.heap.size WW P.init (.slice Au1 P.init.length cu1) gm gq P.ths.length vs (rowsG (fun t => (R t).map (M t)) R (R j) P.ths.length j) wr) (fun i _ => P.ths.length - (intOf i).toNat)
    case atStart => exact ⟨0, Nat.zero_le _, rfl, HI0.out⟩
    case round =>
      clear b0 b1
      obtain ⟨j, hj, rfl, hI⟩ := hrel
      by_cases hlt : j < P.ths.length
      · obtain ⟨u, hu, ho⟩ := hI.rows.own j (by rw [rowsG_len]; exact hlt)
        rw [rowsG_at _ _ _ hlt] at ho
        obtain ⟨Aj, cj, rfl⟩ := own_slice ho
        have c32 : wr.cell? ⟨gm, j, none⟩ = some (.slice Aj (R j).length cj) := by rw [hI.more.cellAt j (by omega)]; exact hu
        have pb1 := (HPW.out.below hI.below HPW.out.lt).cell 1 _ rfl
        obtain ⟨A', c', e', -, -, hth⟩ := HTH.out wr hI.below
        simp only [Value.slice.injEq, true_and] at e'
        obtain ⟨rfl, rfl⟩ := e'
        obtain ⟨b2, f2, rfl, hb2, hcl⟩ := hth (by omega)
        obtain ⟨vv, hvv, hsts⟩ := hcl j hlt
        obtain ⟨A2, c2, rfl, -⟩ := hsts
        have hlj : P.ths[j].length ≤ 1000000 := HN3.out _ (List.getElem_mem hlt)
        have hrl := HRL.out j hlt
        have hrj := Lib.hid (HRJ.out j hlt)
        have hmj := Lib.hid (HMJ.out j hlt)
        have HU := Lib.hid hu
        have HI := Lib.hid hI
        have hNX := Lib.hid (rowsG_next (fun t => (R t).map (M t)) R P.ths.length j)
        have hSE := Lib.hid (fun q q' => rowsG_set (fun t => (R t).map (M t)) R q q' hlt)
        clear hth hcl hu ho
        generalize P.ths[j].length = lj at *
        go_wp2_with fail
        refine (landing_any bp _ _ _).mono ?_
        rintro e wl ⟨gf, gt, ge, rfl, bF, bT, bE, hbl⟩
        have HI1 := Lib.hid (HI.out.grow hbl (Nat.le_refl _))
        have HF1 := Lib.hid bF
        have HT1 := Lib.hid bT
        have HE1 := Lib.hid bE
        clear c32 pb1 hvv hI hbl bF bT bE
        obtain ⟨RJ, hRJ⟩ : ∃ r, r = R j := ⟨_, rfl⟩
        rw [← hRJ] at HU HI1 hrl hrj hNX ⊢
        clear hRJ HI
        go_wp2_with fail
        go_loopw [44] (fun i wr => ∃ k : Nat, k ≤ RJ.length ∧ i = .int .i64 k ∧ IS WW.heap.size WW P.init (.slice Au1 P.init.length cu1) gm gq P.ths.length vs (rowsG (fun t => (R t).map (M t)) R (pm (M j) RJ k) P.ths.length j) wr ∧ BoxC wr gf 76 #[.map (some bp)] ∧ BoxC wr gt 3 #[.int .i64 (j : Int)] ∧ BoxC wr ge 3 #[.int .i64 (lj : Int)]) (fun i _ => RJ.length - (intOf i).toNat)
        case atStart => exact ⟨0, Nat.zero_le _, rfl, HI1.out, HF1.out, HT1.out, HE1.out⟩
        case round =>
          obtain ⟨k, hk, rfl, hI, bF, bT, bE⟩ := hrel
          by_cases hlt2 : k < RJ.length
          · obtain ⟨hj', ho⟩ := hI.rows.of HU.out
            rw [rowsG_at _ _ _ hlt, pm_len] at ho
            obtain ⟨gj, cap, e, hgj1, hgj2⟩ := ho.form (by omega)
            injection e with e1 _ e3
            subst e1; subst e3
            have hz : ∀ i, i < 5 → wr.cell? ⟨gj, k * 5 + i, none⟩ = (stCs RJ[k])[i]? := fun i hi => by
              rw [ho.cellAt (k * 5 + i) (by omega), stsCs_at (pm (M j) RJ k) k i (by rw [pm_len]; exact hlt2) hi, pm_at (M j) RJ hlt2]
            have HO := Lib.hid ho
            have HSM := Lib.hid (fun (h : M j RJ[k] = RJ[k]) => pm_same (M j) RJ hlt2 h)
            have HPN := Lib.hid (pm_next (M j) RJ hlt2)
            have HPA := Lib.hid (fun L => show stsCs ((pm (M j) RJ k).set k ⟨RJ[k].op, RJ[k].reg, RJ[k].loc, RJ[k].n, L⟩) = (stsCs (pm (M j) RJ k)).set (k * 5 + 4) (.int .i64 L) from by
              have := stsCs_set (pm (M j) RJ k) k (by rw [pm_len]; exact hlt2) L
              rw [pm_at (M j) RJ hlt2] at this; exact this)
            have hjy := Lib.hid (hrj.out RJ[k] (List.getElem_mem hlt2))
            have hmy := Lib.hid (hmj.out RJ[k])
            have HI := Lib.hid hI
            have HFB := Lib.hid bF
            have HTB := Lib.hid bT
            have HEB := Lib.hid bE
            clear ho bF bT bE
            obtain ⟨y, hy⟩ : ∃ y, y = RJ[k] := ⟨_, rfl⟩
            rw [← hy] at hz HSM HPN HPA hjy hmy
            clear hy hI
            obtain ⟨ya, yb, yc, yd, yt⟩ := y
            have z0 : wr.cell? ⟨gj, k * 5, none⟩ = some (.int .i64 ya) := hz 0 (by omega)
            have z1 : wr.cell? ⟨gj, k * 5 + 1, none⟩ = some (.int .i64 yb) := hz 1 (by omega)
            have z2 : wr.cell? ⟨gj, k * 5 + 2, none⟩ = some (.int .i64 yc) := hz 2 (by omega)
            have z3 : wr.cell? ⟨gj, k * 5 + 3, none⟩ = some (.int .i64 yd) := hz 3 (by omega)
            have z4 : wr.cell? ⟨gj, k * 5 + 4, none⟩ = some (.int .i64 yt) := hz 4 (by omega)
            clear hz
            cases hjmp : jmpS ⟨ya, yb, yc, yd, yt⟩
            · have hmm : M j ⟨ya, yb, yc, yd, yt⟩ = ⟨ya, yb, yc, yd, yt⟩ := by rw [hmy.out]; unfold mv; rw [hjmp]; rfl
              have HSN := Lib.hid (HSM.out hmm)
              clear hmm hjy hmy HPN HPA HSM
              go_wp2_with fail
              refine (jump_any ⟨ya, yb, yc, yd, yt⟩ _).mono ?_
              rw [hjmp]
              rintro e wq ⟨rfl, hbq⟩
              have hb' := Lib.hid (chain (below_al (Below.refl wr.heap.size wr) _) hbq)
              clear hbq z0 z1 z2 z3 z4 hjmp
              go_wp2_with fail
              go_roundw
              case rel => exact ⟨k + 1, by omega, by go_num, by rw [HSN.out]; exact HI.out.grow hb'.out (Nat.le_refl _), HFB.out.below hb'.out HFB.out.lt, HTB.out.below hb'.out HTB.out.lt, HEB.out.below hb'.out HEB.out.lt⟩
              case measure => simp [intOf]; omega
            · obtain ⟨tn, htn, htl⟩ := hjy.out hjmp
              replace htn : yt = (tn : Int) := htn
              subst htn
              obtain ⟨L, hL⟩ : ∃ L, L = land (fun q => f (j : Int) (q : Int)) lj tn := ⟨_, rfl⟩
              have hmm : M j ⟨ya, yb, yc, yd, (tn : Int)⟩ = ⟨ya, yb, yc, yd, L⟩ := by rw [hmy.out]; unfold mv; rw [hjmp, hL]; rfl
              have HPN2 := Lib.hid (show stsCs (pm (M j) RJ (k + 1)) = (stsCs (pm (M j) RJ k)).set (k * 5 + 4) (.int .i64 L) from by rw [HPN.out, hmm]; exact HPA.out L)
              have HLL := Lib.hid (show ∀ (W : World), W.cell? ⟨ge, 0, none⟩ = some (.int .i64 (lj : Int)) → W.cell? ⟨gf, 0, none⟩ = some (.map (some bp)) → W.cell? ⟨gt, 0, none⟩ = some (.int .i64 (j : Int)) → MapP W bp (many anyS P.ths) f →
                  Calls Try.prog 65 #[.int .i64 (tn : Int), .pointer (some ⟨ge, 0, none⟩), .pointer (some ⟨gf, 0, none⟩), .pointer (some ⟨gt, 0, none⟩)] W fun e w' => e = .returned (.int .i64 L) ∧ w' = W from fun W h1 h2 h3 h4 => by rw [hL]; exact land_any tn W h1 h2 h3 h4 hlj (by omega) htl)
              clear hmm hjy hmy HPN HPA HSM hL
              go_wp2_with fail
              refine (jump_any ⟨ya, yb, yc, yd, (tn : Int)⟩ _).mono ?_
              rw [hjmp]
              rintro e wq ⟨rfl, hbq⟩
              have bX := (BoxC.new wr 53 #[.int .i64 ya, .int .i64 yb, .int .i64 yc, .int .i64 yd, .int .i64 (tn : Int)])
              have k4 := (bX.below hbq bX.lt).cell 4 _ rfl
              have hb' := Lib.hid (chain (below_al (Below.refl wr.heap.size wr) _) hbq)
              have HIq := Lib.hid (HI.out.grow hb'.out (Nat.le_refl _))
              have HFq := Lib.hid (HFB.out.below hb'.out HFB.out.lt)
              have HTq := Lib.hid (HTB.out.below hb'.out HTB.out.lt)
              have HEq := Lib.hid (HEB.out.below hb'.out HEB.out.lt)
              have HOq := Lib.hid (own_below HO.out hb'.out)
              have zq := kc hb'.out z4
              have fq := HOq.out.frozenAt (k * 5 + 4)
              have HMq := Lib.hid (HMP.out wq HIq.out.below)
              clear hbq z0 z1 z2 z3 z4 hjmp bX
              go_wp2_with fail
              refine (HLL.out _ (HEq.out.cell 0 _ rfl) (HFq.out.cell 0 _ rfl) (HTq.out.cell 0 _ rfl) HMq.out).mono ?_
              rintro e wz ⟨rfl, rfl⟩
              go_wp2_with fail
              go_roundw
              case rel =>
                have hc := HIq.out.cell (m := k * 5 + 4) HU.out (v := .int .i64 L) (ys := pm (M j) RJ (k + 1)) (by rw [rowsG_len]; exact hlt) (by rw [rowsG_at _ _ _ hlt, pm_len, pm_len]) (by rw [rowsG_at _ _ _ hlt]; exact HPN2.out)
                rw [hSE.out] at hc
                have hne : ∀ {g : Nat} {T : TypeId} {cs : Array Value}, BoxC wz g T cs → 53 ≠ T → g ≠ gj := fun hb hT e => by
                  rcases own_box HOq.out hb hT with e2 | e2
                  · cases e2
                  · exact e2 (by rw [e]; rfl)
                exact ⟨k + 1, by omega, by go_num, hc.1, HFq.out.other (hne HFq.out (by decide)) _ _, HTq.out.other (hne HTq.out (by decide)) _ _, HEq.out.other (hne HEq.out (by decide)) _ _⟩
              case measure => simp [intOf]; omega
          · obtain rfl : RJ.length = k := by omega
            rw [pm_end] at hI
            have HIe := Lib.hid hI
            clear hI bF bT bE
            go_wp2
            go_roundw
            case rel => exact ⟨j + 1, by omega, by go_num, by rw [← hNX.out]; exact HIe.out⟩
            case measure => simp [intOf]; omega
      · obtain rfl : P.ths.length = j := by omega
        rw [rowsG_end] at hI
        have hz : Try.prog.cellsOf 25 = 2 := by kernel_rfl
        have hRr := HRW.out.below hI.below HRW.out.lt
        have q0 := hI.box.cell 0 _ rfl
        have q1 := hI.box.cell 1 _ rfl
        have r0 := hRr.cell 0 _ rfl
        have r1 := hRr.cell 1 _ rfl
        have g0 := hRr.frozen 0
        have g1 := hRr.frozen 1
        have HIe := Lib.hid hI
        have HRr := Lib.hid hRr
        clear hI hRr
        go_wp2
        have hZ9 := (HRr.out.set 0 (.slice Au1 P.init.length cu1)).set 1 (.slice (some ⟨gm, 0, none⟩) P.ths.length P.ths.length)
        have e0 := hZ9.cell 0 _ rfl
        have e1 := hZ9.cell 1 _ rfl
        have hgb : w.heap.size + 1 < WW.heap.size := HRW.out.lt
        have k9 : ∀ {s m : Nat} {T : TypeId} {v : Value} {xs : List Value}, wr.ownsRow WW.heap.size T s v m xs → ((wr.setCell ⟨w.heap.size + 1, 0, none⟩ (.slice Au1 P.init.length cu1)).setCell ⟨w.heap.size + 1, 1, none⟩ (.slice (some ⟨gm, 0, none⟩) P.ths.length P.ths.length)).ownsRow WW.heap.size T s v m xs := fun h =>
          ownsRow_setCell_below (ownsRow_setCell_below h (a := ⟨w.heap.size + 1, 0, none⟩) hgb _) (a := ⟨w.heap.size + 1, 1, none⟩) hgb _
        have hB9 := ((hBW.out.trans (HIe.out.below.mono hBW.out.size)).setCell (p := ⟨w.heap.size + 1, 0, none⟩) (show w.heap.size ≤ w.heap.size + 1 by omega) (.slice Au1 P.init.length cu1)).setCell (p := ⟨w.heap.size + 1, 1, none⟩) (show w.heap.size ≤ w.heap.size + 1 by omega) (.slice (some ⟨gm, 0, none⟩) P.ths.length P.ths.length)
        refine bodyPost_ret (v := .agg #[.slice Au1 P.init.length cu1, .slice (some ⟨gm, 0, none⟩) P.ths.length P.ths.length]) (by simp [results, Try.results22, go_sem, e0, e1, hz]) rfl ?_
        rw [HINS.out]
        refine ⟨_, rfl, ⟨_, _, rfl, ints_own (k9 HIe.out.ini) (Nat.le_refl _), ?_⟩, hB9⟩
        have hlen : ((List.range P.ths.length).map fun t => (R t).map (M t)).length = P.ths.length := by simp
        exact sss_of_own (by rw [hlen]; exact k9 HIe.out.more) (Nat.le_refl _) (fun q hq => by
          obtain ⟨u, h1, h2⟩ := HIe.out.rows.own q hq
          exact ⟨u, h1, sts_of_own (k9 h2) (Nat.le_refl _)⟩)
end Go.Proofs.Ytaelfjphgdlbcaa
