/-
  sc.Begin: the first state.
-/
import Derived.Test.YtbffjhdocicfoaaK15
import Derived.Test.YtbffjhdocicfoaaScAt
import Derived.Deep.RegionHeld3
import Derived.Deep.DeepCutAuto
namespace Go.Proofs.Ytbffjhdocicfoaa
open Go.RowKit
set_option linter.unusedVariables false
set_option linter.unusedSimpArgs false
open CodM (St Pg rightP)
open BfM (Wr plc)
open ScM

/-- A new row in place of a thread's registers. -/
theorem OwnSt.setV {base g n c k : Nat} {w : World} {vm : Value} {s : Sta} {ps : List TV} (h : OwnSt base w vm (.slice (some ⟨g, 0, none⟩) n c) s ps) (hk : k < ps.length) (q : TV) (hx : thC q = (thC ps[k]).set 1 q.vr) (h2 : q.vb = ps[k].vb) (h4 : q.t.buf = ps[k].t.buf)
    (h1 : OwnI base w q.vr q.t.regs) (h3 : Ap vm q.vr) (h5 : ∀ p ∈ ps, Ap p.vr q.vr) :
    OwnSt base (w.setCell ⟨g, k * 4 + 1, none⟩ q.vr) vm (.slice (some ⟨g, 0, none⟩) n c) ⟨s.mem, s.ths.set k q.t⟩ (ps.set k q) := by
  have hg : (Value.slice (some ⟨g, 0, none⟩) n c).ownBlock = some g := rfl
  have hn : n = s.ths.length := by
    obtain ⟨A, c', e'⟩ := own_slice h.ths
    injection e' with _ e' _
  have hT : (w.setCell ⟨g, k * 4 + 1, none⟩ q.vr).ownsRow base 94 4 (.slice (some ⟨g, 0, none⟩) n c) n ((ps.set k q).flatMap thC) := by
    have e := h.ths
    rw [← hn] at e
    have := (e.stored (k * 4 + 1) q.vr).1
    rw [flat_set1 ps k q 1 q.vr hk (by decide) hx] at this
    exact this
  refine ⟨own_keep h.mem (fun e => own_unlike neT h.mem h.ths g e hg) _, by rw [List.length_set, ← hn]; exact hT, by rw [List.map_set, h.eq], fun p hp => ?_, ?_⟩
  · obtain ⟨j, hj, rfl⟩ := List.mem_iff_getElem.1 hp
    have hj' : j < ps.length := by simpa using hj
    rw [List.getElem_set]
    by_cases e : k = j
    · rw [if_pos e]
      obtain ⟨d1, d2, d3⟩ := h.each _ (List.getElem_mem hk)
      rw [h2, h4]
      exact ⟨own_keep h1 (fun e' => own_unlike neT h1 h.ths g e' hg) _, own_keep d2 (fun e' => own_unlike neV d2 h.ths g e' hg) _, h3⟩
    · rw [if_neg e]
      obtain ⟨d1, d2, d3⟩ := h.each _ (List.getElem_mem hj')
      exact ⟨own_keep d1 (fun e' => own_unlike neT d1 h.ths g e' hg) _, own_keep d2 (fun e' => own_unlike neV d2 h.ths g e' hg) _, d3⟩
  · refine List.pairwise_iff_getElem.2 (fun i j hi hj hij => ?_)
    have hi' : i < ps.length := by simpa using hi
    have hj' : j < ps.length := by simpa using hj
    simp only [List.getElem_map, List.getElem_set]
    by_cases ei : k = i
    · rw [if_pos ei, if_neg (by omega)]
      exact ap_symm (h5 _ (List.getElem_mem hj'))
    · rw [if_neg ei]
      by_cases ej : k = j
      · rw [if_pos ej]; exact h5 _ (List.getElem_mem hi')
      · rw [if_neg ej]; exact h.apart hi' hj' (by omega)
def zTh : Th := ⟨0, [], false, []⟩
def zTV : TV := ⟨zTh, .slice none 0 0, .slice none 0 0⟩
/-- The threads when k have their registers. -/
def bT (n k : Nat) : List Th := List.replicate k begTh ++ List.replicate (n - k) zTh
theorem bT_len {n k : Nat} (h : k ≤ n) : (bT n k).length = n := by unfold bT; simp; omega
theorem bT_next {n k : Nat} (h : k < n) : (bT n k).set k begTh = bT n (k + 1) := by
  unfold bT
  rw [List.set_append_right _ _ (by simp), List.length_replicate, Nat.sub_self, show n - k = (n - (k + 1)) + 1 by omega, List.replicate_succ, List.set_cons_zero, List.replicate_succ', List.append_assoc]; rfl
theorem bT_at {n k : Nat} (h : k < n) (h' : k < (bT n k).length) : (bT n k)[k] = zTh := by
  simp only [bT]
  rw [List.getElem_append_right (by simp)]
  simp
theorem made_th (n : Nat) : (madeCells (Value.cells (.agg #[.int .i64 0, .slice none 0 0, .bool false, .slice none 0 0])) (n * 4)).toList = (List.replicate n zTV).flatMap thC := by
  apply List.ext_getElem?
  intro j
  by_cases hj : j < n * 4
  · have h1 : j / 4 < (List.replicate n zTV).length := by rw [List.length_replicate]; omega
    have h2 : j % 4 < 4 := Nat.mod_lt _ (by decide)
    have e := fl_at thC_len (List.replicate n zTV) (j / 4) (j % 4) h1 h2
    rw [show j / 4 * 4 + j % 4 = j by omega] at e
    rw [e, List.getElem_replicate, List.getElem?_eq_getElem (by rw [Array.length_toList, size_madeCells]; exact hj)]
    simp only [madeCells, Array.getElem_toList, Array.getElem_map, Array.getElem_range]
    have e4 : (Value.cells (.agg #[.int .i64 0, .slice none 0 0, .bool false, .slice none 0 0])).size = 4 := by simp [Value.cells]
    rw [e4]
    generalize j % 4 = i at *
    match i, h2 with
    | 0, _ => simp [Value.cells, thC, zTV, zTh]
    | 1, _ => simp [Value.cells, thC, zTV, zTh]
    | 2, _ => simp [Value.cells, thC, zTV, zTh]
    | 3, _ => simp [Value.cells, thC, zTV, zTh]
  · rw [List.getElem?_eq_none (by rw [Array.length_toList, size_madeCells]; omega), List.getElem?_eq_none (by rw [fl_len thC_len, List.length_replicate]; omega)]
def PbQ (base : Nat) (w : World) (go : Value) (P : Pg) (wx : World) : Prop := ∃ (g : Nat) (vm vt : Value) (ps : List TV), go = .pointer (some ⟨g, 0, none⟩) ∧ BoxC wx g 62 #[vm, vt] ∧ OwnSt base wx vm vt ⟨P.init, bT P.ths.length 0⟩ ps ∧ Below base w wx ∧ base ≤ g
theorem beg_own {base n : Nat} {w : World} {vm vt : Value} {m : List Int} (h1 : OwnI base w vm m) (h2 : w.ownsRow base 94 4 vt n ((List.replicate n zTV).flatMap thC)) : OwnSt base w vm vt ⟨m, bT n 0⟩ (List.replicate n zTV) := by
  refine ⟨h1, by rw [bT_len (Nat.zero_le _)]; exact h2, ?_, fun p hp => ?_, ?_⟩
  · simp [bT, zTV]
  · obtain ⟨_, rfl⟩ := List.mem_replicate.1 hp
    exact ⟨World.ownsRow_nil _ _ _ _, World.ownsRow_nil _ _ _ _, fun g _ e => by cases e⟩
  · rw [List.map_replicate]
    exact List.pairwise_replicate.2 (Or.inr (fun g e => by cases e))
set_option maxHeartbeats 8000000 in
set_option maxRecDepth 100000 in
theorem sbegin_any {B : Nat} {v : Value} {P : Pg} (w : World) (hv : PgZ B w v P) (hBB : B ≤ w.heap.size) (hp : rightP P = true) :
    Calls Try.prog 36 #[v] w (StRet (beg P) w) := by
  obtain ⟨pi, pt, rfl, hpm, hpi⟩ := hv
  obtain ⟨hi4, ht1, ht3, -⟩ := right_ths hp
  obtain ⟨-, P1, d1, rfl, l1, l2, -⟩ := hpm
  have HPI := Lib.hid hpi
  obtain ⟨A0, c0, rfl, -⟩ := hpi
  unfold maxLen at l2
  obtain ⟨i1', hi1', hy1, hy2, hy3⟩ := info_parts info_th
  have HCO := Lib.hid (show Try.prog.cellsOf 62 = 2 from by kernel_rfl)
  obtain ⟨W2, hW2⟩ : ∃ W, W = (w.alloc (.cells #[.slice A0 P.init.length c0, .slice P1 P.ths.length d1] 25)).alloc (.cells #[.slice none 0 0, .slice none 0 0] 62) := ⟨_, rfl⟩
  obtain ⟨gp, hgp⟩ : ∃ g, g = w.heap.size := ⟨_, rfl⟩
  obtain ⟨gr, hgr⟩ : ∃ g, g = w.heap.size + 1 := ⟨_, rfl⟩
  have HX := Lib.hid (show BoxC W2 gp 25 #[.slice A0 P.init.length c0, .slice P1 P.ths.length d1] from by rw [hW2, hgp]; exact (BoxC.new w _ _).alloc _)
  have HR := Lib.hid (show BoxC W2 gr 62 #[.slice none 0 0, .slice none 0 0] from by rw [hW2, hgr]; have := BoxC.new (w.alloc (.cells #[.slice A0 P.init.length c0, .slice P1 P.ths.length d1] 25)) 62 #[.slice none 0 0, .slice none 0 0]; rw [World.size_alloc] at this; exact this)
  have HB2 := Lib.hid (show Below w.heap.size w W2 from by rw [hW2]; exact below_al (below_al (Below.refl _ _) _) _)
  have HGR := Lib.hid (show w.heap.size ≤ gr from by omega)
  have HC1 := Lib.hid (fun W (hW : Below W2.heap.size W2 W) => clonei_any W (HPI.out.below ((chain HB2.out hW).mono hBB)) (Nat.le_trans hBB (chain HB2.out hW).size) (by omega))
  have HTH := Lib.hid (show beg P = ⟨P.init, bT P.ths.length P.ths.length⟩ from by unfold beg bT; simp [List.map_const'])
  obtain ⟨mc, hmc⟩ : ∃ c, c = madeCells (Value.cells (.agg #[.int .i64 0, .slice none 0 0, .bool false, .slice none 0 0])) (P.ths.length * 4) := ⟨_, rfl⟩
  have HMC1 := Lib.hid (show mc.size = P.ths.length * 4 from by rw [hmc, size_madeCells])
  have HMC2 := Lib.hid (show mc.toList = (List.replicate P.ths.length zTV).flatMap thC from by rw [hmc]; exact made_th _)
  have hmt : ∀ W : World, (Instr.makeSlice 60 (.int .i64 (P.ths.length : Int)) (.int .i64 (P.ths.length : Int))).run Try.prog W = .ok (.slice (some ⟨W.heap.size, 0, none⟩) P.ths.length P.ths.length) (W.alloc (.cells mc 94)) := fun W => by
    have := run_makeSlice (P := Try.prog) (w := W) 60 94 i1' (.agg #[.int .i64 0, .slice none 0 0, .bool false, .slice none 0 0]) Try.underlying60 hi1' hy1 .i64 .i64 (P.ths.length : Int) (P.ths.length : Int) (by omega) (Int.le_refl _) (by rw [hy2]; simp; omega) (by rw [hy3]; omega) (by omega)
    rw [hy2, Int.toNat_natCast, ← hmc] at this
    exact this
  clear hmc
  have x0 := HX.out.cell 0 _ rfl
  have x1 := HX.out.cell 1 _ rfl
  go_enter Try.func36, Try.ntmps36
  go_upto_region 1 with fail
  rw [← hW2]
  (try rw [← hgr])
  (try rw [← hgp])
  clear hW2 hgr hgp
  go_cut [3] (fun s3 wx => PbQ W2.heap.size W2 s3 P wx)
  case first =>
    refine wp_region_held_drew (S := (fun w' => (w'.cell? ⟨gp, 0, none⟩ = some (.slice A0 P.init.length c0) ∧ w'.cell? ⟨gp, 1, none⟩ = some (.slice P1 P.ths.length d1) ∧ True) ∧ Below W2.heap.size W2 w')) (by kernel_rfl) ⟨⟨x0, x1, trivial⟩, below_drewN (Below.refl _ _) 1⟩ (fun hHeld => ?_)
    obtain ⟨Xs, hXs⟩ : ∃ W, W = W2.drew := ⟨_, rfl⟩
    have HL := Lib.hid (show Below W2.heap.size W2 Xs from by rw [hXs]; exact below_drewN (Below.refl _ _) 1)
    rw [← hXs] at hHeld ⊢
    clear hXs x0 x1
    refine wpAnyH_take (i := 0) (v := ?_) rfl (by kernel_rfl) (by kernel_rfl) (by kernel_rfl) (fun _ _ _ h => h) (Or.inl ⟨by rfl, ?_⟩) (by assumption) ?_
    rotate_left
    · intro w hSw; (try dsimp only at hSw); go_simp; (try with_reducible rfl)
    (try simp only [Act.put, pt8])
    refine wpAnyH_take (i := 1) (v := ?_) rfl (by kernel_rfl) (by kernel_rfl) (by kernel_rfl) (fun _ _ _ h => h) (Or.inl ⟨by rfl, ?_⟩) (by assumption) ?_
    rotate_left
    · intro w hSw; (try dsimp only at hSw); go_simp; (try with_reducible rfl)
    (try simp only [Act.put, pt8])
    refine wpAnyH_take (i := 3) (v := ?_) rfl (by kernel_rfl) (by kernel_rfl) (by kernel_rfl) (fun _ _ _ h => h) (Or.inl ⟨by rfl, ?_⟩) (by assumption) ?_
    rotate_left
    · intro w hSw; (try dsimp only at hSw); go_simp; (try with_reducible rfl)
    (try simp only [Act.put, pt8])
    refine wpAnyH_take (i := 4) (v := ?_) rfl (by kernel_rfl) (by kernel_rfl) (by kernel_rfl) (fun _ _ _ h => h) (Or.inl ⟨by rfl, ?_⟩) (by assumption) ?_
    rotate_left
    · intro w hSw; (try dsimp only at hSw); go_simp; (try with_reducible rfl)
    (try simp only [Act.put, pt8])
    refine wpAnyH_take (i := 5) (v := ?_) rfl (by kernel_rfl) (by kernel_rfl) (by kernel_rfl) (fun _ _ _ h => h) (Or.inl ⟨by rfl, ?_⟩) (by assumption) ?_
    rotate_left
    · intro w hSw; (try dsimp only at hSw); go_simp; (try with_reducible rfl)
    (try simp only [Act.put, pt8])
    refine wpAnyH_ready (rs := [2, 6, 8]) (by kernel_rfl) (by simp) ?_
    refine AllReadyH.cons rfl (fun K hK => ?_) (AllReadyH.cons rfl (fun K hK => ?_) (AllReadyH.cons rfl (fun K hK => ?_) (AllReadyH.nil)))
    · -- 2 first
      go_simp
      refine (HC1.out _ hHeld.2).mono ?_
      rintro e X2 ⟨u1, rfl, hou, hba⟩
      obtain ⟨Am, cm, rfl⟩ := own_slice hou
      have HST := Lib.hid hba
      replace HL := Lib.hid (chain HL.out HST.out)
      have HOI := Lib.hid (show OwnI W2.heap.size X2 (.slice Am P.init.length cm) P.init from own_base hou hHeld.2.size)
      clear hou
      refine hK.out _ _ ⟨⟨kc hba hHeld.1.1, kc hba hHeld.1.2.1, trivial⟩, chain hHeld.2 hba⟩ (fun hHeld => ?_)
      clear hK K
      (try simp only [Act.put, pt8])
      clear hba HST
      refine wpAnyH_ready (rs := [6, 8]) (by kernel_rfl) (by simp) ?_
      refine AllReadyH.cons rfl (fun K hK => ?_) (AllReadyH.cons rfl (fun K hK => ?_) (AllReadyH.nil))
      · -- 6 first
        go_simp
        refine hK.out _ _ ⟨⟨kc (below_al (Below.refl _ _) _) hHeld.1.1, kc (below_al (Below.refl _ _) _) hHeld.1.2.1, trivial⟩, chain hHeld.2 (below_al (Below.refl _ _) _)⟩ (fun hHeld => ?_)
        clear hK K
        (try simp only [Act.put, pt8])
        obtain ⟨gv, hgv⟩ : ∃ g, g = X2.heap.size := ⟨_, rfl⟩
        obtain ⟨X6, hX6⟩ : ∃ W, W = X2.alloc (.cells mc 94) := ⟨_, rfl⟩
        have HST := Lib.hid (show Below X2.heap.size X2 X6 from by rw [hX6]; exact below_al (Below.refl _ _) _)
        have HOT := Lib.hid (show X6.ownsRow W2.heap.size 94 4 (.slice (some ⟨gv, 0, none⟩) P.ths.length P.ths.length) P.ths.length ((List.replicate P.ths.length zTV).flatMap thC) from by rw [hX6, hgv, ← HMC2.out]; exact World.ownsRow_lit (base := W2.heap.size) (e := 94) (size := 4) _ mc P.ths.length HL.out.size (by unfold maxLen; omega) HMC1.out)
        replace HOI := Lib.hid (own_below HOI.out HST.out)
        replace HL := Lib.hid (chain HL.out HST.out)
        rw [← hX6] at hHeld ⊢
        rw [← hgv]
        clear hX6 hgv HST
        refine wpAnyH_take (i := 7) (v := ?_) rfl (by kernel_rfl) (by kernel_rfl) (by kernel_rfl) (fun _ _ _ h => h) (Or.inl ⟨by rfl, ?_⟩) (by assumption) ?_
        rotate_left
        · intro w hSw; (try dsimp only at hSw); go_simp; (try with_reducible rfl)
        (try simp only [Act.put, pt8])
        refine wpAnyH_ready (rs := [8]) (by kernel_rfl) (by simp) ?_
        refine AllReadyH.cons rfl (fun K hK => ?_) AllReadyH.nil
        go_simp
        refine hK.out _ _ ⟨⟨kc (below_al (Below.refl _ _) _) hHeld.1.1, kc (below_al (Below.refl _ _) _) hHeld.1.2.1, trivial⟩, chain hHeld.2 (below_al (Below.refl _ _) _)⟩ (fun hHeld => ?_)
        clear hK K
        (try simp only [Act.put, pt8])
        obtain ⟨go, hgo⟩ : ∃ g, g = X6.heap.size := ⟨_, rfl⟩
        obtain ⟨X8, hX8⟩ : ∃ W, W = X6.alloc (.cells #[.slice none 0 0, .slice none 0 0] 62) := ⟨_, rfl⟩
        have HST := Lib.hid (show Below X6.heap.size X6 X8 from by rw [hX8]; exact below_al (Below.refl _ _) _)
        have HBO := Lib.hid (show BoxC X8 go 62 #[.slice none 0 0, .slice none 0 0] from by rw [hX8, hgo]; exact BoxC.new _ _ _)
        have HGO := Lib.hid (show W2.heap.size ≤ go from by rw [hgo]; exact HL.out.size)
        replace HOI := Lib.hid (own_below HOI.out HST.out)
        replace HOT := Lib.hid (own_below HOT.out HST.out)
        replace HL := Lib.hid (chain HL.out HST.out)
        rw [← hX8] at hHeld ⊢
        rw [← hgo]
        clear hX8 hgo HST
        refine wpAnyH_ready (rs := [9]) (by kernel_rfl) (by simp) ?_
        refine AllReadyH.cons rfl (fun K hK => ?_) AllReadyH.nil
        have o0 := HBO.out.cell 0 _ rfl
        have o1 := HBO.out.cell 1 _ rfl
        have g0 := HBO.out.frozen 0
        have g1 := HBO.out.frozen 1
        have HNE := Lib.hid (show gp ≠ go from by have := HGO.out; have := HX.out.lt; omega)
        go_simp
        refine hK.out _ _ ⟨⟨st_ne HNE.out (st_ne HNE.out hHeld.1.1), st_ne HNE.out (st_ne HNE.out hHeld.1.2.1), trivial⟩, (hHeld.2.setCell (p := ⟨go, 0, none⟩) HGO.out _).setCell (p := ⟨go, 1, none⟩) HGO.out _⟩ (fun hHeld => ?_)
        clear hK K
        (try simp only [Act.put, pt8])
        refine wpAnyH_done (by kernel_rfl) ?_ _
        clear hHeld
        go_wp2_with fail
        go_meet
        exact ⟨go, _, _, _, rfl, (HBO.out.set 0 _).set 1 _, ((beg_own HOI.out HOT.out).box HBO.out (by decide) (by decide) (by decide) 0 _).box (HBO.out.set 0 _) (by decide) (by decide) (by decide) 1 _, (HL.out.setCell (p := ⟨go, 0, none⟩) HGO.out _).setCell (p := ⟨go, 1, none⟩) HGO.out _, HGO.out⟩
      · -- 8 first
        go_simp
        refine hK.out _ _ ⟨⟨kc (below_al (Below.refl _ _) _) hHeld.1.1, kc (below_al (Below.refl _ _) _) hHeld.1.2.1, trivial⟩, chain hHeld.2 (below_al (Below.refl _ _) _)⟩ (fun hHeld => ?_)
        clear hK K
        (try simp only [Act.put, pt8])
        obtain ⟨go, hgo⟩ : ∃ g, g = X2.heap.size := ⟨_, rfl⟩
        obtain ⟨X8, hX8⟩ : ∃ W, W = X2.alloc (.cells #[.slice none 0 0, .slice none 0 0] 62) := ⟨_, rfl⟩
        have HST := Lib.hid (show Below X2.heap.size X2 X8 from by rw [hX8]; exact below_al (Below.refl _ _) _)
        have HBO := Lib.hid (show BoxC X8 go 62 #[.slice none 0 0, .slice none 0 0] from by rw [hX8, hgo]; exact BoxC.new _ _ _)
        have HGO := Lib.hid (show W2.heap.size ≤ go from by rw [hgo]; exact HL.out.size)
        replace HOI := Lib.hid (own_below HOI.out HST.out)
        replace HL := Lib.hid (chain HL.out HST.out)
        rw [← hX8] at hHeld ⊢
        rw [← hgo]
        clear hX8 hgo HST
        refine wpAnyH_ready (rs := [6]) (by kernel_rfl) (by simp) ?_
        refine AllReadyH.cons rfl (fun K hK => ?_) AllReadyH.nil
        go_simp
        refine hK.out _ _ ⟨⟨kc (below_al (Below.refl _ _) _) hHeld.1.1, kc (below_al (Below.refl _ _) _) hHeld.1.2.1, trivial⟩, chain hHeld.2 (below_al (Below.refl _ _) _)⟩ (fun hHeld => ?_)
        clear hK K
        (try simp only [Act.put, pt8])
        obtain ⟨gv, hgv⟩ : ∃ g, g = X8.heap.size := ⟨_, rfl⟩
        obtain ⟨X6, hX6⟩ : ∃ W, W = X8.alloc (.cells mc 94) := ⟨_, rfl⟩
        have HST := Lib.hid (show Below X8.heap.size X8 X6 from by rw [hX6]; exact below_al (Below.refl _ _) _)
        have HOT := Lib.hid (show X6.ownsRow W2.heap.size 94 4 (.slice (some ⟨gv, 0, none⟩) P.ths.length P.ths.length) P.ths.length ((List.replicate P.ths.length zTV).flatMap thC) from by rw [hX6, hgv, ← HMC2.out]; exact World.ownsRow_lit (base := W2.heap.size) (e := 94) (size := 4) _ mc P.ths.length HL.out.size (by unfold maxLen; omega) HMC1.out)
        replace HBO := Lib.hid (HBO.out.below HST.out HBO.out.lt)
        replace HOI := Lib.hid (own_below HOI.out HST.out)
        replace HL := Lib.hid (chain HL.out HST.out)
        rw [← hX6] at hHeld ⊢
        rw [← hgv]
        clear hX6 hgv HST
        refine wpAnyH_take (i := 7) (v := ?_) rfl (by kernel_rfl) (by kernel_rfl) (by kernel_rfl) (fun _ _ _ h => h) (Or.inl ⟨by rfl, ?_⟩) (by assumption) ?_
        rotate_left
        · intro w hSw; (try dsimp only at hSw); go_simp; (try with_reducible rfl)
        (try simp only [Act.put, pt8])
        refine wpAnyH_ready (rs := [9]) (by kernel_rfl) (by simp) ?_
        refine AllReadyH.cons rfl (fun K hK => ?_) AllReadyH.nil
        have o0 := HBO.out.cell 0 _ rfl
        have o1 := HBO.out.cell 1 _ rfl
        have g0 := HBO.out.frozen 0
        have g1 := HBO.out.frozen 1
        have HNE := Lib.hid (show gp ≠ go from by have := HGO.out; have := HX.out.lt; omega)
        go_simp
        refine hK.out _ _ ⟨⟨st_ne HNE.out (st_ne HNE.out hHeld.1.1), st_ne HNE.out (st_ne HNE.out hHeld.1.2.1), trivial⟩, (hHeld.2.setCell (p := ⟨go, 0, none⟩) HGO.out _).setCell (p := ⟨go, 1, none⟩) HGO.out _⟩ (fun hHeld => ?_)
        clear hK K
        (try simp only [Act.put, pt8])
        refine wpAnyH_done (by kernel_rfl) ?_ _
        clear hHeld
        go_wp2_with fail
        go_meet
        exact ⟨go, _, _, _, rfl, (HBO.out.set 0 _).set 1 _, ((beg_own HOI.out HOT.out).box HBO.out (by decide) (by decide) (by decide) 0 _).box (HBO.out.set 0 _) (by decide) (by decide) (by decide) 1 _, (HL.out.setCell (p := ⟨go, 0, none⟩) HGO.out _).setCell (p := ⟨go, 1, none⟩) HGO.out _, HGO.out⟩
    · -- 6 first
      go_simp
      refine hK.out _ _ ⟨⟨kc (below_al (Below.refl _ _) _) hHeld.1.1, kc (below_al (Below.refl _ _) _) hHeld.1.2.1, trivial⟩, chain hHeld.2 (below_al (Below.refl _ _) _)⟩ (fun hHeld => ?_)
      clear hK K
      (try simp only [Act.put, pt8])
      obtain ⟨gv, hgv⟩ : ∃ g, g = Xs.heap.size := ⟨_, rfl⟩
      obtain ⟨X6, hX6⟩ : ∃ W, W = Xs.alloc (.cells mc 94) := ⟨_, rfl⟩
      have HST := Lib.hid (show Below Xs.heap.size Xs X6 from by rw [hX6]; exact below_al (Below.refl _ _) _)
      have HOT := Lib.hid (show X6.ownsRow W2.heap.size 94 4 (.slice (some ⟨gv, 0, none⟩) P.ths.length P.ths.length) P.ths.length ((List.replicate P.ths.length zTV).flatMap thC) from by rw [hX6, hgv, ← HMC2.out]; exact World.ownsRow_lit (base := W2.heap.size) (e := 94) (size := 4) _ mc P.ths.length HL.out.size (by unfold maxLen; omega) HMC1.out)
      replace HL := Lib.hid (chain HL.out HST.out)
      rw [← hX6] at hHeld ⊢
      rw [← hgv]
      clear hX6 hgv HST
      refine wpAnyH_ready (rs := [2, 8]) (by kernel_rfl) (by simp) ?_
      refine AllReadyH.cons rfl (fun K hK => ?_) (AllReadyH.cons rfl (fun K hK => ?_) (AllReadyH.nil))
      · -- 2 first
        go_simp
        refine (HC1.out _ hHeld.2).mono ?_
        rintro e X2 ⟨u1, rfl, hou, hba⟩
        obtain ⟨Am, cm, rfl⟩ := own_slice hou
        have HST := Lib.hid hba
        replace HOT := Lib.hid (own_below HOT.out HST.out)
        replace HL := Lib.hid (chain HL.out HST.out)
        have HOI := Lib.hid (show OwnI W2.heap.size X2 (.slice Am P.init.length cm) P.init from own_base hou hHeld.2.size)
        clear hou
        refine hK.out _ _ ⟨⟨kc hba hHeld.1.1, kc hba hHeld.1.2.1, trivial⟩, chain hHeld.2 hba⟩ (fun hHeld => ?_)
        clear hK K
        (try simp only [Act.put, pt8])
        clear hba HST
        refine wpAnyH_take (i := 7) (v := ?_) rfl (by kernel_rfl) (by kernel_rfl) (by kernel_rfl) (fun _ _ _ h => h) (Or.inl ⟨by rfl, ?_⟩) (by assumption) ?_
        rotate_left
        · intro w hSw; (try dsimp only at hSw); go_simp; (try with_reducible rfl)
        (try simp only [Act.put, pt8])
        refine wpAnyH_ready (rs := [8]) (by kernel_rfl) (by simp) ?_
        refine AllReadyH.cons rfl (fun K hK => ?_) AllReadyH.nil
        go_simp
        refine hK.out _ _ ⟨⟨kc (below_al (Below.refl _ _) _) hHeld.1.1, kc (below_al (Below.refl _ _) _) hHeld.1.2.1, trivial⟩, chain hHeld.2 (below_al (Below.refl _ _) _)⟩ (fun hHeld => ?_)
        clear hK K
        (try simp only [Act.put, pt8])
        obtain ⟨go, hgo⟩ : ∃ g, g = X2.heap.size := ⟨_, rfl⟩
        obtain ⟨X8, hX8⟩ : ∃ W, W = X2.alloc (.cells #[.slice none 0 0, .slice none 0 0] 62) := ⟨_, rfl⟩
        have HST := Lib.hid (show Below X2.heap.size X2 X8 from by rw [hX8]; exact below_al (Below.refl _ _) _)
        have HBO := Lib.hid (show BoxC X8 go 62 #[.slice none 0 0, .slice none 0 0] from by rw [hX8, hgo]; exact BoxC.new _ _ _)
        have HGO := Lib.hid (show W2.heap.size ≤ go from by rw [hgo]; exact HL.out.size)
        replace HOI := Lib.hid (own_below HOI.out HST.out)
        replace HOT := Lib.hid (own_below HOT.out HST.out)
        replace HL := Lib.hid (chain HL.out HST.out)
        rw [← hX8] at hHeld ⊢
        rw [← hgo]
        clear hX8 hgo HST
        refine wpAnyH_ready (rs := [9]) (by kernel_rfl) (by simp) ?_
        refine AllReadyH.cons rfl (fun K hK => ?_) AllReadyH.nil
        have o0 := HBO.out.cell 0 _ rfl
        have o1 := HBO.out.cell 1 _ rfl
        have g0 := HBO.out.frozen 0
        have g1 := HBO.out.frozen 1
        have HNE := Lib.hid (show gp ≠ go from by have := HGO.out; have := HX.out.lt; omega)
        go_simp
        refine hK.out _ _ ⟨⟨st_ne HNE.out (st_ne HNE.out hHeld.1.1), st_ne HNE.out (st_ne HNE.out hHeld.1.2.1), trivial⟩, (hHeld.2.setCell (p := ⟨go, 0, none⟩) HGO.out _).setCell (p := ⟨go, 1, none⟩) HGO.out _⟩ (fun hHeld => ?_)
        clear hK K
        (try simp only [Act.put, pt8])
        refine wpAnyH_done (by kernel_rfl) ?_ _
        clear hHeld
        go_wp2_with fail
        go_meet
        exact ⟨go, _, _, _, rfl, (HBO.out.set 0 _).set 1 _, ((beg_own HOI.out HOT.out).box HBO.out (by decide) (by decide) (by decide) 0 _).box (HBO.out.set 0 _) (by decide) (by decide) (by decide) 1 _, (HL.out.setCell (p := ⟨go, 0, none⟩) HGO.out _).setCell (p := ⟨go, 1, none⟩) HGO.out _, HGO.out⟩
      · -- 8 first
        go_simp
        refine hK.out _ _ ⟨⟨kc (below_al (Below.refl _ _) _) hHeld.1.1, kc (below_al (Below.refl _ _) _) hHeld.1.2.1, trivial⟩, chain hHeld.2 (below_al (Below.refl _ _) _)⟩ (fun hHeld => ?_)
        clear hK K
        (try simp only [Act.put, pt8])
        obtain ⟨go, hgo⟩ : ∃ g, g = X6.heap.size := ⟨_, rfl⟩
        obtain ⟨X8, hX8⟩ : ∃ W, W = X6.alloc (.cells #[.slice none 0 0, .slice none 0 0] 62) := ⟨_, rfl⟩
        have HST := Lib.hid (show Below X6.heap.size X6 X8 from by rw [hX8]; exact below_al (Below.refl _ _) _)
        have HBO := Lib.hid (show BoxC X8 go 62 #[.slice none 0 0, .slice none 0 0] from by rw [hX8, hgo]; exact BoxC.new _ _ _)
        have HGO := Lib.hid (show W2.heap.size ≤ go from by rw [hgo]; exact HL.out.size)
        replace HOT := Lib.hid (own_below HOT.out HST.out)
        replace HL := Lib.hid (chain HL.out HST.out)
        rw [← hX8] at hHeld ⊢
        rw [← hgo]
        clear hX8 hgo HST
        refine wpAnyH_ready (rs := [2]) (by kernel_rfl) (by simp) ?_
        refine AllReadyH.cons rfl (fun K hK => ?_) AllReadyH.nil
        go_simp
        refine (HC1.out _ hHeld.2).mono ?_
        rintro e X2 ⟨u1, rfl, hou, hba⟩
        obtain ⟨Am, cm, rfl⟩ := own_slice hou
        have HST := Lib.hid hba
        replace HBO := Lib.hid (HBO.out.below HST.out HBO.out.lt)
        replace HOT := Lib.hid (own_below HOT.out HST.out)
        replace HL := Lib.hid (chain HL.out HST.out)
        have HOI := Lib.hid (show OwnI W2.heap.size X2 (.slice Am P.init.length cm) P.init from own_base hou hHeld.2.size)
        clear hou
        refine hK.out _ _ ⟨⟨kc hba hHeld.1.1, kc hba hHeld.1.2.1, trivial⟩, chain hHeld.2 hba⟩ (fun hHeld => ?_)
        clear hK K
        (try simp only [Act.put, pt8])
        clear hba HST
        refine wpAnyH_take (i := 7) (v := ?_) rfl (by kernel_rfl) (by kernel_rfl) (by kernel_rfl) (fun _ _ _ h => h) (Or.inl ⟨by rfl, ?_⟩) (by assumption) ?_
        rotate_left
        · intro w hSw; (try dsimp only at hSw); go_simp; (try with_reducible rfl)
        (try simp only [Act.put, pt8])
        refine wpAnyH_ready (rs := [9]) (by kernel_rfl) (by simp) ?_
        refine AllReadyH.cons rfl (fun K hK => ?_) AllReadyH.nil
        have o0 := HBO.out.cell 0 _ rfl
        have o1 := HBO.out.cell 1 _ rfl
        have g0 := HBO.out.frozen 0
        have g1 := HBO.out.frozen 1
        have HNE := Lib.hid (show gp ≠ go from by have := HGO.out; have := HX.out.lt; omega)
        go_simp
        refine hK.out _ _ ⟨⟨st_ne HNE.out (st_ne HNE.out hHeld.1.1), st_ne HNE.out (st_ne HNE.out hHeld.1.2.1), trivial⟩, (hHeld.2.setCell (p := ⟨go, 0, none⟩) HGO.out _).setCell (p := ⟨go, 1, none⟩) HGO.out _⟩ (fun hHeld => ?_)
        clear hK K
        (try simp only [Act.put, pt8])
        refine wpAnyH_done (by kernel_rfl) ?_ _
        clear hHeld
        go_wp2_with fail
        go_meet
        exact ⟨go, _, _, _, rfl, (HBO.out.set 0 _).set 1 _, ((beg_own HOI.out HOT.out).box HBO.out (by decide) (by decide) (by decide) 0 _).box (HBO.out.set 0 _) (by decide) (by decide) (by decide) 1 _, (HL.out.setCell (p := ⟨go, 0, none⟩) HGO.out _).setCell (p := ⟨go, 1, none⟩) HGO.out _, HGO.out⟩
    · -- 8 first
      go_simp
      refine hK.out _ _ ⟨⟨kc (below_al (Below.refl _ _) _) hHeld.1.1, kc (below_al (Below.refl _ _) _) hHeld.1.2.1, trivial⟩, chain hHeld.2 (below_al (Below.refl _ _) _)⟩ (fun hHeld => ?_)
      clear hK K
      (try simp only [Act.put, pt8])
      obtain ⟨go, hgo⟩ : ∃ g, g = Xs.heap.size := ⟨_, rfl⟩
      obtain ⟨X8, hX8⟩ : ∃ W, W = Xs.alloc (.cells #[.slice none 0 0, .slice none 0 0] 62) := ⟨_, rfl⟩
      have HST := Lib.hid (show Below Xs.heap.size Xs X8 from by rw [hX8]; exact below_al (Below.refl _ _) _)
      have HBO := Lib.hid (show BoxC X8 go 62 #[.slice none 0 0, .slice none 0 0] from by rw [hX8, hgo]; exact BoxC.new _ _ _)
      have HGO := Lib.hid (show W2.heap.size ≤ go from by rw [hgo]; exact HL.out.size)
      replace HL := Lib.hid (chain HL.out HST.out)
      rw [← hX8] at hHeld ⊢
      rw [← hgo]
      clear hX8 hgo HST
      refine wpAnyH_ready (rs := [2, 6]) (by kernel_rfl) (by simp) ?_
      refine AllReadyH.cons rfl (fun K hK => ?_) (AllReadyH.cons rfl (fun K hK => ?_) (AllReadyH.nil))
      · -- 2 first
        go_simp
        refine (HC1.out _ hHeld.2).mono ?_
        rintro e X2 ⟨u1, rfl, hou, hba⟩
        obtain ⟨Am, cm, rfl⟩ := own_slice hou
        have HST := Lib.hid hba
        replace HBO := Lib.hid (HBO.out.below HST.out HBO.out.lt)
        replace HL := Lib.hid (chain HL.out HST.out)
        have HOI := Lib.hid (show OwnI W2.heap.size X2 (.slice Am P.init.length cm) P.init from own_base hou hHeld.2.size)
        clear hou
        refine hK.out _ _ ⟨⟨kc hba hHeld.1.1, kc hba hHeld.1.2.1, trivial⟩, chain hHeld.2 hba⟩ (fun hHeld => ?_)
        clear hK K
        (try simp only [Act.put, pt8])
        clear hba HST
        refine wpAnyH_ready (rs := [6]) (by kernel_rfl) (by simp) ?_
        refine AllReadyH.cons rfl (fun K hK => ?_) AllReadyH.nil
        go_simp
        refine hK.out _ _ ⟨⟨kc (below_al (Below.refl _ _) _) hHeld.1.1, kc (below_al (Below.refl _ _) _) hHeld.1.2.1, trivial⟩, chain hHeld.2 (below_al (Below.refl _ _) _)⟩ (fun hHeld => ?_)
        clear hK K
        (try simp only [Act.put, pt8])
        obtain ⟨gv, hgv⟩ : ∃ g, g = X2.heap.size := ⟨_, rfl⟩
        obtain ⟨X6, hX6⟩ : ∃ W, W = X2.alloc (.cells mc 94) := ⟨_, rfl⟩
        have HST := Lib.hid (show Below X2.heap.size X2 X6 from by rw [hX6]; exact below_al (Below.refl _ _) _)
        have HOT := Lib.hid (show X6.ownsRow W2.heap.size 94 4 (.slice (some ⟨gv, 0, none⟩) P.ths.length P.ths.length) P.ths.length ((List.replicate P.ths.length zTV).flatMap thC) from by rw [hX6, hgv, ← HMC2.out]; exact World.ownsRow_lit (base := W2.heap.size) (e := 94) (size := 4) _ mc P.ths.length HL.out.size (by unfold maxLen; omega) HMC1.out)
        replace HBO := Lib.hid (HBO.out.below HST.out HBO.out.lt)
        replace HOI := Lib.hid (own_below HOI.out HST.out)
        replace HL := Lib.hid (chain HL.out HST.out)
        rw [← hX6] at hHeld ⊢
        rw [← hgv]
        clear hX6 hgv HST
        refine wpAnyH_take (i := 7) (v := ?_) rfl (by kernel_rfl) (by kernel_rfl) (by kernel_rfl) (fun _ _ _ h => h) (Or.inl ⟨by rfl, ?_⟩) (by assumption) ?_
        rotate_left
        · intro w hSw; (try dsimp only at hSw); go_simp; (try with_reducible rfl)
        (try simp only [Act.put, pt8])
        refine wpAnyH_ready (rs := [9]) (by kernel_rfl) (by simp) ?_
        refine AllReadyH.cons rfl (fun K hK => ?_) AllReadyH.nil
        have o0 := HBO.out.cell 0 _ rfl
        have o1 := HBO.out.cell 1 _ rfl
        have g0 := HBO.out.frozen 0
        have g1 := HBO.out.frozen 1
        have HNE := Lib.hid (show gp ≠ go from by have := HGO.out; have := HX.out.lt; omega)
        go_simp
        refine hK.out _ _ ⟨⟨st_ne HNE.out (st_ne HNE.out hHeld.1.1), st_ne HNE.out (st_ne HNE.out hHeld.1.2.1), trivial⟩, (hHeld.2.setCell (p := ⟨go, 0, none⟩) HGO.out _).setCell (p := ⟨go, 1, none⟩) HGO.out _⟩ (fun hHeld => ?_)
        clear hK K
        (try simp only [Act.put, pt8])
        refine wpAnyH_done (by kernel_rfl) ?_ _
        clear hHeld
        go_wp2_with fail
        go_meet
        exact ⟨go, _, _, _, rfl, (HBO.out.set 0 _).set 1 _, ((beg_own HOI.out HOT.out).box HBO.out (by decide) (by decide) (by decide) 0 _).box (HBO.out.set 0 _) (by decide) (by decide) (by decide) 1 _, (HL.out.setCell (p := ⟨go, 0, none⟩) HGO.out _).setCell (p := ⟨go, 1, none⟩) HGO.out _, HGO.out⟩
      · -- 6 first
        go_simp
        refine hK.out _ _ ⟨⟨kc (below_al (Below.refl _ _) _) hHeld.1.1, kc (below_al (Below.refl _ _) _) hHeld.1.2.1, trivial⟩, chain hHeld.2 (below_al (Below.refl _ _) _)⟩ (fun hHeld => ?_)
        clear hK K
        (try simp only [Act.put, pt8])
        obtain ⟨gv, hgv⟩ : ∃ g, g = X8.heap.size := ⟨_, rfl⟩
        obtain ⟨X6, hX6⟩ : ∃ W, W = X8.alloc (.cells mc 94) := ⟨_, rfl⟩
        have HST := Lib.hid (show Below X8.heap.size X8 X6 from by rw [hX6]; exact below_al (Below.refl _ _) _)
        have HOT := Lib.hid (show X6.ownsRow W2.heap.size 94 4 (.slice (some ⟨gv, 0, none⟩) P.ths.length P.ths.length) P.ths.length ((List.replicate P.ths.length zTV).flatMap thC) from by rw [hX6, hgv, ← HMC2.out]; exact World.ownsRow_lit (base := W2.heap.size) (e := 94) (size := 4) _ mc P.ths.length HL.out.size (by unfold maxLen; omega) HMC1.out)
        replace HBO := Lib.hid (HBO.out.below HST.out HBO.out.lt)
        replace HL := Lib.hid (chain HL.out HST.out)
        rw [← hX6] at hHeld ⊢
        rw [← hgv]
        clear hX6 hgv HST
        refine wpAnyH_ready (rs := [2]) (by kernel_rfl) (by simp) ?_
        refine AllReadyH.cons rfl (fun K hK => ?_) AllReadyH.nil
        go_simp
        refine (HC1.out _ hHeld.2).mono ?_
        rintro e X2 ⟨u1, rfl, hou, hba⟩
        obtain ⟨Am, cm, rfl⟩ := own_slice hou
        have HST := Lib.hid hba
        replace HBO := Lib.hid (HBO.out.below HST.out HBO.out.lt)
        replace HOT := Lib.hid (own_below HOT.out HST.out)
        replace HL := Lib.hid (chain HL.out HST.out)
        have HOI := Lib.hid (show OwnI W2.heap.size X2 (.slice Am P.init.length cm) P.init from own_base hou hHeld.2.size)
        clear hou
        refine hK.out _ _ ⟨⟨kc hba hHeld.1.1, kc hba hHeld.1.2.1, trivial⟩, chain hHeld.2 hba⟩ (fun hHeld => ?_)
        clear hK K
        (try simp only [Act.put, pt8])
        clear hba HST
        refine wpAnyH_take (i := 7) (v := ?_) rfl (by kernel_rfl) (by kernel_rfl) (by kernel_rfl) (fun _ _ _ h => h) (Or.inl ⟨by rfl, ?_⟩) (by assumption) ?_
        rotate_left
        · intro w hSw; (try dsimp only at hSw); go_simp; (try with_reducible rfl)
        (try simp only [Act.put, pt8])
        refine wpAnyH_ready (rs := [9]) (by kernel_rfl) (by simp) ?_
        refine AllReadyH.cons rfl (fun K hK => ?_) AllReadyH.nil
        have o0 := HBO.out.cell 0 _ rfl
        have o1 := HBO.out.cell 1 _ rfl
        have g0 := HBO.out.frozen 0
        have g1 := HBO.out.frozen 1
        have HNE := Lib.hid (show gp ≠ go from by have := HGO.out; have := HX.out.lt; omega)
        go_simp
        refine hK.out _ _ ⟨⟨st_ne HNE.out (st_ne HNE.out hHeld.1.1), st_ne HNE.out (st_ne HNE.out hHeld.1.2.1), trivial⟩, (hHeld.2.setCell (p := ⟨go, 0, none⟩) HGO.out _).setCell (p := ⟨go, 1, none⟩) HGO.out _⟩ (fun hHeld => ?_)
        clear hK K
        (try simp only [Act.put, pt8])
        refine wpAnyH_done (by kernel_rfl) ?_ _
        clear hHeld
        go_wp2_with fail
        go_meet
        exact ⟨go, _, _, _, rfl, (HBO.out.set 0 _).set 1 _, ((beg_own HOI.out HOT.out).box HBO.out (by decide) (by decide) (by decide) 0 _).box (HBO.out.set 0 _) (by decide) (by decide) (by decide) 1 _, (HL.out.setCell (p := ⟨go, 0, none⟩) HGO.out _).setCell (p := ⟨go, 1, none⟩) HGO.out _, HGO.out⟩
  case rest =>
    obtain ⟨go, vm, vt, ps, rfl, hbo, hop, hBc, hgo⟩ := hcut
    have HBO := Lib.hid hbo
    have HOP := Lib.hid hop
    have HBC := Lib.hid hBc
    have HT0 := Lib.hid (show wc.ownsRow W2.heap.size 94 4 vt P.ths.length (ps.flatMap thC) from by have := hop.ths; rwa [show (⟨P.init, bT P.ths.length 0⟩ : Sta).ths.length = P.ths.length from bT_len (Nat.zero_le _)] at this)
    obtain ⟨Am, cm, rfl⟩ := own_slice hop.mem
    obtain ⟨Av, cv, rfl⟩ := own_slice HT0.out
    clear hbo hop hBc x0 x1 HC1 hmt HT0
    have o1 := HBO.out.cell 1 _ rfl
    have hmk := mk4
    go_wp2
    clear o1
    go_loopw [16] (fun i wr => ∃ (k : Nat) (ps : List TV), k ≤ P.ths.length ∧ i = .int .i64 k ∧ BoxC wr go 62 #[.slice Am P.init.length cm, .slice Av P.ths.length cv] ∧ OwnSt W2.heap.size wr (.slice Am P.init.length cm) (.slice Av P.ths.length cv) ⟨P.init, bT P.ths.length k⟩ ps ∧ Below W2.heap.size W2 wr) (fun i _ => P.ths.length - (intOf i).toNat)
    case atStart => exact ⟨0, ps, Nat.zero_le _, rfl, HBO.out, HOP.out, HBC.out⟩
    case round =>
      clear HOP HBO HBC ps
      obtain ⟨k, ps, hk, rfl, hbx, hop, hB⟩ := hrel
      have HBX := Lib.hid hbx
      have HOS := Lib.hid hop
      have HB := Lib.hid hB
      have HSZ := Lib.hid (show W2.heap.size ≤ wr.heap.size from hB.size)
      have HLN := Lib.hid (show ps.length = P.ths.length from by rw [hop.len]; exact bT_len hk)
      clear hbx hop hB
      by_cases hlt : k < P.ths.length
      · have HKP := Lib.hid (show k < ps.length from by rw [HLN.out]; exact hlt)
        have HPE := Lib.hid (show (ps[k]'(HKP.out)).t = zTh from by rw [HOS.out.at HKP.out (by show k < (bT P.ths.length k).length; rw [bT_len hk]; exact hlt)]; exact bT_at hlt _)
        obtain ⟨gv, cv', cur, hev, hgv, hbv, z0, z1, z2, z3⟩ := HOS.out.row HKP.out
        injection hev with hev1 hev3 hev2
        clear hev3
        subst hev1 hev2
        have HBV := Lib.hid hbv
        have HGV := Lib.hid hgv
        have HGL := Lib.hid hbv.lt
        obtain ⟨vr0, hvr0⟩ : ∃ u, u = (ps[k]'(HKP.out)).vr := ⟨_, rfl⟩
        rw [← hvr0] at z1
        have HZ1 := Lib.hid z1
        clear hvr0
        clear z0 z1 z2 z3 hgv hbv
        have hgov : go ≠ gv := HBX.out.unlike HBV.out (by decide)
        have y1 := HBX.out.cell 1 _ rfl
        go_upto_region 5 with fail
        refine wp_region_held_drew (S := (fun w' => w'.cell? ⟨go, 1, none⟩ = some (.slice (some ⟨gv, 0, none⟩) P.ths.length cv) ∧ True)) (by kernel_rfl) ⟨y1, trivial⟩ (fun hHeld => ?_)
        obtain ⟨Xs, hXs⟩ : ∃ W, W = wr.drew := ⟨_, rfl⟩
        have HLs := Lib.hid (show Below wr.heap.size wr Xs from by rw [hXs]; exact below_drewN (Below.refl _ _) 1)
        rw [← hXs] at hHeld ⊢
        clear hXs
        refine wpAnyH_take (i := 0) (v := ?_) rfl (by kernel_rfl) (by kernel_rfl) (by kernel_rfl) (fun _ _ _ h => h) (Or.inl ⟨by rfl, ?_⟩) (by assumption) ?_
        rotate_left
        · intro w hSw; (try dsimp only at hSw); go_simp; (try with_reducible rfl)
        (try simp only [Act.put, pt8])
        refine wpAnyH_take (i := 1) (v := ?_) rfl (by kernel_rfl) (by kernel_rfl) (by kernel_rfl) (fun _ _ _ h => h) (Or.inl ⟨by rfl, ?_⟩) (by assumption) ?_
        rotate_left
        · intro w hSw; (try dsimp only at hSw); go_simp; (try with_reducible rfl)
        (try simp only [Act.put, pt8])
        refine wpAnyH_take (i := 2) (v := ?_) rfl (by kernel_rfl) (by kernel_rfl) (by kernel_rfl) (fun _ _ _ h => h) (Or.inl ⟨by rfl, ?_⟩) (by assumption) ?_
        rotate_left
        · intro w hSw; (try dsimp only at hSw); go_simp; (try with_reducible rfl)
        (try simp only [Act.put, pt8])
        refine wpAnyH_ready (rs := [3]) (by kernel_rfl) (by simp) ?_
        refine AllReadyH.cons rfl (fun K hK => ?_) AllReadyH.nil
        go_simp
        refine hK.out _ _ ⟨kc (below_al (Below.refl _ _) _) hHeld.1, trivial⟩ (fun hHeld => ?_)
        clear hK K
        (try simp only [Act.put, pt8])
        obtain ⟨gn, hgn⟩ : ∃ g, g = Xs.heap.size := ⟨_, rfl⟩
        obtain ⟨X3, hX3⟩ : ∃ W, W = Xs.alloc (.cells #[.int .i64 0, .int .i64 0, .int .i64 0, .int .i64 0] 3) := ⟨_, rfl⟩
        have HL3 := Lib.hid (show Below wr.heap.size wr X3 from by rw [hX3]; exact below_al HLs.out _)
        have HON := Lib.hid (show OwnI wr.heap.size X3 (.slice (some ⟨gn, 0, none⟩) 4 4) [0, 0, 0, 0] from by rw [hX3, hgn]; exact World.ownsRow_lit (base := wr.heap.size) (e := 3) (size := 1) Xs #[.int .i64 0, .int .i64 0, .int .i64 0, .int .i64 0] 4 HLs.out.size (by decide) rfl)
        rw [← hX3] at hHeld ⊢
        rw [← hgn]
        clear hX3 hgn
        have e1 : X3.cell? ⟨gv, k * 4 + 1, none⟩ = some vr0 := (HL3.out.cell (p := ⟨gv, k * 4 + 1, none⟩) HGL.out).trans HZ1.out
        have g1 := (HBV.out.below HL3.out HGL.out).frozen (k * 4 + 1)
        refine wpAnyH_take (i := 4) (v := ?_) rfl (by kernel_rfl) (by kernel_rfl) (by kernel_rfl) (fun _ _ _ h => h) (Or.inl ⟨by rfl, ?_⟩) (by assumption) ?_
        rotate_left
        · intro w hSw; (try dsimp only at hSw); go_simp; (try with_reducible rfl)
        (try simp only [Act.put, pt8])
        refine wpAnyH_take (i := 5) (v := ?_) rfl (by kernel_rfl) (by kernel_rfl) (by kernel_rfl) (fun _ _ _ h => h) (Or.inl ⟨by rfl, ?_⟩) (by assumption) ?_
        rotate_left
        · intro w hSw; (try dsimp only at hSw); go_simp; (try with_reducible rfl)
        (try simp only [Act.put, pt8])
        refine wpAnyH_ready (rs := [6]) (by kernel_rfl) (by simp) ?_
        refine AllReadyH.cons rfl (fun K hK => ?_) AllReadyH.nil
        go_simp
        refine hK.out _ _ ⟨st_ne hgov hHeld.1, trivial⟩ (fun hHeld => ?_)
        clear hK K
        (try simp only [Act.put, pt8])
        refine wpAnyH_done (by kernel_rfl) ?_ _
        clear hHeld
        go_wp2_with fail
        clear e1 g1 y1
        go_roundw
        case rel =>
          have hos := HOS.out.below HL3.out
          have hn := HOS.out.new_r (u := .slice (some ⟨gn, 0, none⟩) 4 4) (l := [0, 0, 0, 0]) HON.out (Nat.le_refl _)
          have e := hos.setV HKP.out ⟨begTh, .slice (some ⟨gn, 0, none⟩) 4 4, ps[k].vb⟩ (by unfold thC; rw [HPE.out]; rfl) rfl (by rw [HPE.out]; rfl) (own_base HON.out HSZ.out) hn.1 hn.2
          exact ⟨k + 1, _, by omega, by go_num, (HBX.out.below HL3.out HBX.out.lt).other hgov _ _, e.cast (by show (⟨P.init, (bT P.ths.length k).set k begTh⟩ : Sta) = _; rw [bT_next hlt]), (HB.out.trans (HL3.out.mono HSZ.out)).setCell (p := ⟨gv, k * 4 + 1, none⟩) HGV.out _⟩
        case measure => simp [intOf]; omega
      · obtain rfl : P.ths.length = k := by omega
        have y0 := HBX.out.cell 0 _ rfl
        have y1 := HBX.out.cell 1 _ rfl
        have HRR := Lib.hid (HR.out.below HB.out HR.out.lt)
        have r0 := HRR.out.cell 0 _ rfl
        have r1 := HRR.out.cell 1 _ rfl
        have f0 := HRR.out.frozen 0
        have f1 := HRR.out.frozen 1
        obtain ⟨W9, hW9⟩ : ∃ W, W = (wr.setCell ⟨gr, 0, none⟩ (.slice Am P.init.length cm)).setCell ⟨gr, 1, none⟩ (.slice Av P.ths.length cv) := ⟨_, rfl⟩
        have HR9 := Lib.hid (show BoxC W9 gr 62 #[.slice Am P.init.length cm, .slice Av P.ths.length cv] from by rw [hW9]; exact (HRR.out.set 0 _).set 1 _)
        have HO9 := Lib.hid (show OwnSt W2.heap.size W9 (.slice Am P.init.length cm) (.slice Av P.ths.length cv) (beg P) ps from by
          rw [hW9, HTH.out]
          exact (HOS.out.box HRR.out (by decide) (by decide) (by decide) 0 _).box (HRR.out.set 0 _) (by decide) (by decide) (by decide) 1 _)
        have HB9 := Lib.hid (show Below w.heap.size w W9 from by rw [hW9]; exact ((chain HB2.out HB.out).setCell (p := ⟨gr, 0, none⟩) HGR.out _).setCell (p := ⟨gr, 1, none⟩) HGR.out _)
        have HW9 := Lib.hid hW9
        clear hW9
        go_wp2_with fail
        rw [← HW9.out]
        clear y0 y1 r0 r1 f0 f1
        have r0 := HR9.out.cell 0 _ rfl
        have r1 := HR9.out.cell 1 _ rfl
        have hz := HCO.out
        refine bodyPost_ret (v := .agg #[.slice Am P.init.length cm, .slice Av P.ths.length cv]) (by simp [results, Try.results36, go_sem, r0, r1, hz]) rfl ⟨_, _, _, rfl, HO9.out.base HB2.out.size, HB9.out⟩
end Go.Proofs.Ytbffjhdocicfoaa
