/-
  THE SEARCH: what is behind a state; the first one.
-/
import Derived.Test.YtbffjhdocicfoaaK27
import Derived.Test.YtbffjhdocicfoaaTsS
import Derived.Test.YtbffjhdocicfoaaScPs
import Derived.Test.YtbffjhdocicfoaaScPb
namespace Go.Proofs.Ytbffjhdocicfoaa
open Go.RowKit Go.WideMaps
set_option linter.unusedVariables false
set_option linter.unusedSimpArgs false
open CodM (St Pg rightP hReg hLoc)
open BfM (Wr plc)
open NumM (inR)
open ScM EnM ExM ExN ExP EyP

/-- What behind hands back: what the pick makes of the state at that place. -/
def BhRet (n0 i : Nat) (p : Nat × Bool) (s' : Sta) (w : World) (e : Ending) (w' : World) : Prop := ∃ vm vt, e = .returned (rvV ⟨⟨s', i, p⟩, vm, vt⟩) ∧ RvOk n0 w' ⟨⟨s', i, p⟩, vm, vt⟩ ∧ Below w.heap.size w w'
theorem rs_both {P : Pg} {s s' : Sta} {t : Int} {d wk : Bool} (h : rst P s t d wk = some s') : (wk = true → tst P s t d = some s') ∧ (wk = false → d = false ∧ stp P s t = s') := by
  constructor
  · rintro rfl; unfold rst at h; rwa [if_pos rfl] at h
  · rintro rfl; obtain ⟨h1, k, h2, -, -, -, -, h3⟩ := rst_strict h; exact ⟨h1, by rw [h2]; exact h3.symm⟩
set_option maxHeartbeats 8000000 in
set_option maxRecDepth 100000 in
theorem xbehind_any {B n0 g mb i p1 : Nat} {p2 wk : Bool} {pi pt vr : Value} {ys : List RV} {P : Pg} {s' : Sta} (w : World) (h : SrB n0 g mb wk pi pt ys vr w) (hP : PgV B w (.agg #[pi, pt]) P) (hB : B ≤ n0) (hn0 : n0 ≤ w.heap.size) (hi : i < ys.length) (hl : ys.length ≤ 30000) (hp : rightP P = true) (ho : OkSt P ys[i].n.s) (hw : WideS ys[i].n.s) (hr : rst P ys[i].n.s (p1 : Int) p2 wk = some s') :
    Calls Try.prog 38 #[.pointer (some ⟨g, 0, none⟩), .int .i64 (i : Int), .agg #[.int .i64 (p1 : Int), .bool p2]] w (BhRet n0 i (p1, p2) s' w) := by
  obtain ⟨gr, cr, er, r0, r1, -⟩ := h.at hi
  have hok := h.st _ (List.getElem_mem hi)
  obtain ⟨A1, c1, A2, c2, e1, e2⟩ := hok.sl
  have HT := Lib.hid (fun (hk : wk = true) (W : World) (hW : Below w.heap.size w W) => tstep_any (p1 : Int) p2 W ((hP.below (hW.mono (Nat.le_trans hB hn0))).more (Nat.le_trans (Nat.le_trans hB hn0) hW.size)) ((hok.kpi (KpI.of (n := n0) hW)).sv) (Nat.le_refl _) hp ho hw)
  have HS := Lib.hid (fun (hk : wk = false) (W : World) (hW : Below w.heap.size w W) => sstep_any (p1 : Int) W ((hP.below (hW.mono (Nat.le_trans hB hn0))).more (Nat.le_trans (Nat.le_trans hB hn0) hW.size)) ((hok.kpi (KpI.of (n := n0) hW)).sv) (Nat.le_refl _) hp ho hw)
  have HRS := Lib.hid (rs_both hr)
  rw [e1, e2] at HT HS
  have HBX := Lib.hid h.box
  have HN0 := Lib.hid hn0
  have HGL := Lib.hid h.box.lt
  have HRL := Lib.hid (show gr < w.heap.size from by
    have := h.row; rw [er] at this; exact (this.lt gr rfl).2)
  rw [e1] at r0
  rw [e2] at r1
  subst er
  obtain ⟨ln, hln⟩ : ∃ n, n = ys.length := ⟨_, rfl⟩
  rw [← hln] at hi hl HBX
  obtain ⟨sy, hsy⟩ : ∃ s, s = ys[i].n.s := ⟨_, rfl⟩
  have hP2 := hP
  obtain ⟨pi', pt', e3, hpm⟩ := hP
  injection e3 with e3
  obtain ⟨rfl, rfl⟩ : pi = pi' ∧ pt = pt' := by simpa using e3
  obtain ⟨⟨P0, d0, rfl, -⟩, ⟨P1, d1, rfl, -⟩⟩ := hpm
  simp only [← hsy] at r0 r1 HT HS HRS
  clear h hok e1 e2 hp ho hw hr hln hsy hP2 e3
  have g0 := HBX.out.cell 0 (.slice P0 P.init.length d0) rfl
  have g1 := HBX.out.cell 1 (.slice P1 P.ths.length d1) rfl
  have g2 := HBX.out.cell 2 (.bool wk) rfl
  have g3 := HBX.out.cell 3 (.slice (some ⟨gr, 0, none⟩) ln cr) rfl
  obtain ⟨i0, hi0, hz0, hz1, hz2⟩ := info_parts info_rv
  have hcs : Try.prog.cellsOf 78 = 5 := by kernel_rfl
  go_enter Try.func38, Try.ntmps38
  go_upto_region 2 with fail
  obtain ⟨W1, hW1⟩ : ∃ W, W = ((w.alloc (.cells #[.int .i64 (p1 : Int), .bool p2] 76)).alloc (.cells #[.slice none 0 0, .slice none 0 0, .int .i64 0, .int .i64 0, .bool false] 78)).alloc (.cells #[.slice none 0 0, .slice none 0 0, .int .i64 (i : Int), .int .i64 (p1 : Int), .bool p2] 78) := ⟨_, rfl⟩
  obtain ⟨gp, hgp⟩ : ∃ x, x = w.heap.size := ⟨_, rfl⟩
  obtain ⟨gq, hgq⟩ : ∃ x, x = w.heap.size + 1 := ⟨_, rfl⟩
  obtain ⟨gz, hgz⟩ : ∃ x, x = w.heap.size + 2 := ⟨_, rfl⟩
  have HPB := Lib.hid (show BoxC W1 gp 76 #[.int .i64 (p1 : Int), .bool p2] from by rw [hW1, hgp]; exact ((BoxC.new w _ _).alloc _).alloc _)
  have HQB := Lib.hid (show BoxC W1 gq 78 #[.slice none 0 0, .slice none 0 0, .int .i64 0, .int .i64 0, .bool false] from by rw [hW1, hgq]; have := BoxC.new (w.alloc (.cells #[.int .i64 (p1 : Int), .bool p2] 76)) 78 #[.slice none 0 0, .slice none 0 0, .int .i64 0, .int .i64 0, .bool false]; rw [World.size_alloc] at this; exact this.alloc _)
  have HZB := Lib.hid (show BoxC W1 gz 78 #[.slice none 0 0, .slice none 0 0, .int .i64 (i : Int), .int .i64 (p1 : Int), .bool p2] from by rw [hW1, hgz]; have := BoxC.new ((w.alloc (.cells #[.int .i64 (p1 : Int), .bool p2] 76)).alloc (.cells #[.slice none 0 0, .slice none 0 0, .int .i64 0, .int .i64 0, .bool false] 78)) 78 #[.slice none 0 0, .slice none 0 0, .int .i64 (i : Int), .int .i64 (p1 : Int), .bool p2]; rw [World.size_alloc, World.size_alloc] at this; exact this)
  have HB1 := Lib.hid (show Below w.heap.size w W1 from by rw [hW1]; exact below_al (below_al (below_al (Below.refl _ _) _) _) _)
  have HSZ := Lib.hid (show gp < gz ∧ gq < gz ∧ g < gz ∧ gr < gz ∧ w.heap.size ≤ gq ∧ w.heap.size ≤ gz ∧ gz < W1.heap.size from ⟨by omega, by omega, by have := HGL.out; omega, by have := HRL.out; omega, by omega, by omega, HZB.out.lt⟩)
  rw [← hW1]
  (try rw [← hgz])
  (try rw [← hgq])
  (try rw [← hgp])
  clear hW1 hgp hgq hgz
  have q0 := kc HB1.out g0
  have q1 := kc HB1.out g1
  have q2 := kc HB1.out g2
  have q3 := kc HB1.out g3
  have s0 := kc HB1.out r0
  have s1 := kc HB1.out r1
  have k0 := HPB.out.cell 0 (.int .i64 (p1 : Int)) rfl
  have k1 := HPB.out.cell 1 (.bool p2) rfl
  clear g0 g1 g2 g3 r0 r1
  cases wk
  · go_upto_region 4 with fail
    refine wp_region_held_drew (S := (fun w' => (w'.cell? ⟨g, 0, none⟩ = some (.slice P0 P.init.length d0) ∧ w'.cell? ⟨g, 1, none⟩ = some (.slice P1 P.ths.length d1) ∧ w'.cell? ⟨g, 3, none⟩ = some (.slice (some ⟨gr, 0, none⟩) ln cr) ∧ w'.cell? ⟨gr, i * 5, none⟩ = some (.slice A1 sy.mem.length c1) ∧ w'.cell? ⟨gr, i * 5 + 1, none⟩ = some (.slice A2 sy.ths.length c2) ∧ w'.cell? ⟨gp, 0, none⟩ = some (.int .i64 (p1 : Int)) ∧ w'.cell? ⟨gp, 1, none⟩ = some (.bool p2) ∧ True) ∧ Below gz W1 w' ∧ ∃ c0 c1, BoxC w' gz 78 #[c0, c1, .int .i64 (i : Int), .int .i64 (p1 : Int), .bool p2])) (by kernel_rfl) ⟨⟨((show Below gz W1 W1.drew from below_drewN (Below.refl gz W1) 1).cell (p := ⟨g, 0, none⟩) HSZ.out.2.2.1).trans q0, ((show Below gz W1 W1.drew from below_drewN (Below.refl gz W1) 1).cell (p := ⟨g, 1, none⟩) HSZ.out.2.2.1).trans q1, ((show Below gz W1 W1.drew from below_drewN (Below.refl gz W1) 1).cell (p := ⟨g, 3, none⟩) HSZ.out.2.2.1).trans q3, ((show Below gz W1 W1.drew from below_drewN (Below.refl gz W1) 1).cell (p := ⟨gr, i * 5, none⟩) HSZ.out.2.2.2.1).trans s0, ((show Below gz W1 W1.drew from below_drewN (Below.refl gz W1) 1).cell (p := ⟨gr, i * 5 + 1, none⟩) HSZ.out.2.2.2.1).trans s1, ((show Below gz W1 W1.drew from below_drewN (Below.refl gz W1) 1).cell (p := ⟨gp, 0, none⟩) HSZ.out.1).trans k0, ((show Below gz W1 W1.drew from below_drewN (Below.refl gz W1) 1).cell (p := ⟨gp, 1, none⟩) HSZ.out.1).trans k1, trivial⟩, (show Below gz W1 W1.drew from below_drewN (Below.refl gz W1) 1), ⟨_, _, HZB.out⟩⟩ (fun hHeld => ?_)
    refine wpAnyH_take (i := 0) (v := ?_) rfl (by kernel_rfl) (by kernel_rfl) (by kernel_rfl) (fun _ _ _ h => h) (Or.inl ⟨by rfl, ?_⟩) (by assumption) ?_
    rotate_left
    · intro w hSw; (try dsimp only at hSw); go_simp; (try with_reducible rfl)
    (try simp only [Act.put, pt8])
    refine wpAnyH_take (i := 1) (v := ?_) rfl (by kernel_rfl) (by kernel_rfl) (by kernel_rfl) (fun _ _ _ h => h) (Or.inl ⟨by rfl, ?_⟩) (by assumption) ?_
    rotate_left
    · intro w hSw; (try dsimp only at hSw); go_simp; (try with_reducible rfl)
    (try simp only [Act.put, pt8])
    refine wpAnyH_take (i := 2) (v := ?_) rfl (by kernel_rfl) (by kernel_rfl) (by kernel_rfl) (fun _ _ _ h => h) (Or.inl ⟨by rfl, ?_⟩) (by assumption) ?_
    rotate_left
    · intro w hSw; (try dsimp only at hSw); go_simp; (try with_reducible rfl)
    (try simp only [Act.put, pt8])
    refine wpAnyH_take (i := 3) (v := ?_) rfl (by kernel_rfl) (by kernel_rfl) (by kernel_rfl) (fun _ _ _ h => h) (Or.inl ⟨by rfl, ?_⟩) (by assumption) ?_
    rotate_left
    · intro w hSw; (try dsimp only at hSw); go_simp; (try with_reducible rfl)
    (try simp only [Act.put, pt8])
    refine wpAnyH_take (i := 4) (v := ?_) rfl (by kernel_rfl) (by kernel_rfl) (by kernel_rfl) (fun _ _ _ h => h) (Or.inl ⟨by rfl, ?_⟩) (by assumption) ?_
    rotate_left
    · intro w hSw; (try dsimp only at hSw); go_simp; (try with_reducible rfl)
    (try simp only [Act.put, pt8])
    refine wpAnyH_take (i := 5) (v := ?_) rfl (by kernel_rfl) (by kernel_rfl) (by kernel_rfl) (fun _ _ _ h => h) (Or.inl ⟨by rfl, ?_⟩) (by assumption) ?_
    rotate_left
    · intro w hSw; (try dsimp only at hSw); go_simp; (try with_reducible rfl)
    (try simp only [Act.put, pt8])
    refine wpAnyH_take (i := 6) (v := ?_) rfl (by kernel_rfl) (by kernel_rfl) (by kernel_rfl) (fun _ _ _ h => h) (Or.inl ⟨by rfl, ?_⟩) (by assumption) ?_
    rotate_left
    · intro w hSw; (try dsimp only at hSw); go_simp; (try with_reducible rfl)
    (try simp only [Act.put, pt8])
    refine wpAnyH_take (i := 7) (v := ?_) rfl (by kernel_rfl) (by kernel_rfl) (by kernel_rfl) (fun _ _ _ h => h) (Or.inl ⟨by rfl, ?_⟩) (by assumption) ?_
    rotate_left
    · intro w hSw; (try dsimp only at hSw); go_simp; (try with_reducible rfl)
    (try simp only [Act.put, pt8])
    refine wpAnyH_take (i := 8) (v := ?_) rfl (by kernel_rfl) (by kernel_rfl) (by kernel_rfl) (fun _ _ _ h => h) (Or.inl ⟨by rfl, ?_⟩) (by assumption) ?_
    rotate_left
    · intro w hSw; (try dsimp only at hSw); go_simp; (try with_reducible rfl)
    (try simp only [Act.put, pt8])
    refine wpAnyH_take (i := 9) (v := ?_) rfl (by kernel_rfl) (by kernel_rfl) (by kernel_rfl) (fun _ _ _ h => h) (Or.inl ⟨by rfl, ?_⟩) (by assumption) ?_
    rotate_left
    · intro w hSw; (try dsimp only at hSw); go_simp; (try with_reducible rfl)
    (try simp only [Act.put, pt8])
    refine wpAnyH_take (i := 10) (v := ?_) rfl (by kernel_rfl) (by kernel_rfl) (by kernel_rfl) (fun _ _ _ h => h) (Or.inl ⟨by rfl, ?_⟩) (by assumption) ?_
    rotate_left
    · intro w hSw; (try dsimp only at hSw); go_simp; (try with_reducible rfl)
    (try simp only [Act.put, pt8])
    refine wpAnyH_take (i := 11) (v := ?_) rfl (by kernel_rfl) (by kernel_rfl) (by kernel_rfl) (fun _ _ _ h => h) (Or.inl ⟨by rfl, ?_⟩) (by assumption) ?_
    rotate_left
    · intro w hSw; (try dsimp only at hSw); go_simp; (try with_reducible rfl)
    (try simp only [Act.put, pt8])
    refine wpAnyH_take (i := 12) (v := ?_) rfl (by kernel_rfl) (by kernel_rfl) (by kernel_rfl) (fun _ _ _ h => h) (Or.inl ⟨by rfl, ?_⟩) (by assumption) ?_
    rotate_left
    · intro w hSw; (try dsimp only at hSw); go_simp; (try with_reducible rfl)
    (try simp only [Act.put, pt8])
    refine wpAnyH_take (i := 13) (v := ?_) rfl (by kernel_rfl) (by kernel_rfl) (by kernel_rfl) (fun _ _ _ h => h) (Or.inl ⟨by rfl, ?_⟩) (by assumption) ?_
    rotate_left
    · intro w hSw; (try dsimp only at hSw); go_simp; (try with_reducible rfl)
    (try simp only [Act.put, pt8])
    refine wpAnyH_ready (rs := [14]) (by kernel_rfl) (by simp) ?_
    refine AllReadyH.cons rfl (fun K hK => ?_) AllReadyH.nil
    go_simp
    refine (HS.out rfl _ (HB1.out.trans (hHeld.2.1.mono HSZ.out.2.2.2.2.2.1))).mono ?_
    rintro e V ⟨vm, vt, ps, rfl, hos, hb⟩
    have HOS := Lib.hid (show OwnSt n0 V vm vt s' ps from by
      have := (HRS.out.2 rfl).2; rw [this] at hos; exact hos.base (Nat.le_trans HN0.out (Nat.le_trans HB1.out.size (hHeld.2.1.size))))
    have HBV := Lib.hid (show Below gz W1 V from hHeld.2.1.trans (hb.mono (Nat.le_trans (Nat.le_of_lt HSZ.out.2.2.2.2.2.2) hHeld.2.1.size)))
    obtain ⟨z0v, z1v, hzx⟩ := hHeld.2.2
    have HZV := Lib.hid (hzx.below hb hzx.lt)
    clear hzx
    have HQV := Lib.hid (show BoxC V gq 78 #[.slice none 0 0, .slice none 0 0, .int .i64 0, .int .i64 0, .bool false] from HQB.out.below HBV.out HSZ.out.2.1)
    obtain ⟨A3, c3, rfl⟩ := own_slice HOS.out.mem
    obtain ⟨A4, c4, rfl⟩ := own_slice HOS.out.ths
    clear hos hb
    refine hK.out _ _ ⟨⟨(HBV.out.cell (p := ⟨g, 0, none⟩) HSZ.out.2.2.1).trans q0, (HBV.out.cell (p := ⟨g, 1, none⟩) HSZ.out.2.2.1).trans q1, (HBV.out.cell (p := ⟨g, 3, none⟩) HSZ.out.2.2.1).trans q3, (HBV.out.cell (p := ⟨gr, i * 5, none⟩) HSZ.out.2.2.2.1).trans s0, (HBV.out.cell (p := ⟨gr, i * 5 + 1, none⟩) HSZ.out.2.2.2.1).trans s1, (HBV.out.cell (p := ⟨gp, 0, none⟩) HSZ.out.1).trans k0, (HBV.out.cell (p := ⟨gp, 1, none⟩) HSZ.out.1).trans k1, trivial⟩, HBV.out, ⟨_, _, HZV.out⟩⟩ (fun hHeld => ?_)
    clear hK K
    (try simp only [Act.put, pt8])
    refine wpAnyH_take (i := 15) (v := ?_) rfl (by kernel_rfl) (by kernel_rfl) (by kernel_rfl) (fun _ _ _ h => h) (Or.inl ⟨by rfl, ?_⟩) (by assumption) ?_
    rotate_left
    · intro w hSw; (try dsimp only at hSw); go_simp; (try with_reducible rfl)
    (try simp only [Act.put, pt8])
    refine wpAnyH_take (i := 16) (v := ?_) rfl (by kernel_rfl) (by kernel_rfl) (by kernel_rfl) (fun _ _ _ h => h) (Or.inl ⟨by rfl, ?_⟩) (by assumption) ?_
    rotate_left
    · intro w hSw; (try dsimp only at hSw); go_simp; (try with_reducible rfl)
    (try simp only [Act.put, pt8])
    refine wpAnyH_take (i := 17) (v := ?_) rfl (by kernel_rfl) (by kernel_rfl) (by kernel_rfl) (fun _ _ _ h => h) (Or.inl ⟨by rfl, ?_⟩) (by assumption) ?_
    rotate_left
    · intro w hSw; (try dsimp only at hSw); go_simp; (try with_reducible rfl)
    (try simp only [Act.put, pt8])
    refine wpAnyH_take (i := 18) (v := ?_) rfl (by kernel_rfl) (by kernel_rfl) (by kernel_rfl) (fun _ _ _ h => h) (Or.inl ⟨by rfl, ?_⟩) (by assumption) ?_
    rotate_left
    · intro w hSw; (try dsimp only at hSw); go_simp; (try with_reducible rfl)
    (try simp only [Act.put, pt8])
    refine wpAnyH_ready (rs := [19]) (by kernel_rfl) (by simp) ?_
    refine AllReadyH.cons rfl (fun K hK => ?_) AllReadyH.nil
    have z0 := HZV.out.cell 0 _ rfl
    have z1 := HZV.out.cell 1 _ rfl
    have f0 := HZV.out.frozen 0
    have f1 := HZV.out.frozen 1
    go_simp
    have HBW := Lib.hid ((HBV.out.setCell (p := ⟨gz, 0, none⟩) (Nat.le_refl _) (.slice A3 s'.mem.length c3)).setCell (p := ⟨gz, 1, none⟩) (Nat.le_refl _) (.slice A4 s'.ths.length c4))
    refine hK.out _ _ ⟨⟨(HBW.out.cell (p := ⟨g, 0, none⟩) HSZ.out.2.2.1).trans q0, (HBW.out.cell (p := ⟨g, 1, none⟩) HSZ.out.2.2.1).trans q1, (HBW.out.cell (p := ⟨g, 3, none⟩) HSZ.out.2.2.1).trans q3, (HBW.out.cell (p := ⟨gr, i * 5, none⟩) HSZ.out.2.2.2.1).trans s0, (HBW.out.cell (p := ⟨gr, i * 5 + 1, none⟩) HSZ.out.2.2.2.1).trans s1, (HBW.out.cell (p := ⟨gp, 0, none⟩) HSZ.out.1).trans k0, (HBW.out.cell (p := ⟨gp, 1, none⟩) HSZ.out.1).trans k1, trivial⟩, HBW.out, ⟨_, _, (HZV.out.set 0 _).set 1 _⟩⟩ (fun hHeld => ?_)
    clear hK K
    (try simp only [Act.put, pt8])
    refine wpAnyH_done (by kernel_rfl) ?_ _
    clear hHeld z0 z1 f0 f1
    obtain ⟨W8, hW8⟩ : ∃ W, W = (V.setCell ⟨gz, 0, none⟩ (.slice A3 s'.mem.length c3)).setCell ⟨gz, 1, none⟩ (.slice A4 s'.ths.length c4) := ⟨_, rfl⟩
    have HZ8 := Lib.hid (show BoxC W8 gz 78 #[.slice A3 s'.mem.length c3, .slice A4 s'.ths.length c4, .int .i64 (i : Int), .int .i64 (p1 : Int), .bool p2] from by rw [hW8]; exact (HZV.out.set 0 _).set 1 _)
    have HQ8 := Lib.hid (show BoxC W8 gq 78 #[.slice none 0 0, .slice none 0 0, .int .i64 0, .int .i64 0, .bool false] from by rw [hW8]; exact (HQV.out.other (Nat.ne_of_lt HSZ.out.2.1) _ _).other (Nat.ne_of_lt HSZ.out.2.1) _ _)
    have HK8 := Lib.hid (show KpI n0 V W8 from by rw [hW8]; exact (KpI.set HZV.out (Nat.le_trans HN0.out HSZ.out.2.2.2.2.2.1) (by decide) _).trans (KpI.set (HZV.out.set 0 _) (Nat.le_trans HN0.out HSZ.out.2.2.2.2.2.1) (by decide) _))
    have HB8 := Lib.hid (show Below w.heap.size w W8 from by rw [hW8]; exact ((HB1.out.trans (HBV.out.mono HSZ.out.2.2.2.2.2.1)).setCell (p := ⟨gz, 0, none⟩) HSZ.out.2.2.2.2.2.1 _).setCell (p := ⟨gz, 1, none⟩) HSZ.out.2.2.2.2.2.1 _)
    rw [← hW8]
    clear hW8
    have z0 := HZ8.out.cell 0 (.slice A3 s'.mem.length c3) rfl
    have z1 := HZ8.out.cell 1 (.slice A4 s'.ths.length c4) rfl
    have z2 := HZ8.out.cell 2 (.int .i64 (i : Int)) rfl
    have z3 := HZ8.out.cell 3 (.int .i64 (p1 : Int)) rfl
    have z4 := HZ8.out.cell 4 (.bool p2) rfl
    have y0 := HQ8.out.cell 0 (.slice none 0 0) rfl
    have y1 := HQ8.out.cell 1 (.slice none 0 0) rfl
    have y2 := HQ8.out.cell 2 (.int .i64 0) rfl
    have y3 := HQ8.out.cell 3 (.int .i64 0) rfl
    have y4 := HQ8.out.cell 4 (.bool false) rfl
    have f0 := HQ8.out.frozen 0
    have f1 := HQ8.out.frozen 1
    have f2 := HQ8.out.frozen 2
    have f3 := HQ8.out.frozen 3
    have f4 := HQ8.out.frozen 4
    obtain ⟨W9, hW9⟩ : ∃ W, W = ((((W8.setCell ⟨gq, 0, none⟩ (.slice A3 s'.mem.length c3)).setCell ⟨gq, 1, none⟩ (.slice A4 s'.ths.length c4)).setCell ⟨gq, 2, none⟩ (.int .i64 (i : Int))).setCell ⟨gq, 3, none⟩ (.int .i64 (p1 : Int))).setCell ⟨gq, 4, none⟩ (.bool p2) := ⟨_, rfl⟩
    have HQ9 := Lib.hid (show BoxC W9 gq 78 #[.slice A3 s'.mem.length c3, .slice A4 s'.ths.length c4, .int .i64 (i : Int), .int .i64 (p1 : Int), .bool p2] from by rw [hW9]; exact ((((HQ8.out.set 0 _).set 1 _).set 2 _).set 3 _).set 4 _)
    have hng := Nat.le_trans HN0.out HSZ.out.2.2.2.2.1
    have HK9 := Lib.hid (show KpI n0 W8 W9 from by rw [hW9]; exact ((((KpI.set HQ8.out hng (by decide) _).trans (KpI.set (HQ8.out.set 0 _) hng (by decide) _)).trans (KpI.set ((HQ8.out.set 0 _).set 1 _) hng (by decide) _)).trans (KpI.set (((HQ8.out.set 0 _).set 1 _).set 2 _) hng (by decide) _)).trans (KpI.set ((((HQ8.out.set 0 _).set 1 _).set 2 _).set 3 _) hng (by decide) _))
    have hwg := HSZ.out.2.2.2.2.1
    have HB9 := Lib.hid (show Below w.heap.size w W9 from by rw [hW9]; exact ((((HB8.out.setCell (p := ⟨gq, 0, none⟩) hwg _).setCell (p := ⟨gq, 1, none⟩) hwg _).setCell (p := ⟨gq, 2, none⟩) hwg _).setCell (p := ⟨gq, 3, none⟩) hwg _).setCell (p := ⟨gq, 4, none⟩) hwg _)
    have HW9 := Lib.hid hW9
    clear hW9 hng hwg
    go_wp2_with fail
    rw [← HW9.out]
    clear y0 y1 y2 y3 y4 f0 f1 f2 f3 f4 z0 z1 z2 z3 z4
    have y0 := HQ9.out.cell 0 (.slice A3 s'.mem.length c3) rfl
    have y1 := HQ9.out.cell 1 (.slice A4 s'.ths.length c4) rfl
    have y2 := HQ9.out.cell 2 (.int .i64 (i : Int)) rfl
    have y3 := HQ9.out.cell 3 (.int .i64 (p1 : Int)) rfl
    have y4 := HQ9.out.cell 4 (.bool p2) rfl
    refine bodyPost_ret (v := .agg #[.slice A3 s'.mem.length c3, .slice A4 s'.ths.length c4, .int .i64 (i : Int), .int .i64 (p1 : Int), .bool p2]) (by simp [results, Try.results38, go_sem, y0, y1, y2, y3, y4, hcs]) rfl ?_
    exact ⟨_, _, rfl, ⟨ps, (HOS.out.kpi HK8.out).kpi HK9.out⟩, HB9.out⟩
  · go_upto_region 3 with fail
    refine wp_region_held_drew (S := (fun w' => (w'.cell? ⟨g, 0, none⟩ = some (.slice P0 P.init.length d0) ∧ w'.cell? ⟨g, 1, none⟩ = some (.slice P1 P.ths.length d1) ∧ w'.cell? ⟨g, 3, none⟩ = some (.slice (some ⟨gr, 0, none⟩) ln cr) ∧ w'.cell? ⟨gr, i * 5, none⟩ = some (.slice A1 sy.mem.length c1) ∧ w'.cell? ⟨gr, i * 5 + 1, none⟩ = some (.slice A2 sy.ths.length c2) ∧ w'.cell? ⟨gp, 0, none⟩ = some (.int .i64 (p1 : Int)) ∧ w'.cell? ⟨gp, 1, none⟩ = some (.bool p2) ∧ True) ∧ Below gz W1 w' ∧ ∃ c0 c1, BoxC w' gz 78 #[c0, c1, .int .i64 (i : Int), .int .i64 (p1 : Int), .bool p2])) (by kernel_rfl) ⟨⟨((show Below gz W1 W1.drew from below_drewN (Below.refl gz W1) 1).cell (p := ⟨g, 0, none⟩) HSZ.out.2.2.1).trans q0, ((show Below gz W1 W1.drew from below_drewN (Below.refl gz W1) 1).cell (p := ⟨g, 1, none⟩) HSZ.out.2.2.1).trans q1, ((show Below gz W1 W1.drew from below_drewN (Below.refl gz W1) 1).cell (p := ⟨g, 3, none⟩) HSZ.out.2.2.1).trans q3, ((show Below gz W1 W1.drew from below_drewN (Below.refl gz W1) 1).cell (p := ⟨gr, i * 5, none⟩) HSZ.out.2.2.2.1).trans s0, ((show Below gz W1 W1.drew from below_drewN (Below.refl gz W1) 1).cell (p := ⟨gr, i * 5 + 1, none⟩) HSZ.out.2.2.2.1).trans s1, ((show Below gz W1 W1.drew from below_drewN (Below.refl gz W1) 1).cell (p := ⟨gp, 0, none⟩) HSZ.out.1).trans k0, ((show Below gz W1 W1.drew from below_drewN (Below.refl gz W1) 1).cell (p := ⟨gp, 1, none⟩) HSZ.out.1).trans k1, trivial⟩, (show Below gz W1 W1.drew from below_drewN (Below.refl gz W1) 1), ⟨_, _, HZB.out⟩⟩ (fun hHeld => ?_)
    refine wpAnyH_take (i := 0) (v := ?_) rfl (by kernel_rfl) (by kernel_rfl) (by kernel_rfl) (fun _ _ _ h => h) (Or.inl ⟨by rfl, ?_⟩) (by assumption) ?_
    rotate_left
    · intro w hSw; (try dsimp only at hSw); go_simp; (try with_reducible rfl)
    (try simp only [Act.put, pt8])
    refine wpAnyH_take (i := 1) (v := ?_) rfl (by kernel_rfl) (by kernel_rfl) (by kernel_rfl) (fun _ _ _ h => h) (Or.inl ⟨by rfl, ?_⟩) (by assumption) ?_
    rotate_left
    · intro w hSw; (try dsimp only at hSw); go_simp; (try with_reducible rfl)
    (try simp only [Act.put, pt8])
    refine wpAnyH_take (i := 2) (v := ?_) rfl (by kernel_rfl) (by kernel_rfl) (by kernel_rfl) (fun _ _ _ h => h) (Or.inl ⟨by rfl, ?_⟩) (by assumption) ?_
    rotate_left
    · intro w hSw; (try dsimp only at hSw); go_simp; (try with_reducible rfl)
    (try simp only [Act.put, pt8])
    refine wpAnyH_take (i := 3) (v := ?_) rfl (by kernel_rfl) (by kernel_rfl) (by kernel_rfl) (fun _ _ _ h => h) (Or.inl ⟨by rfl, ?_⟩) (by assumption) ?_
    rotate_left
    · intro w hSw; (try dsimp only at hSw); go_simp; (try with_reducible rfl)
    (try simp only [Act.put, pt8])
    refine wpAnyH_take (i := 4) (v := ?_) rfl (by kernel_rfl) (by kernel_rfl) (by kernel_rfl) (fun _ _ _ h => h) (Or.inl ⟨by rfl, ?_⟩) (by assumption) ?_
    rotate_left
    · intro w hSw; (try dsimp only at hSw); go_simp; (try with_reducible rfl)
    (try simp only [Act.put, pt8])
    refine wpAnyH_take (i := 5) (v := ?_) rfl (by kernel_rfl) (by kernel_rfl) (by kernel_rfl) (fun _ _ _ h => h) (Or.inl ⟨by rfl, ?_⟩) (by assumption) ?_
    rotate_left
    · intro w hSw; (try dsimp only at hSw); go_simp; (try with_reducible rfl)
    (try simp only [Act.put, pt8])
    refine wpAnyH_take (i := 6) (v := ?_) rfl (by kernel_rfl) (by kernel_rfl) (by kernel_rfl) (fun _ _ _ h => h) (Or.inl ⟨by rfl, ?_⟩) (by assumption) ?_
    rotate_left
    · intro w hSw; (try dsimp only at hSw); go_simp; (try with_reducible rfl)
    (try simp only [Act.put, pt8])
    refine wpAnyH_take (i := 7) (v := ?_) rfl (by kernel_rfl) (by kernel_rfl) (by kernel_rfl) (fun _ _ _ h => h) (Or.inl ⟨by rfl, ?_⟩) (by assumption) ?_
    rotate_left
    · intro w hSw; (try dsimp only at hSw); go_simp; (try with_reducible rfl)
    (try simp only [Act.put, pt8])
    refine wpAnyH_take (i := 8) (v := ?_) rfl (by kernel_rfl) (by kernel_rfl) (by kernel_rfl) (fun _ _ _ h => h) (Or.inl ⟨by rfl, ?_⟩) (by assumption) ?_
    rotate_left
    · intro w hSw; (try dsimp only at hSw); go_simp; (try with_reducible rfl)
    (try simp only [Act.put, pt8])
    refine wpAnyH_take (i := 9) (v := ?_) rfl (by kernel_rfl) (by kernel_rfl) (by kernel_rfl) (fun _ _ _ h => h) (Or.inl ⟨by rfl, ?_⟩) (by assumption) ?_
    rotate_left
    · intro w hSw; (try dsimp only at hSw); go_simp; (try with_reducible rfl)
    (try simp only [Act.put, pt8])
    refine wpAnyH_take (i := 10) (v := ?_) rfl (by kernel_rfl) (by kernel_rfl) (by kernel_rfl) (fun _ _ _ h => h) (Or.inl ⟨by rfl, ?_⟩) (by assumption) ?_
    rotate_left
    · intro w hSw; (try dsimp only at hSw); go_simp; (try with_reducible rfl)
    (try simp only [Act.put, pt8])
    refine wpAnyH_take (i := 11) (v := ?_) rfl (by kernel_rfl) (by kernel_rfl) (by kernel_rfl) (fun _ _ _ h => h) (Or.inl ⟨by rfl, ?_⟩) (by assumption) ?_
    rotate_left
    · intro w hSw; (try dsimp only at hSw); go_simp; (try with_reducible rfl)
    (try simp only [Act.put, pt8])
    refine wpAnyH_take (i := 12) (v := ?_) rfl (by kernel_rfl) (by kernel_rfl) (by kernel_rfl) (fun _ _ _ h => h) (Or.inl ⟨by rfl, ?_⟩) (by assumption) ?_
    rotate_left
    · intro w hSw; (try dsimp only at hSw); go_simp; (try with_reducible rfl)
    (try simp only [Act.put, pt8])
    refine wpAnyH_ready (rs := [13]) (by kernel_rfl) (by simp) ?_
    refine AllReadyH.cons rfl (fun K hK => ?_) AllReadyH.nil
    go_simp
    refine (HT.out rfl _ (HB1.out.trans (hHeld.2.1.mono HSZ.out.2.2.2.2.2.1))).mono ?_
    rintro e V ⟨vm, vt, ps, rfl, hos, hb⟩
    have HOS := Lib.hid (show OwnSt n0 V vm vt s' ps from by
      have := HRS.out.1 rfl; rw [this] at hos; exact hos.base (Nat.le_trans HN0.out (Nat.le_trans HB1.out.size (hHeld.2.1.size))))
    have HBV := Lib.hid (show Below gz W1 V from hHeld.2.1.trans (hb.mono (Nat.le_trans (Nat.le_of_lt HSZ.out.2.2.2.2.2.2) hHeld.2.1.size)))
    obtain ⟨z0v, z1v, hzx⟩ := hHeld.2.2
    have HZV := Lib.hid (hzx.below hb hzx.lt)
    clear hzx
    have HQV := Lib.hid (show BoxC V gq 78 #[.slice none 0 0, .slice none 0 0, .int .i64 0, .int .i64 0, .bool false] from HQB.out.below HBV.out HSZ.out.2.1)
    obtain ⟨A3, c3, rfl⟩ := own_slice HOS.out.mem
    obtain ⟨A4, c4, rfl⟩ := own_slice HOS.out.ths
    clear hos hb
    refine hK.out _ _ ⟨⟨(HBV.out.cell (p := ⟨g, 0, none⟩) HSZ.out.2.2.1).trans q0, (HBV.out.cell (p := ⟨g, 1, none⟩) HSZ.out.2.2.1).trans q1, (HBV.out.cell (p := ⟨g, 3, none⟩) HSZ.out.2.2.1).trans q3, (HBV.out.cell (p := ⟨gr, i * 5, none⟩) HSZ.out.2.2.2.1).trans s0, (HBV.out.cell (p := ⟨gr, i * 5 + 1, none⟩) HSZ.out.2.2.2.1).trans s1, (HBV.out.cell (p := ⟨gp, 0, none⟩) HSZ.out.1).trans k0, (HBV.out.cell (p := ⟨gp, 1, none⟩) HSZ.out.1).trans k1, trivial⟩, HBV.out, ⟨_, _, HZV.out⟩⟩ (fun hHeld => ?_)
    clear hK K
    (try simp only [Act.put, pt8])
    refine wpAnyH_take (i := 14) (v := ?_) rfl (by kernel_rfl) (by kernel_rfl) (by kernel_rfl) (fun _ _ _ h => h) (Or.inl ⟨by rfl, ?_⟩) (by assumption) ?_
    rotate_left
    · intro w hSw; (try dsimp only at hSw); go_simp; (try with_reducible rfl)
    (try simp only [Act.put, pt8])
    refine wpAnyH_take (i := 15) (v := ?_) rfl (by kernel_rfl) (by kernel_rfl) (by kernel_rfl) (fun _ _ _ h => h) (Or.inl ⟨by rfl, ?_⟩) (by assumption) ?_
    rotate_left
    · intro w hSw; (try dsimp only at hSw); go_simp; (try with_reducible rfl)
    (try simp only [Act.put, pt8])
    refine wpAnyH_take (i := 16) (v := ?_) rfl (by kernel_rfl) (by kernel_rfl) (by kernel_rfl) (fun _ _ _ h => h) (Or.inl ⟨by rfl, ?_⟩) (by assumption) ?_
    rotate_left
    · intro w hSw; (try dsimp only at hSw); go_simp; (try with_reducible rfl)
    (try simp only [Act.put, pt8])
    refine wpAnyH_take (i := 17) (v := ?_) rfl (by kernel_rfl) (by kernel_rfl) (by kernel_rfl) (fun _ _ _ h => h) (Or.inl ⟨by rfl, ?_⟩) (by assumption) ?_
    rotate_left
    · intro w hSw; (try dsimp only at hSw); go_simp; (try with_reducible rfl)
    (try simp only [Act.put, pt8])
    refine wpAnyH_ready (rs := [18]) (by kernel_rfl) (by simp) ?_
    refine AllReadyH.cons rfl (fun K hK => ?_) AllReadyH.nil
    have z0 := HZV.out.cell 0 _ rfl
    have z1 := HZV.out.cell 1 _ rfl
    have f0 := HZV.out.frozen 0
    have f1 := HZV.out.frozen 1
    go_simp
    have HBW := Lib.hid ((HBV.out.setCell (p := ⟨gz, 0, none⟩) (Nat.le_refl _) (.slice A3 s'.mem.length c3)).setCell (p := ⟨gz, 1, none⟩) (Nat.le_refl _) (.slice A4 s'.ths.length c4))
    refine hK.out _ _ ⟨⟨(HBW.out.cell (p := ⟨g, 0, none⟩) HSZ.out.2.2.1).trans q0, (HBW.out.cell (p := ⟨g, 1, none⟩) HSZ.out.2.2.1).trans q1, (HBW.out.cell (p := ⟨g, 3, none⟩) HSZ.out.2.2.1).trans q3, (HBW.out.cell (p := ⟨gr, i * 5, none⟩) HSZ.out.2.2.2.1).trans s0, (HBW.out.cell (p := ⟨gr, i * 5 + 1, none⟩) HSZ.out.2.2.2.1).trans s1, (HBW.out.cell (p := ⟨gp, 0, none⟩) HSZ.out.1).trans k0, (HBW.out.cell (p := ⟨gp, 1, none⟩) HSZ.out.1).trans k1, trivial⟩, HBW.out, ⟨_, _, (HZV.out.set 0 _).set 1 _⟩⟩ (fun hHeld => ?_)
    clear hK K
    (try simp only [Act.put, pt8])
    refine wpAnyH_done (by kernel_rfl) ?_ _
    clear hHeld z0 z1 f0 f1
    obtain ⟨W8, hW8⟩ : ∃ W, W = (V.setCell ⟨gz, 0, none⟩ (.slice A3 s'.mem.length c3)).setCell ⟨gz, 1, none⟩ (.slice A4 s'.ths.length c4) := ⟨_, rfl⟩
    have HZ8 := Lib.hid (show BoxC W8 gz 78 #[.slice A3 s'.mem.length c3, .slice A4 s'.ths.length c4, .int .i64 (i : Int), .int .i64 (p1 : Int), .bool p2] from by rw [hW8]; exact (HZV.out.set 0 _).set 1 _)
    have HQ8 := Lib.hid (show BoxC W8 gq 78 #[.slice none 0 0, .slice none 0 0, .int .i64 0, .int .i64 0, .bool false] from by rw [hW8]; exact (HQV.out.other (Nat.ne_of_lt HSZ.out.2.1) _ _).other (Nat.ne_of_lt HSZ.out.2.1) _ _)
    have HK8 := Lib.hid (show KpI n0 V W8 from by rw [hW8]; exact (KpI.set HZV.out (Nat.le_trans HN0.out HSZ.out.2.2.2.2.2.1) (by decide) _).trans (KpI.set (HZV.out.set 0 _) (Nat.le_trans HN0.out HSZ.out.2.2.2.2.2.1) (by decide) _))
    have HB8 := Lib.hid (show Below w.heap.size w W8 from by rw [hW8]; exact ((HB1.out.trans (HBV.out.mono HSZ.out.2.2.2.2.2.1)).setCell (p := ⟨gz, 0, none⟩) HSZ.out.2.2.2.2.2.1 _).setCell (p := ⟨gz, 1, none⟩) HSZ.out.2.2.2.2.2.1 _)
    rw [← hW8]
    clear hW8
    have z0 := HZ8.out.cell 0 (.slice A3 s'.mem.length c3) rfl
    have z1 := HZ8.out.cell 1 (.slice A4 s'.ths.length c4) rfl
    have z2 := HZ8.out.cell 2 (.int .i64 (i : Int)) rfl
    have z3 := HZ8.out.cell 3 (.int .i64 (p1 : Int)) rfl
    have z4 := HZ8.out.cell 4 (.bool p2) rfl
    have y0 := HQ8.out.cell 0 (.slice none 0 0) rfl
    have y1 := HQ8.out.cell 1 (.slice none 0 0) rfl
    have y2 := HQ8.out.cell 2 (.int .i64 0) rfl
    have y3 := HQ8.out.cell 3 (.int .i64 0) rfl
    have y4 := HQ8.out.cell 4 (.bool false) rfl
    have f0 := HQ8.out.frozen 0
    have f1 := HQ8.out.frozen 1
    have f2 := HQ8.out.frozen 2
    have f3 := HQ8.out.frozen 3
    have f4 := HQ8.out.frozen 4
    obtain ⟨W9, hW9⟩ : ∃ W, W = ((((W8.setCell ⟨gq, 0, none⟩ (.slice A3 s'.mem.length c3)).setCell ⟨gq, 1, none⟩ (.slice A4 s'.ths.length c4)).setCell ⟨gq, 2, none⟩ (.int .i64 (i : Int))).setCell ⟨gq, 3, none⟩ (.int .i64 (p1 : Int))).setCell ⟨gq, 4, none⟩ (.bool p2) := ⟨_, rfl⟩
    have HQ9 := Lib.hid (show BoxC W9 gq 78 #[.slice A3 s'.mem.length c3, .slice A4 s'.ths.length c4, .int .i64 (i : Int), .int .i64 (p1 : Int), .bool p2] from by rw [hW9]; exact ((((HQ8.out.set 0 _).set 1 _).set 2 _).set 3 _).set 4 _)
    have hng := Nat.le_trans HN0.out HSZ.out.2.2.2.2.1
    have HK9 := Lib.hid (show KpI n0 W8 W9 from by rw [hW9]; exact ((((KpI.set HQ8.out hng (by decide) _).trans (KpI.set (HQ8.out.set 0 _) hng (by decide) _)).trans (KpI.set ((HQ8.out.set 0 _).set 1 _) hng (by decide) _)).trans (KpI.set (((HQ8.out.set 0 _).set 1 _).set 2 _) hng (by decide) _)).trans (KpI.set ((((HQ8.out.set 0 _).set 1 _).set 2 _).set 3 _) hng (by decide) _))
    have hwg := HSZ.out.2.2.2.2.1
    have HB9 := Lib.hid (show Below w.heap.size w W9 from by rw [hW9]; exact ((((HB8.out.setCell (p := ⟨gq, 0, none⟩) hwg _).setCell (p := ⟨gq, 1, none⟩) hwg _).setCell (p := ⟨gq, 2, none⟩) hwg _).setCell (p := ⟨gq, 3, none⟩) hwg _).setCell (p := ⟨gq, 4, none⟩) hwg _)
    have HW9 := Lib.hid hW9
    clear hW9 hng hwg
    go_wp2_with fail
    rw [← HW9.out]
    clear y0 y1 y2 y3 y4 f0 f1 f2 f3 f4 z0 z1 z2 z3 z4
    have y0 := HQ9.out.cell 0 (.slice A3 s'.mem.length c3) rfl
    have y1 := HQ9.out.cell 1 (.slice A4 s'.ths.length c4) rfl
    have y2 := HQ9.out.cell 2 (.int .i64 (i : Int)) rfl
    have y3 := HQ9.out.cell 3 (.int .i64 (p1 : Int)) rfl
    have y4 := HQ9.out.cell 4 (.bool p2) rfl
    refine bodyPost_ret (v := .agg #[.slice A3 s'.mem.length c3, .slice A4 s'.ths.length c4, .int .i64 (i : Int), .int .i64 (p1 : Int), .bool p2]) (by simp [results, Try.results38, go_sem, y0, y1, y2, y3, y4, hcs]) rfl ?_
    exact ⟨_, _, rfl, ⟨ps, (HOS.out.kpi HK8.out).kpi HK9.out⟩, HB9.out⟩
end Go.Proofs.Ytbffjhdocicfoaa
