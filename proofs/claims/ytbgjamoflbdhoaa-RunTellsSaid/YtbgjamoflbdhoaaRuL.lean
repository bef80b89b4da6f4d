/-
  LAYER 13: THE DOCUMENT's Run.
-/
import Derived.Test.YtbgjamoflbdhoaaK37
import Derived.Deep.RegionHeld3
import Derived.Deep.DeepCutAuto
namespace Go.Proofs.Ytbgjamoflbdhoaa
open Go.RowKit
set_option linter.unusedVariables false
set_option linter.unusedSimpArgs false
open CodM (St Pg rightP)
open BfM (Wr plc)
open ScM

set_option maxHeartbeats 16000000 in
set_option maxRecDepth 100000 in
theorem rrun13_any {B : Nat} {v vl : Value} {P : Pg} {l : List (Int × Bool)} (wk : Bool) (w : World) (hv : PgZ B w v P) (hl : KiR B w vl l) (hBB : B ≤ w.heap.size) (hp : rightP P = true) (hn : l.length ≤ 50000) :
    Calls Try.prog 12 #[v, vl, .bool wk] w (OwnRun P wk l w) := by
  have HP := Lib.hid (fun W (hW : Below w.heap.size w W) => (show PgZ W.heap.size W v P from (hv.below (hW.mono hBB)).more (Nat.le_trans hBB hW.size)))
  have HSP := Lib.hid (fun k => show OkSt P (runS P wk (beg P) (l.take k)).1 ∧ WideS (runS P wk (beg P) (l.take k)).1 from ⟨runS_ok hp _ (beg_ok P), wide_run hp wk (l.take k) (by rw [List.length_take]; omega) (by decide)⟩)
  have HRP := Lib.hid hp
  clear hp hn
  obtain ⟨pi, pt, rfl, hpm, -⟩ := hv
  obtain ⟨⟨P0, d0, rfl, -⟩, ⟨P1, d1, rfl, -⟩⟩ := hpm
  obtain ⟨Al, cl, rfl, hl1, hl2, -, hl3⟩ := hl
  have HL3 := Lib.hid (ki_at (c := cl) hl3)
  unfold maxLen at hl2
  clear hl3
  obtain ⟨W2, hW2⟩ : ∃ W, W = (w.alloc (.cells #[.slice P0 P.init.length d0, .slice P1 P.ths.length d1] 25)).alloc (.cells #[.slice none 0 0, .slice none 0 0] 31) := ⟨_, rfl⟩
  obtain ⟨gp, hgp⟩ : ∃ g, g = w.heap.size := ⟨_, rfl⟩
  obtain ⟨gr, hgr⟩ : ∃ g, g = w.heap.size + 1 := ⟨_, rfl⟩
  have HX := Lib.hid (show BoxC W2 gp 25 #[.slice P0 P.init.length d0, .slice P1 P.ths.length d1] from by rw [hW2, hgp]; exact (BoxC.new w _ _).alloc _)
  have HR := Lib.hid (show BoxC W2 gr 31 #[.slice none 0 0, .slice none 0 0] from by rw [hW2, hgr]; have := BoxC.new (w.alloc (.cells #[.slice P0 P.init.length d0, .slice P1 P.ths.length d1] 25)) 31 #[.slice none 0 0, .slice none 0 0]; rw [World.size_alloc] at this; exact this)
  have HB2 := Lib.hid (show Below w.heap.size w W2 from by rw [hW2]; exact below_al (below_al (Below.refl _ _) _) _)
  have HG := Lib.hid (show w.heap.size ≤ gr from by omega)
  go_enter Try.func12, Try.ntmps12
  go_upto_region 1 with fail
  rw [← hW2]
  (try rw [← hgr])
  (try rw [← hgp])
  clear hW2 hgr hgp
  have x0 := HX.out.cell 0 _ rfl
  have x1 := HX.out.cell 1 _ rfl
  go_wp2_with fail
  refine (rbegin_any _ (HP.out _ HB2.out) (Nat.le_refl _) HRP.out).mono ?_
  rintro e V1 ⟨vm, vt, ps, rfl, hos, hb⟩
  obtain ⟨Am, cm, rfl⟩ := own_slice hos.mem
  obtain ⟨Av, cv, rfl⟩ := own_slice hos.ths
  obtain ⟨m1, hm1⟩ : ∃ n, n = (beg P).mem.length := ⟨_, rfl⟩
  obtain ⟨m2, hm2⟩ : ∃ n, n = (beg P).ths.length := ⟨_, rfl⟩
  rw [← hm1, ← hm2] at hos ⊢
  have HO := Lib.hid hos
  have HBb := Lib.hid hb
  clear hos hb hm1 hm2 x0 x1
  go_upto_region 2 with fail
  obtain ⟨X2, hX2⟩ : ∃ W, W = V1.alloc (.cells #[.slice Am m1 cm, .slice Av m2 cv] 31) := ⟨_, rfl⟩
  obtain ⟨g9, hg9⟩ : ∃ g, g = V1.heap.size := ⟨_, rfl⟩
  have H9 := Lib.hid (show BoxC X2 g9 31 #[.slice Am m1 cm, .slice Av m2 cv] from by rw [hX2, hg9]; exact BoxC.new V1 _ _)
  have HX2 := Lib.hid (show Below V1.heap.size V1 X2 from by rw [hX2]; exact below_al (Below.refl _ _) _)
  have HG9 := Lib.hid (show W2.heap.size ≤ g9 from by rw [hg9]; exact HBb.out.size)
  have HGN := Lib.hid (show gp ≠ g9 ∧ gr ≠ g9 from by have h1 := HX.out.lt; have h2 := HR.out.lt; have h3 := HG9.out; omega)
  rw [← hX2]
  (try rw [← hg9])
  clear hX2 hg9
  have HO2 := Lib.hid (HO.out.below HX2.out)
  have HBc := Lib.hid (chain HBb.out HX2.out)
  go_wp2
  go_loopw [10] (fun i wr => ∃ (k : Nat) (s : Sta) (A4 : Option Addr) (n4 c4 : Nat) (B4 : Option Addr) (m4 k4 : Nat) (ps : List TV), i = .int .i64 k ∧ k ≤ l.length ∧ runS P wk (beg P) (l.take k) = (s, k, true) ∧ BoxC wr g9 31 #[.slice A4 n4 c4, .slice B4 m4 k4] ∧ OwnSt W2.heap.size wr (.slice A4 n4 c4) (.slice B4 m4 k4) s ps ∧ Below W2.heap.size W2 wr) (fun i _ => l.length - (intOf i).toNat)
  case atStart => exact ⟨0, beg P, _, _, _, _, _, _, _, rfl, Nat.zero_le _, by rw [List.take_zero]; rfl, H9.out, HO2.out, HBc.out⟩
  case round =>
    clear H9 HO HO2 HBb HBc HX2
    obtain ⟨k, s, A4, n4, c4, B4, m4, k4, ps, rfl, hk, hrun, h9, ho, hbw⟩ := hrel
    have HRUN := Lib.hid hrun
    have H9 := Lib.hid h9
    have HO := Lib.hid ho
    have HBW := Lib.hid hbw
    have HX3 := Lib.hid (HX.out.below hbw HX.out.lt)
    have HR3 := Lib.hid (HR.out.below hbw HR.out.lt)
    have HB3 := Lib.hid (chain HB2.out hbw)
    clear hrun h9 ho hbw
    by_cases hlt : k < l.length
    · obtain ⟨b1, f1, rfl, hb1, hc1⟩ := HL3.out (by omega)
      obtain ⟨p0, p1⟩ := hc1 k hlt
      replace p0 := ((HB3.out.mono hBB).cell (p := ⟨b1, f1 + k * 2, none⟩) hb1).trans p0
      replace p1 := ((HB3.out.mono hBB).cell (p := ⟨b1, f1 + k * 2 + 1, none⟩) hb1).trans p1
      have HSK := Lib.hid (HSP.out k)
      rw [HRUN.out] at HSK
      have HRN := Lib.hid (fun s' (h : rst P s l[k].1 l[k].2 wk = some s') => runS_next hlt HRUN.out h)
      have HRH := Lib.hid (fun (h : rst P s l[k].1 l[k].2 wk = none) => runS_halt hlt HRUN.out h)
      generalize l[k] = kk at *
      obtain ⟨kt, kd⟩ := kk
      dsimp only at p0 p1 HRN HRH
      have x0 := HX3.out.cell 0 _ rfl
      have x1 := HX3.out.cell 1 _ rfl
      have s0 := H9.out.cell 0 _ rfl
      have s1 := H9.out.cell 1 _ rfl
      obtain ⟨q, hq⟩ : ∃ q, q = (rst P s kt kd wk).isSome := ⟨_, rfl⟩
      have HQ := Lib.hid hq
      have HCL := Lib.hid (fun W (hW : Below wr.heap.size wr W) => rstep13_any kt kd wk W (HP.out W (chain HB3.out hW)).v (HO.out.below hW).sv (Nat.le_refl _) HRP.out HSK.out.1 HSK.out.2)
      have HSZ := Lib.hid HBW.out.size
      clear hq hc1
      go_upto_region 5 with fail
      go_cut [11, 12] (fun vb vi wx => ∃ g A n c D m k, vb = .pointer (some ⟨g, 0, none⟩) ∧ vi = .bool q ∧ BoxC wx g 31 #[.slice A n c, .slice D m k] ∧ (∀ s', rst P s kt kd wk = some s' → ∃ ps, OwnSt wr.heap.size wx (.slice A n c) (.slice D m k) s' ps) ∧ Below wr.heap.size wr wx ∧ wr.heap.size ≤ g)
      case first =>
        refine wp_region_held_drew (S := (fun w' => (w'.cell? ⟨gp, 0, none⟩ = some (.slice P0 P.init.length d0) ∧ w'.cell? ⟨gp, 1, none⟩ = some (.slice P1 P.ths.length d1) ∧ w'.cell? ⟨g9, 0, none⟩ = some (.slice A4 n4 c4) ∧ w'.cell? ⟨g9, 1, none⟩ = some (.slice B4 m4 k4) ∧ w'.cell? ⟨b1, f1 + k * 2, none⟩ = some (.int .i64 kt) ∧ w'.cell? ⟨b1, f1 + k * 2 + 1, none⟩ = some (.bool kd) ∧ True) ∧ Below wr.heap.size wr w')) (by kernel_rfl) ⟨⟨x0, x1, s0, s1, p0, p1, trivial⟩, below_drewN (Below.refl _ _) 1⟩ (fun hHeld => ?_)
        obtain ⟨Xs, hXs⟩ : ∃ W, W = wr.drew := ⟨_, rfl⟩
        have HXs := Lib.hid (show Below wr.heap.size wr Xs from by rw [hXs]; exact below_drewN (Below.refl _ _) 1)
        rw [← hXs] at hHeld ⊢
        clear hXs
        refine wpAnyH_take (i := 0) (v := ?_) rfl (by kernel_rfl) (by kernel_rfl) (by kernel_rfl) (fun _ _ _ h => h) (Or.inl ⟨by rfl, ?_⟩) (by assumption) ?_
        rotate_left
        · intro w hSw; (try dsimp only at hSw); go_simp; (try with_reducible rfl)
        (try simp only [Act.put, pt8])
        refine wpAnyH_take (i := 1) (v := ?_) rfl (by kernel_rfl) (by kernel_rfl) (by kernel_rfl) (fun _ _ _ h => h) (Or.inl ⟨by rfl, ?_⟩) (by assumption) ?_
        rotate_left
        · intro w hSw; (try dsimp only at hSw); go_simp; (try with_reducible rfl)
        (try simp only [Act.put, pt8])
        refine wpAnyH_take (i := 2) (v := ?_) rfl (by kernel_rfl) (by kernel_rfl) (by kernel_rfl) (fun _ _ _ h => h) (Or.inl ⟨by rfl, ?_⟩) (by assumption) ?_
        rotate_left
        · intro w hSw; (try dsimp only at hSw); go_simp; (try with_reducible rfl)
        (try simp only [Act.put, pt8])
        refine wpAnyH_take (i := 3) (v := ?_) rfl (by kernel_rfl) (by kernel_rfl) (by kernel_rfl) (fun _ _ _ h => h) (Or.inl ⟨by rfl, ?_⟩) (by assumption) ?_
        rotate_left
        · intro w hSw; (try dsimp only at hSw); go_simp; (try with_reducible rfl)
        (try simp only [Act.put, pt8])
        refine wpAnyH_take (i := 4) (v := ?_) rfl (by kernel_rfl) (by kernel_rfl) (by kernel_rfl) (fun _ _ _ h => h) (Or.inl ⟨by rfl, ?_⟩) (by assumption) ?_
        rotate_left
        · intro w hSw; (try dsimp only at hSw); go_simp; (try with_reducible rfl)
        (try simp only [Act.put, pt8])
        refine wpAnyH_take (i := 5) (v := ?_) rfl (by kernel_rfl) (by kernel_rfl) (by kernel_rfl) (fun _ _ _ h => h) (Or.inl ⟨by rfl, ?_⟩) (by assumption) ?_
        rotate_left
        · intro w hSw; (try dsimp only at hSw); go_simp; (try with_reducible rfl)
        (try simp only [Act.put, pt8])
        refine wpAnyH_take (i := 6) (v := ?_) rfl (by kernel_rfl) (by kernel_rfl) (by kernel_rfl) (fun _ _ _ h => h) (Or.inl ⟨by rfl, ?_⟩) (by assumption) ?_
        rotate_left
        · intro w hSw; (try dsimp only at hSw); go_simp; (try with_reducible rfl)
        (try simp only [Act.put, pt8])
        refine wpAnyH_ready (rs := [7, 11]) (by kernel_rfl) (by simp) ?_
        refine AllReadyH.cons rfl (fun K hK => ?_) (AllReadyH.cons rfl (fun K hK => ?_) (AllReadyH.nil))
        · -- 7 first
          go_simp
          refine (HCL.out _ hHeld.2).mono ?_
          rintro e Xc ⟨Ad, nd, cd, Dd, md, qd, rfl, hos, hb⟩
          rw [← HQ.out]
          have HOD := Lib.hid (fun s' (h : rst P s kt kd wk = some s') => show ∃ ps, OwnSt wr.heap.size Xc (.slice Ad nd cd) (.slice Dd md qd) s' ps from (hos s' h).imp fun ps h => h.base hHeld.2.size)
          have HBC := Lib.hid (chain hHeld.2 hb)
          refine hK.out _ _ ⟨⟨kc HBC.out x0, kc HBC.out x1, kc HBC.out s0, kc HBC.out s1, kc HBC.out p0, kc HBC.out p1, trivial⟩, HBC.out⟩ (fun hHeld => ?_)
          clear hK K
          (try simp only [Act.put, pt8])
          clear hb hos
          refine wpAnyH_take (i := 8) (v := ?_) rfl (by kernel_rfl) (by kernel_rfl) (by kernel_rfl) (fun _ _ _ h => h) (Or.inl ⟨by rfl, ?_⟩) (by assumption) ?_
          rotate_left
          · intro w hSw; (try dsimp only at hSw); go_simp; (try with_reducible rfl)
          (try simp only [Act.put, pt8])
          refine wpAnyH_take (i := 9) (v := ?_) rfl (by kernel_rfl) (by kernel_rfl) (by kernel_rfl) (fun _ _ _ h => h) (Or.inl ⟨by rfl, ?_⟩) (by assumption) ?_
          rotate_left
          · intro w hSw; (try dsimp only at hSw); go_simp; (try with_reducible rfl)
          (try simp only [Act.put, pt8])
          refine wpAnyH_take (i := 10) (v := ?_) rfl (by kernel_rfl) (by kernel_rfl) (by kernel_rfl) (fun _ _ _ h => h) (Or.inl ⟨by rfl, ?_⟩) (by assumption) ?_
          rotate_left
          · intro w hSw; (try dsimp only at hSw); go_simp; (try with_reducible rfl)
          (try simp only [Act.put, pt8])
          refine wpAnyH_ready (rs := [11]) (by kernel_rfl) (by simp) ?_
          refine AllReadyH.cons rfl (fun K hK => ?_) AllReadyH.nil
          have HBA := Lib.hid (below_al hHeld.2 (.cells #[.slice none 0 0, .slice none 0 0] 31))
          go_simp
          refine hK.out _ _ ⟨⟨kc HBA.out x0, kc HBA.out x1, kc HBA.out s0, kc HBA.out s1, kc HBA.out p0, kc HBA.out p1, trivial⟩, HBA.out⟩ (fun hHeld => ?_)
          clear hK K
          (try simp only [Act.put, pt8])
          have HBa := Lib.hid (below_al (Below.refl Xc.heap.size Xc) (.cells #[.slice none 0 0, .slice none 0 0] 31))
          obtain ⟨Xa, hXa⟩ : ∃ W, W = Xc.alloc (.cells #[.slice none 0 0, .slice none 0 0] 31) := ⟨_, rfl⟩
          obtain ⟨ga, hga⟩ : ∃ g, g = Xc.heap.size := ⟨_, rfl⟩
          have HGa := Lib.hid (show wr.heap.size ≤ ga from by rw [hga]; exact HBC.out.size)
          have HQa := Lib.hid (show BoxC Xa ga 31 #[.slice none 0 0, .slice none 0 0] from by rw [hXa, hga]; exact BoxC.new Xc _ _)
          rw [← hXa] at hHeld HBA HBa ⊢
          (try rw [← hga])
          replace HOD := Lib.hid (fun s' h => show ∃ ps, OwnSt wr.heap.size Xa (.slice Ad nd cd) (.slice Dd md qd) s' ps from (HOD.out s' h).imp fun ps h => h.below HBa.out)
          clear hXa hga HBa
          refine wpAnyH_ready (rs := [12]) (by kernel_rfl) (by simp) ?_
          refine AllReadyH.cons rfl (fun K hK => ?_) AllReadyH.nil
          have q0 := HQa.out.cell 0 _ rfl
          have q1 := HQa.out.cell 1 _ rfl
          have u0 := HQa.out.frozen 0
          have u1 := HQa.out.frozen 1
          have HBS2 := Lib.hid (show Below wr.heap.size wr ((Xa.setCell ⟨ga, 0, none⟩ (.slice Ad nd cd)).setCell ⟨ga, 1, none⟩ (.slice Dd md qd)) from (hHeld.2.setCell (p := ⟨ga, 0, none⟩) HGa.out _).setCell (p := ⟨ga, 1, none⟩) HGa.out _)
          have HQS := Lib.hid (show BoxC ((Xa.setCell ⟨ga, 0, none⟩ (.slice Ad nd cd)).setCell ⟨ga, 1, none⟩ (.slice Dd md qd)) ga 31 #[(.slice Ad nd cd), (.slice Dd md qd)] from (HQa.out.set 0 _).set 1 _)
          have HOS := Lib.hid (fun s' h => show ∃ ps, OwnSt wr.heap.size ((Xa.setCell ⟨ga, 0, none⟩ (.slice Ad nd cd)).setCell ⟨ga, 1, none⟩ (.slice Dd md qd)) (.slice Ad nd cd) (.slice Dd md qd) s' ps from (HOD.out s' h).imp fun ps h => (h.box HQa.out (by decide) (by decide) (by decide) 0 _).box (HQa.out.set 0 _) (by decide) (by decide) (by decide) 1 _)
          go_simp
          refine hK.out _ _ ⟨⟨kc HBS2.out x0, kc HBS2.out x1, kc HBS2.out s0, kc HBS2.out s1, kc HBS2.out p0, kc HBS2.out p1, trivial⟩, HBS2.out⟩ (fun hHeld => ?_)
          clear q0 q1 u0 u1
          clear hK K
          (try simp only [Act.put, pt8])
          refine wpAnyH_ready (rs := [13]) (by kernel_rfl) (by simp) ?_
          refine AllReadyH.cons rfl (fun K hK => ?_) AllReadyH.nil
          go_simp
          refine hK.out _ _ hHeld (fun hHeld => ?_)
          clear hK K
          (try simp only [Act.put, pt8])
          refine wpAnyH_done (by kernel_rfl) ?_ _
          clear hHeld
          go_wp2_with fail
          go_meet
          exact ⟨ga, Ad, nd, cd, Dd, md, qd, rfl, rfl, HQS.out, HOS.out, HBS2.out, HGa.out⟩
        · -- 11 first
          have HBA := Lib.hid (below_al hHeld.2 (.cells #[.slice none 0 0, .slice none 0 0] 31))
          go_simp
          refine hK.out _ _ ⟨⟨kc HBA.out x0, kc HBA.out x1, kc HBA.out s0, kc HBA.out s1, kc HBA.out p0, kc HBA.out p1, trivial⟩, HBA.out⟩ (fun hHeld => ?_)
          clear hK K
          (try simp only [Act.put, pt8])
          have HBa := Lib.hid (below_al (Below.refl Xs.heap.size Xs) (.cells #[.slice none 0 0, .slice none 0 0] 31))
          obtain ⟨Xa, hXa⟩ : ∃ W, W = Xs.alloc (.cells #[.slice none 0 0, .slice none 0 0] 31) := ⟨_, rfl⟩
          obtain ⟨ga, hga⟩ : ∃ g, g = Xs.heap.size := ⟨_, rfl⟩
          have HGa := Lib.hid (show wr.heap.size ≤ ga from by rw [hga]; exact HXs.out.size)
          have HQa := Lib.hid (show BoxC Xa ga 31 #[.slice none 0 0, .slice none 0 0] from by rw [hXa, hga]; exact BoxC.new Xs _ _)
          rw [← hXa] at hHeld HBA HBa ⊢
          (try rw [← hga])
          clear hXa hga HBa
          refine wpAnyH_ready (rs := [7]) (by kernel_rfl) (by simp) ?_
          refine AllReadyH.cons rfl (fun K hK => ?_) AllReadyH.nil
          go_simp
          refine (HCL.out _ hHeld.2).mono ?_
          rintro e Xc ⟨Ad, nd, cd, Dd, md, qd, rfl, hos, hb⟩
          rw [← HQ.out]
          have HOD := Lib.hid (fun s' (h : rst P s kt kd wk = some s') => show ∃ ps, OwnSt wr.heap.size Xc (.slice Ad nd cd) (.slice Dd md qd) s' ps from (hos s' h).imp fun ps h => h.base hHeld.2.size)
          have HBC := Lib.hid (chain hHeld.2 hb)
          replace HQa := Lib.hid (HQa.out.below hb HQa.out.lt)
          refine hK.out _ _ ⟨⟨kc HBC.out x0, kc HBC.out x1, kc HBC.out s0, kc HBC.out s1, kc HBC.out p0, kc HBC.out p1, trivial⟩, HBC.out⟩ (fun hHeld => ?_)
          clear hK K
          (try simp only [Act.put, pt8])
          clear hb hos
          refine wpAnyH_take (i := 8) (v := ?_) rfl (by kernel_rfl) (by kernel_rfl) (by kernel_rfl) (fun _ _ _ h => h) (Or.inl ⟨by rfl, ?_⟩) (by assumption) ?_
          rotate_left
          · intro w hSw; (try dsimp only at hSw); go_simp; (try with_reducible rfl)
          (try simp only [Act.put, pt8])
          refine wpAnyH_take (i := 9) (v := ?_) rfl (by kernel_rfl) (by kernel_rfl) (by kernel_rfl) (fun _ _ _ h => h) (Or.inl ⟨by rfl, ?_⟩) (by assumption) ?_
          rotate_left
          · intro w hSw; (try dsimp only at hSw); go_simp; (try with_reducible rfl)
          (try simp only [Act.put, pt8])
          refine wpAnyH_take (i := 10) (v := ?_) rfl (by kernel_rfl) (by kernel_rfl) (by kernel_rfl) (fun _ _ _ h => h) (Or.inl ⟨by rfl, ?_⟩) (by assumption) ?_
          rotate_left
          · intro w hSw; (try dsimp only at hSw); go_simp; (try with_reducible rfl)
          (try simp only [Act.put, pt8])
          refine wpAnyH_ready (rs := [12]) (by kernel_rfl) (by simp) ?_
          refine AllReadyH.cons rfl (fun K hK => ?_) AllReadyH.nil
          have q0 := HQa.out.cell 0 _ rfl
          have q1 := HQa.out.cell 1 _ rfl
          have u0 := HQa.out.frozen 0
          have u1 := HQa.out.frozen 1
          have HBS2 := Lib.hid (show Below wr.heap.size wr ((Xc.setCell ⟨ga, 0, none⟩ (.slice Ad nd cd)).setCell ⟨ga, 1, none⟩ (.slice Dd md qd)) from (hHeld.2.setCell (p := ⟨ga, 0, none⟩) HGa.out _).setCell (p := ⟨ga, 1, none⟩) HGa.out _)
          have HQS := Lib.hid (show BoxC ((Xc.setCell ⟨ga, 0, none⟩ (.slice Ad nd cd)).setCell ⟨ga, 1, none⟩ (.slice Dd md qd)) ga 31 #[(.slice Ad nd cd), (.slice Dd md qd)] from (HQa.out.set 0 _).set 1 _)
          have HOS := Lib.hid (fun s' h => show ∃ ps, OwnSt wr.heap.size ((Xc.setCell ⟨ga, 0, none⟩ (.slice Ad nd cd)).setCell ⟨ga, 1, none⟩ (.slice Dd md qd)) (.slice Ad nd cd) (.slice Dd md qd) s' ps from (HOD.out s' h).imp fun ps h => (h.box HQa.out (by decide) (by decide) (by decide) 0 _).box (HQa.out.set 0 _) (by decide) (by decide) (by decide) 1 _)
          go_simp
          refine hK.out _ _ ⟨⟨kc HBS2.out x0, kc HBS2.out x1, kc HBS2.out s0, kc HBS2.out s1, kc HBS2.out p0, kc HBS2.out p1, trivial⟩, HBS2.out⟩ (fun hHeld => ?_)
          clear q0 q1 u0 u1
          clear hK K
          (try simp only [Act.put, pt8])
          refine wpAnyH_ready (rs := [13]) (by kernel_rfl) (by simp) ?_
          refine AllReadyH.cons rfl (fun K hK => ?_) AllReadyH.nil
          go_simp
          refine hK.out _ _ hHeld (fun hHeld => ?_)
          clear hK K
          (try simp only [Act.put, pt8])
          refine wpAnyH_done (by kernel_rfl) ?_ _
          clear hHeld
          go_wp2_with fail
          go_meet
          exact ⟨ga, Ad, nd, cd, Dd, md, qd, rfl, rfl, HQS.out, HOS.out, HBS2.out, HGa.out⟩
      case rest =>
      obtain ⟨g11, Ae, ne, ce, De, me, ke, rfl, rfl, h11, hos, hb, hg11⟩ := hcut
      have H11 := Lib.hid h11
      have HOS := Lib.hid hos
      have HB4 := Lib.hid (chain HB3.out hb)
      have HBW4 := Lib.hid (chain HBW.out hb)
      have H94 := Lib.hid (H9.out.below hb H9.out.lt)
      have HR4 := Lib.hid (HR3.out.below hb HR3.out.lt)
      have HO4 := Lib.hid (HO.out.below hb)
      clear h11 hos hb hg11 x0 x1 s0 s1 p0 p1 HCL H9 HR3
      cases q
      · have HNO := Lib.hid (HRH.out (by have := HQ.out; cases h : rst P s kt kd wk with | none => rfl | some a => (rw [h] at this; cases this)))
        have s0 := H94.out.cell 0 _ rfl
        have s1 := H94.out.cell 1 _ rfl
        have r0 := HR4.out.cell 0 _ rfl
        have r1 := HR4.out.cell 1 _ rfl
        have f0 := HR4.out.frozen 0
        have f1 := HR4.out.frozen 1
        obtain ⟨W9, hW9⟩ : ∃ W, W = (wc.setCell ⟨gr, 0, none⟩ (.slice A4 n4 c4)).setCell ⟨gr, 1, none⟩ (.slice B4 m4 k4) := ⟨_, rfl⟩
        have HR9 := Lib.hid (show BoxC W9 gr 31 #[(.slice A4 n4 c4), (.slice B4 m4 k4)] from by rw [hW9]; exact (HR4.out.set 0 _).set 1 _)
        have HO9 := Lib.hid (show OwnSt W2.heap.size W9 (.slice A4 n4 c4) (.slice B4 m4 k4) s ps from by rw [hW9]; exact (HO4.out.box HR4.out (by decide) (by decide) (by decide) 0 _).box (HR4.out.set 0 _) (by decide) (by decide) (by decide) 1 _)
        have HB9 := Lib.hid (show Below w.heap.size w W9 from by rw [hW9]; exact (HB4.out.setCell (p := ⟨gr, 0, none⟩) HG.out _).setCell (p := ⟨gr, 1, none⟩) HG.out _)
        have HW9 := Lib.hid hW9
        clear hW9
        go_wp2_with fail
        rw [← HW9.out]
        clear r0 r1 f0 f1
        have r0 := HR9.out.cell 0 _ rfl
        have r1 := HR9.out.cell 1 _ rfl
        have hz : Try.prog.cellsOf 31 = 2 := by kernel_rfl
        refine bodyPost_ret (v := .tuple #[.agg #[(.slice A4 n4 c4), (.slice B4 m4 k4)], .int .i64 (k : Int), .bool false]) (by simp [results, Try.results12, go_sem, r0, r1, hz]) rfl ?_
        exact ⟨_, _, ps, by rw [HNO.out], by rw [HNO.out]; exact HO9.out.base HB2.out.size, HB9.out⟩
      · obtain ⟨s2, hs2⟩ : ∃ s2, rst P s kt kd wk = some s2 := by have := HQ.out; cases h : rst P s kt kd wk with | none => (rw [h] at this; cases this) | some a => exact ⟨a, rfl⟩
        have HNX := Lib.hid (HRN.out s2 hs2)
        obtain ⟨ps2, ho2⟩ := HOS.out s2 hs2
        have HO5 := Lib.hid (ho2.base HSZ.out)
        clear hs2 ho2
        have s0 := H94.out.cell 0 _ rfl
        have s1 := H94.out.cell 1 _ rfl
        have f0 := H94.out.frozen 0
        have f1' := H94.out.frozen 1
        have n0 := H11.out.cell 0 _ rfl
        have n1 := H11.out.cell 1 _ rfl
        go_wp2_with fail
        clear s0 s1 f0 f1' n0 n1
        go_roundw
        case rel => exact ⟨k + 1, s2, _, _, _, _, _, _, ps2, by go_num, by omega, HNX.out, (H94.out.set 0 _).set 1 _, (HO5.out.box H94.out (by decide) (by decide) (by decide) 0 _).box (H94.out.set 0 _) (by decide) (by decide) (by decide) 1 _, (HBW4.out.setCell (p := ⟨g9, 0, none⟩) HG9.out _).setCell (p := ⟨g9, 1, none⟩) HG9.out _⟩
        case measure => simp [intOf]; omega
    · obtain rfl : l.length = k := by omega
      have HALL := Lib.hid (show runS P wk (beg P) l = (s, l.length, true) from by have := HRUN.out; rwa [List.take_length] at this)
      obtain ⟨ln, hln⟩ : ∃ n, n = l.length := ⟨_, rfl⟩
      rw [← hln] at HALL hlt ⊢
      have s0 := H9.out.cell 0 _ rfl
      have s1 := H9.out.cell 1 _ rfl
      clear hln
      have r0 := HR3.out.cell 0 _ rfl
      have r1 := HR3.out.cell 1 _ rfl
      have f0 := HR3.out.frozen 0
      have f1 := HR3.out.frozen 1
      obtain ⟨W9, hW9⟩ : ∃ W, W = (wr.setCell ⟨gr, 0, none⟩ (.slice A4 n4 c4)).setCell ⟨gr, 1, none⟩ (.slice B4 m4 k4) := ⟨_, rfl⟩
      have HR9 := Lib.hid (show BoxC W9 gr 31 #[(.slice A4 n4 c4), (.slice B4 m4 k4)] from by rw [hW9]; exact (HR3.out.set 0 _).set 1 _)
      have HO9 := Lib.hid (show OwnSt W2.heap.size W9 (.slice A4 n4 c4) (.slice B4 m4 k4) s ps from by rw [hW9]; exact (HO.out.box HR3.out (by decide) (by decide) (by decide) 0 _).box (HR3.out.set 0 _) (by decide) (by decide) (by decide) 1 _)
      have HB9 := Lib.hid (show Below w.heap.size w W9 from by rw [hW9]; exact (HB3.out.setCell (p := ⟨gr, 0, none⟩) HG.out _).setCell (p := ⟨gr, 1, none⟩) HG.out _)
      have HW9 := Lib.hid hW9
      clear hW9
      go_wp2_with fail
      rw [← HW9.out]
      clear r0 r1 f0 f1
      have r0 := HR9.out.cell 0 _ rfl
      have r1 := HR9.out.cell 1 _ rfl
      have hz : Try.prog.cellsOf 31 = 2 := by kernel_rfl
      refine bodyPost_ret (v := .tuple #[.agg #[(.slice A4 n4 c4), (.slice B4 m4 k4)], .int .i64 (ln : Int), .bool true]) (by simp [results, Try.results12, go_sem, r0, r1, hz]) rfl ?_
      exact ⟨_, _, ps, by rw [HALL.out], by rw [HALL.out]; exact HO9.out.base HB2.out.size, HB9.out⟩
end Go.Proofs.Ytbgjamoflbdhoaa
