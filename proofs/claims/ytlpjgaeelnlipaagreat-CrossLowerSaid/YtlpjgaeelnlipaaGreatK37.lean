/-
  LAYER 13: THE DOCUMENT's Run.
  LAYER 13: THE DOCUMENT's Over and End.
  LAYER 14: the walk of CrossLower.
-/
import Derived.Test.YtlpjgaeelnlipaaGreatK02
import Derived.Test.YtlpjgaeelnlipaaGreatK32
import Derived.Deep.RegionHeld3
import Derived.Deep.DeepCutAuto
import Derived.Test.YtlpjgaeelnlipaaGreatK33
import Derived.Test.YtlpjgaeelnlipaaGreatCri
import Derived.Test.YtlpjgaeelnlipaaGreatK35
import Derived.Test.YtlpjgaeelnlipaaGreatK10
import Derived.Test.YtlpjgaeelnlipaaGreatSDi
import Derived.Test.YtlpjgaeelnlipaaGreatScX
set_option linter.unusedVariables false
set_option linter.unusedSimpArgs false
namespace Go.Proofs.YtlpjgaeelnlipaaGreat
open Go.RowKit
open CodM (St Pg rightP)
open BfM (Wr plc)
open ScM

set_option maxHeartbeats 16000000 in
set_option maxRecDepth 100000 in
theorem rrun13_any {B : Nat} {v vl : Value} {P : Pg} {l : List (Int × Bool)} (wk : Bool) (w : World) (hv : PgZ B w v P) (hl : KiR B w vl l) (hBB : B ≤ w.heap.size) (hp : rightP P = true) (hn : l.length ≤ 50000) :
    Calls Tryz.prog 17 #[v, vl, .bool wk] w (OwnRun P wk l w) := by
  have HP := Lib.hid (fun W (hW : Below w.heap.size w W) => (show PgZ W.heap.size W v P from (hv.below (hW.mono hBB)).more (Nat.le_trans hBB hW.size)))
  have HSP := Lib.hid (fun k => show OkSt P (runS P wk (beg P) (l.take k)).1 ∧ WideS (runS P wk (beg P) (l.take k)).1 from ⟨runS_ok hp _ (beg_ok P), wide_run hp wk (l.take k) (by rw [List.length_take]; omega) (by decide)⟩)
  have HRP := Lib.hid hp
  clear hp hn
  obtain ⟨pi, pt, rfl, hpm, -⟩ := hv
  obtain ⟨⟨P0, d0, rfl, -⟩, ⟨P1, d1, rfl, -⟩⟩ := hpm
  obtain ⟨Al, cl, rfl, hl1, hl2, -, hl3⟩ := hl
  have HL3 := Lib.hid (ki_at (c := cl) hl3)
  unfold maxLen at hl2
  clear hl3
  obtain ⟨W2, hW2⟩ : ∃ W, W = (w.alloc (.cells #[.slice P0 P.init.length d0, .slice P1 P.ths.length d1] 25)).alloc (.cells #[.slice none 0 0, .slice none 0 0] 39) := ⟨_, rfl⟩
  obtain ⟨gp, hgp⟩ : ∃ g, g = w.heap.size := ⟨_, rfl⟩
  obtain ⟨gr, hgr⟩ : ∃ g, g = w.heap.size + 1 := ⟨_, rfl⟩
  have HX := Lib.hid (show BoxC W2 gp 25 #[.slice P0 P.init.length d0, .slice P1 P.ths.length d1] from by rw [hW2, hgp]; exact (BoxC.new w _ _).alloc _)
  have HR := Lib.hid (show BoxC W2 gr 39 #[.slice none 0 0, .slice none 0 0] from by rw [hW2, hgr]; have := BoxC.new (w.alloc (.cells #[.slice P0 P.init.length d0, .slice P1 P.ths.length d1] 25)) 39 #[.slice none 0 0, .slice none 0 0]; rw [World.size_alloc] at this; exact this)
  have HB2 := Lib.hid (show Below w.heap.size w W2 from by rw [hW2]; exact below_al (below_al (Below.refl _ _) _) _)
  have HG := Lib.hid (show w.heap.size ≤ gr from by omega)
  go_enter Tryz.func17, Tryz.ntmps17
  go_upto_region 1 with fail
  rw [← hW2]
  (try rw [← hgr])
  (try rw [← hgp])
  clear hW2 hgr hgp
  have x0 := HX.out.cell 0 _ rfl
  have x1 := HX.out.cell 1 _ rfl
  go_wp2_with fail
  refine (rbegin_any _ (HP.out _ HB2.out) (Nat.le_refl _) HRP.out).mono ?_
  rintro e V1 ⟨vm, vt, ps, rfl, hos, hb⟩
  obtain ⟨Am, cm, rfl⟩ := own_slice hos.mem
  obtain ⟨Av, cv, rfl⟩ := own_slice hos.ths
  obtain ⟨m1, hm1⟩ : ∃ n, n = (beg P).mem.length := ⟨_, rfl⟩
  obtain ⟨m2, hm2⟩ : ∃ n, n = (beg P).ths.length := ⟨_, rfl⟩
  rw [← hm1, ← hm2] at hos ⊢
  have HO := Lib.hid hos
  have HBb := Lib.hid hb
  clear hos hb hm1 hm2 x0 x1
  go_upto_region 2 with fail
  obtain ⟨X2, hX2⟩ : ∃ W, W = V1.alloc (.cells #[.slice Am m1 cm, .slice Av m2 cv] 39) := ⟨_, rfl⟩
  obtain ⟨g9, hg9⟩ : ∃ g, g = V1.heap.size := ⟨_, rfl⟩
  have H9 := Lib.hid (show BoxC X2 g9 39 #[.slice Am m1 cm, .slice Av m2 cv] from by rw [hX2, hg9]; exact BoxC.new V1 _ _)
  have HX2 := Lib.hid (show Below V1.heap.size V1 X2 from by rw [hX2]; exact below_al (Below.refl _ _) _)
  have HG9 := Lib.hid (show W2.heap.size ≤ g9 from by rw [hg9]; exact HBb.out.size)
  have HGN := Lib.hid (show gp ≠ g9 ∧ gr ≠ g9 from by have h1 := HX.out.lt; have h2 := HR.out.lt; have h3 := HG9.out; omega)
  rw [← hX2]
  (try rw [← hg9])
  clear hX2 hg9
  have HO2 := Lib.hid (HO.out.below HX2.out)
  have HBc := Lib.hid (chain HBb.out HX2.out)
  go_wp2
  go_loopw [10] (fun i wr => ∃ (k : Nat) (s : Sta) (A4 : Option Addr) (n4 c4 : Nat) (B4 : Option Addr) (m4 k4 : Nat) (ps : List TV), i = .int .i64 k ∧ k ≤ l.length ∧ runS P wk (beg P) (l.take k) = (s, k, true) ∧ BoxC wr g9 39 #[.slice A4 n4 c4, .slice B4 m4 k4] ∧ OwnSt W2.heap.size wr (.slice A4 n4 c4) (.slice B4 m4 k4) s ps ∧ Below W2.heap.size W2 wr) (fun i _ => l.length - (intOf i).toNat)
  case atStart => exact ⟨0, beg P, _, _, _, _, _, _, _, rfl, Nat.zero_le _, by rw [List.take_zero]; rfl, H9.out, HO2.out, HBc.out⟩
  case round =>
    clear H9 HO HO2 HBb HBc HX2
    obtain ⟨k, s, A4, n4, c4, B4, m4, k4, ps, rfl, hk, hrun, h9, ho, hbw⟩ := hrel
    have HRUN := Lib.hid hrun
    have H9 := Lib.hid h9
    have HO := Lib.hid ho
    have HBW := Lib.hid hbw
    have HX3 := Lib.hid (HX.out.below hbw HX.out.lt)
    have HR3 := Lib.hid (HR.out.below hbw HR.out.lt)
    have HB3 := Lib.hid (chain HB2.out hbw)
    clear hrun h9 ho hbw
    by_cases hlt : k < l.length
    · obtain ⟨b1, f1, rfl, hb1, hc1⟩ := HL3.out (by omega)
      obtain ⟨p0, p1⟩ := hc1 k hlt
      replace p0 := ((HB3.out.mono hBB).cell (p := ⟨b1, f1 + k * 2, none⟩) hb1).trans p0
      replace p1 := ((HB3.out.mono hBB).cell (p := ⟨b1, f1 + k * 2 + 1, none⟩) hb1).trans p1
      have HSK := Lib.hid (HSP.out k)
      rw [HRUN.out] at HSK
      have HRN := Lib.hid (fun s' (h : rst P s l[k].1 l[k].2 wk = some s') => runS_next hlt HRUN.out h)
      have HRH := Lib.hid (fun (h : rst P s l[k].1 l[k].2 wk = none) => runS_halt hlt HRUN.out h)
      generalize l[k] = kk at *
      obtain ⟨kt, kd⟩ := kk
      dsimp only at p0 p1 HRN HRH
      have x0 := HX3.out.cell 0 _ rfl
      have x1 := HX3.out.cell 1 _ rfl
      have s0 := H9.out.cell 0 _ rfl
      have s1 := H9.out.cell 1 _ rfl
      obtain ⟨q, hq⟩ : ∃ q, q = (rst P s kt kd wk).isSome := ⟨_, rfl⟩
      have HQ := Lib.hid hq
      have HCL := Lib.hid (fun W (hW : Below wr.heap.size wr W) => rstep13_any kt kd wk W (HP.out W (chain HB3.out hW)).v (HO.out.below hW).sv (Nat.le_refl _) HRP.out HSK.out.1 HSK.out.2)
      have HSZ := Lib.hid HBW.out.size
      clear hq hc1
      go_upto_region 5 with fail
      go_cut [11, 12] (fun vb vi wx => ∃ g A n c D m k, vb = .pointer (some ⟨g, 0, none⟩) ∧ vi = .bool q ∧ BoxC wx g 39 #[.slice A n c, .slice D m k] ∧ (∀ s', rst P s kt kd wk = some s' → ∃ ps, OwnSt wr.heap.size wx (.slice A n c) (.slice D m k) s' ps) ∧ Below wr.heap.size wr wx ∧ wr.heap.size ≤ g)
      case first =>
        refine wp_region_held_drew (S := (fun w' => (w'.cell? ⟨gp, 0, none⟩ = some (.slice P0 P.init.length d0) ∧ w'.cell? ⟨gp, 1, none⟩ = some (.slice P1 P.ths.length d1) ∧ w'.cell? ⟨g9, 0, none⟩ = some (.slice A4 n4 c4) ∧ w'.cell? ⟨g9, 1, none⟩ = some (.slice B4 m4 k4) ∧ w'.cell? ⟨b1, f1 + k * 2, none⟩ = some (.int .i64 kt) ∧ w'.cell? ⟨b1, f1 + k * 2 + 1, none⟩ = some (.bool kd) ∧ True) ∧ Below wr.heap.size wr w')) (by kernel_rfl) ⟨⟨x0, x1, s0, s1, p0, p1, trivial⟩, below_drewN (Below.refl _ _) 1⟩ (fun hHeld => ?_)
        obtain ⟨Xs, hXs⟩ : ∃ W, W = wr.drew := ⟨_, rfl⟩
        have HXs := Lib.hid (show Below wr.heap.size wr Xs from by rw [hXs]; exact below_drewN (Below.refl _ _) 1)
        rw [← hXs] at hHeld ⊢
        clear hXs
        refine wtk 0 ?_ ?_ ?_
        rotate_left
        · intro w hSw; (try dsimp only at hSw); go_simp; (try with_reducible rfl)
        (try simp only [Act.put, pt8])
        refine wtk 1 ?_ ?_ ?_
        rotate_left
        · intro w hSw; (try dsimp only at hSw); go_simp; (try with_reducible rfl)
        (try simp only [Act.put, pt8])
        refine wtk 2 ?_ ?_ ?_
        rotate_left
        · intro w hSw; (try dsimp only at hSw); go_simp; (try with_reducible rfl)
        (try simp only [Act.put, pt8])
        refine wtk 3 ?_ ?_ ?_
        rotate_left
        · intro w hSw; (try dsimp only at hSw); go_simp; (try with_reducible rfl)
        (try simp only [Act.put, pt8])
        refine wtk 4 ?_ ?_ ?_
        rotate_left
        · intro w hSw; (try dsimp only at hSw); go_simp; (try with_reducible rfl)
        (try simp only [Act.put, pt8])
        refine wtk 5 ?_ ?_ ?_
        rotate_left
        · intro w hSw; (try dsimp only at hSw); go_simp; (try with_reducible rfl)
        (try simp only [Act.put, pt8])
        refine wtk 6 ?_ ?_ ?_
        rotate_left
        · intro w hSw; (try dsimp only at hSw); go_simp; (try with_reducible rfl)
        (try simp only [Act.put, pt8])
        refine wpAnyH_ready (rs := [7, 11]) (by kernel_rfl) (by simp) ?_
        refine AllReadyH.cons rfl (fun K hK => ?_) (AllReadyH.cons rfl (fun K hK => ?_) (AllReadyH.nil))
        · -- 7 first
          go_simp
          refine (HCL.out _ hHeld.2).mono ?_
          rintro e Xc ⟨Ad, nd, cd, Dd, md, qd, rfl, hos, hb⟩
          rw [← HQ.out]
          have HOD := Lib.hid (fun s' (h : rst P s kt kd wk = some s') => show ∃ ps, OwnSt wr.heap.size Xc (.slice Ad nd cd) (.slice Dd md qd) s' ps from (hos s' h).imp fun ps h => h.base hHeld.2.size)
          have HBC := Lib.hid (chain hHeld.2 hb)
          refine hK.out _ _ ⟨⟨kc HBC.out x0, kc HBC.out x1, kc HBC.out s0, kc HBC.out s1, kc HBC.out p0, kc HBC.out p1, trivial⟩, HBC.out⟩ (fun hHeld => ?_)
          clear hK K
          (try simp only [Act.put, pt8])
          clear hb hos
          refine wtk 8 ?_ ?_ ?_
          rotate_left
          · intro w hSw; (try dsimp only at hSw); go_simp; (try with_reducible rfl)
          (try simp only [Act.put, pt8])
          refine wtk 9 ?_ ?_ ?_
          rotate_left
          · intro w hSw; (try dsimp only at hSw); go_simp; (try with_reducible rfl)
          (try simp only [Act.put, pt8])
          refine wtk 10 ?_ ?_ ?_
          rotate_left
          · intro w hSw; (try dsimp only at hSw); go_simp; (try with_reducible rfl)
          (try simp only [Act.put, pt8])
          refine wpAnyH_ready (rs := [11]) (by kernel_rfl) (by simp) ?_
          refine AllReadyH.cons rfl (fun K hK => ?_) AllReadyH.nil
          have HBA := Lib.hid (below_al hHeld.2 (.cells #[.slice none 0 0, .slice none 0 0] 39))
          go_simp
          refine hK.out _ _ ⟨⟨kc HBA.out x0, kc HBA.out x1, kc HBA.out s0, kc HBA.out s1, kc HBA.out p0, kc HBA.out p1, trivial⟩, HBA.out⟩ (fun hHeld => ?_)
          clear hK K
          (try simp only [Act.put, pt8])
          have HBa := Lib.hid (below_al (Below.refl Xc.heap.size Xc) (.cells #[.slice none 0 0, .slice none 0 0] 39))
          obtain ⟨Xa, hXa⟩ : ∃ W, W = Xc.alloc (.cells #[.slice none 0 0, .slice none 0 0] 39) := ⟨_, rfl⟩
          obtain ⟨ga, hga⟩ : ∃ g, g = Xc.heap.size := ⟨_, rfl⟩
          have HGa := Lib.hid (show wr.heap.size ≤ ga from by rw [hga]; exact HBC.out.size)
          have HQa := Lib.hid (show BoxC Xa ga 39 #[.slice none 0 0, .slice none 0 0] from by rw [hXa, hga]; exact BoxC.new Xc _ _)
          rw [← hXa] at hHeld HBA HBa ⊢
          (try rw [← hga])
          replace HOD := Lib.hid (fun s' h => show ∃ ps, OwnSt wr.heap.size Xa (.slice Ad nd cd) (.slice Dd md qd) s' ps from (HOD.out s' h).imp fun ps h => h.below HBa.out)
          clear hXa hga HBa
          refine wpAnyH_ready (rs := [12]) (by kernel_rfl) (by simp) ?_
          refine AllReadyH.cons rfl (fun K hK => ?_) AllReadyH.nil
          have q0 := HQa.out.cell 0 _ rfl
          have q1 := HQa.out.cell 1 _ rfl
          have u0 := HQa.out.frozen 0
          have u1 := HQa.out.frozen 1
          have HBS2 := Lib.hid (show Below wr.heap.size wr ((Xa.setCell ⟨ga, 0, none⟩ (.slice Ad nd cd)).setCell ⟨ga, 1, none⟩ (.slice Dd md qd)) from (hHeld.2.setCell (p := ⟨ga, 0, none⟩) HGa.out _).setCell (p := ⟨ga, 1, none⟩) HGa.out _)
          have HQS := Lib.hid (show BoxC ((Xa.setCell ⟨ga, 0, none⟩ (.slice Ad nd cd)).setCell ⟨ga, 1, none⟩ (.slice Dd md qd)) ga 39 #[(.slice Ad nd cd), (.slice Dd md qd)] from (HQa.out.set 0 _).set 1 _)
          have HOS := Lib.hid (fun s' h => show ∃ ps, OwnSt wr.heap.size ((Xa.setCell ⟨ga, 0, none⟩ (.slice Ad nd cd)).setCell ⟨ga, 1, none⟩ (.slice Dd md qd)) (.slice Ad nd cd) (.slice Dd md qd) s' ps from (HOD.out s' h).imp fun ps h => (h.box HQa.out (by decide) (by decide) (by decide) 0 _).box (HQa.out.set 0 _) (by decide) (by decide) (by decide) 1 _)
          go_simp
          refine hK.out _ _ ⟨⟨kc HBS2.out x0, kc HBS2.out x1, kc HBS2.out s0, kc HBS2.out s1, kc HBS2.out p0, kc HBS2.out p1, trivial⟩, HBS2.out⟩ (fun hHeld => ?_)
          clear q0 q1 u0 u1
          clear hK K
          (try simp only [Act.put, pt8])
          refine wpAnyH_ready (rs := [13]) (by kernel_rfl) (by simp) ?_
          refine AllReadyH.cons rfl (fun K hK => ?_) AllReadyH.nil
          go_simp
          refine hK.out _ _ hHeld (fun hHeld => ?_)
          clear hK K
          (try simp only [Act.put, pt8])
          refine wpAnyH_done (by kernel_rfl) ?_ _
          clear hHeld
          go_wp2_with fail
          go_meet
          exact ⟨ga, Ad, nd, cd, Dd, md, qd, rfl, rfl, HQS.out, HOS.out, HBS2.out, HGa.out⟩
        · -- 11 first
          have HBA := Lib.hid (below_al hHeld.2 (.cells #[.slice none 0 0, .slice none 0 0] 39))
          go_simp
          refine hK.out _ _ ⟨⟨kc HBA.out x0, kc HBA.out x1, kc HBA.out s0, kc HBA.out s1, kc HBA.out p0, kc HBA.out p1, trivial⟩, HBA.out⟩ (fun hHeld => ?_)
          clear hK K
          (try simp only [Act.put, pt8])
          have HBa := Lib.hid (below_al (Below.refl Xs.heap.size Xs) (.cells #[.slice none 0 0, .slice none 0 0] 39))
          obtain ⟨Xa, hXa⟩ : ∃ W, W = Xs.alloc (.cells #[.slice none 0 0, .slice none 0 0] 39) := ⟨_, rfl⟩
          obtain ⟨ga, hga⟩ : ∃ g, g = Xs.heap.size := ⟨_, rfl⟩
          have HGa := Lib.hid (show wr.heap.size ≤ ga from by rw [hga]; exact HXs.out.size)
          have HQa := Lib.hid (show BoxC Xa ga 39 #[.slice none 0 0, .slice none 0 0] from by rw [hXa, hga]; exact BoxC.new Xs _ _)
          rw [← hXa] at hHeld HBA HBa ⊢
          (try rw [← hga])
          clear hXa hga HBa
          refine wpAnyH_ready (rs := [7]) (by kernel_rfl) (by simp) ?_
          refine AllReadyH.cons rfl (fun K hK => ?_) AllReadyH.nil
          go_simp
          refine (HCL.out _ hHeld.2).mono ?_
          rintro e Xc ⟨Ad, nd, cd, Dd, md, qd, rfl, hos, hb⟩
          rw [← HQ.out]
          have HOD := Lib.hid (fun s' (h : rst P s kt kd wk = some s') => show ∃ ps, OwnSt wr.heap.size Xc (.slice Ad nd cd) (.slice Dd md qd) s' ps from (hos s' h).imp fun ps h => h.base hHeld.2.size)
          have HBC := Lib.hid (chain hHeld.2 hb)
          replace HQa := Lib.hid (HQa.out.below hb HQa.out.lt)
          refine hK.out _ _ ⟨⟨kc HBC.out x0, kc HBC.out x1, kc HBC.out s0, kc HBC.out s1, kc HBC.out p0, kc HBC.out p1, trivial⟩, HBC.out⟩ (fun hHeld => ?_)
          clear hK K
          (try simp only [Act.put, pt8])
          clear hb hos
          refine wtk 8 ?_ ?_ ?_
          rotate_left
          · intro w hSw; (try dsimp only at hSw); go_simp; (try with_reducible rfl)
          (try simp only [Act.put, pt8])
          refine wtk 9 ?_ ?_ ?_
          rotate_left
          · intro w hSw; (try dsimp only at hSw); go_simp; (try with_reducible rfl)
          (try simp only [Act.put, pt8])
          refine wtk 10 ?_ ?_ ?_
          rotate_left
          · intro w hSw; (try dsimp only at hSw); go_simp; (try with_reducible rfl)
          (try simp only [Act.put, pt8])
          refine wpAnyH_ready (rs := [12]) (by kernel_rfl) (by simp) ?_
          refine AllReadyH.cons rfl (fun K hK => ?_) AllReadyH.nil
          have q0 := HQa.out.cell 0 _ rfl
          have q1 := HQa.out.cell 1 _ rfl
          have u0 := HQa.out.frozen 0
          have u1 := HQa.out.frozen 1
          have HBS2 := Lib.hid (show Below wr.heap.size wr ((Xc.setCell ⟨ga, 0, none⟩ (.slice Ad nd cd)).setCell ⟨ga, 1, none⟩ (.slice Dd md qd)) from (hHeld.2.setCell (p := ⟨ga, 0, none⟩) HGa.out _).setCell (p := ⟨ga, 1, none⟩) HGa.out _)
          have HQS := Lib.hid (show BoxC ((Xc.setCell ⟨ga, 0, none⟩ (.slice Ad nd cd)).setCell ⟨ga, 1, none⟩ (.slice Dd md qd)) ga 39 #[(.slice Ad nd cd), (.slice Dd md qd)] from (HQa.out.set 0 _).set 1 _)
          have HOS := Lib.hid (fun s' h => show ∃ ps, OwnSt wr.heap.size ((Xc.setCell ⟨ga, 0, none⟩ (.slice Ad nd cd)).setCell ⟨ga, 1, none⟩ (.slice Dd md qd)) (.slice Ad nd cd) (.slice Dd md qd) s' ps from (HOD.out s' h).imp fun ps h => (h.box HQa.out (by decide) (by decide) (by decide) 0 _).box (HQa.out.set 0 _) (by decide) (by decide) (by decide) 1 _)
          go_simp
          refine hK.out _ _ ⟨⟨kc HBS2.out x0, kc HBS2.out x1, kc HBS2.out s0, kc HBS2.out s1, kc HBS2.out p0, kc HBS2.out p1, trivial⟩, HBS2.out⟩ (fun hHeld => ?_)
          clear q0 q1 u0 u1
          clear hK K
          (try simp only [Act.put, pt8])
          refine wpAnyH_ready (rs := [13]) (by kernel_rfl) (by simp) ?_
          refine AllReadyH.cons rfl (fun K hK => ?_) AllReadyH.nil
          go_simp
          refine hK.out _ _ hHeld (fun hHeld => ?_)
          clear hK K
          (try simp only [Act.put, pt8])
          refine wpAnyH_done (by kernel_rfl) ?_ _
          clear hHeld
          go_wp2_with fail
          go_meet
          exact ⟨ga, Ad, nd, cd, Dd, md, qd, rfl, rfl, HQS.out, HOS.out, HBS2.out, HGa.out⟩
      case rest =>
      obtain ⟨g11, Ae, ne, ce, De, me, ke, rfl, rfl, h11, hos, hb, hg11⟩ := hcut
      have H11 := Lib.hid h11
      have HOS := Lib.hid hos
      have HB4 := Lib.hid (chain HB3.out hb)
      have HBW4 := Lib.hid (chain HBW.out hb)
      have H94 := Lib.hid (H9.out.below hb H9.out.lt)
      have HR4 := Lib.hid (HR3.out.below hb HR3.out.lt)
      have HO4 := Lib.hid (HO.out.below hb)
      clear h11 hos hb hg11 x0 x1 s0 s1 p0 p1 HCL H9 HR3
      cases q
      · have HNO := Lib.hid (HRH.out (by have := HQ.out; cases h : rst P s kt kd wk with | none => rfl | some a => (rw [h] at this; cases this)))
        have s0 := H94.out.cell 0 _ rfl
        have s1 := H94.out.cell 1 _ rfl
        have r0 := HR4.out.cell 0 _ rfl
        have r1 := HR4.out.cell 1 _ rfl
        have f0 := HR4.out.frozen 0
        have f1 := HR4.out.frozen 1
        obtain ⟨W9, hW9⟩ : ∃ W, W = (wc.setCell ⟨gr, 0, none⟩ (.slice A4 n4 c4)).setCell ⟨gr, 1, none⟩ (.slice B4 m4 k4) := ⟨_, rfl⟩
        have HR9 := Lib.hid (show BoxC W9 gr 39 #[(.slice A4 n4 c4), (.slice B4 m4 k4)] from by rw [hW9]; exact (HR4.out.set 0 _).set 1 _)
        have HO9 := Lib.hid (show OwnSt W2.heap.size W9 (.slice A4 n4 c4) (.slice B4 m4 k4) s ps from by rw [hW9]; exact (HO4.out.box HR4.out (by decide) (by decide) (by decide) 0 _).box (HR4.out.set 0 _) (by decide) (by decide) (by decide) 1 _)
        have HB9 := Lib.hid (show Below w.heap.size w W9 from by rw [hW9]; exact (HB4.out.setCell (p := ⟨gr, 0, none⟩) HG.out _).setCell (p := ⟨gr, 1, none⟩) HG.out _)
        have HW9 := Lib.hid hW9
        clear hW9
        go_wp2_with fail
        rw [← HW9.out]
        clear r0 r1 f0 f1
        have r0 := HR9.out.cell 0 _ rfl
        have r1 := HR9.out.cell 1 _ rfl
        have hz : Tryz.prog.cellsOf 39 = 2 := by kernel_rfl
        refine bodyPost_ret (v := .tuple #[.agg #[(.slice A4 n4 c4), (.slice B4 m4 k4)], .int .i64 (k : Int), .bool false]) (by simp [results, Tryz.results17, go_sem, r0, r1, hz]) rfl ?_
        exact ⟨_, _, ps, by rw [HNO.out], by rw [HNO.out]; exact HO9.out.base HB2.out.size, HB9.out⟩
      · obtain ⟨s2, hs2⟩ : ∃ s2, rst P s kt kd wk = some s2 := by have := HQ.out; cases h : rst P s kt kd wk with | none => (rw [h] at this; cases this) | some a => exact ⟨a, rfl⟩
        have HNX := Lib.hid (HRN.out s2 hs2)
        obtain ⟨ps2, ho2⟩ := HOS.out s2 hs2
        have HO5 := Lib.hid (ho2.base HSZ.out)
        clear hs2 ho2
        have s0 := H94.out.cell 0 _ rfl
        have s1 := H94.out.cell 1 _ rfl
        have f0 := H94.out.frozen 0
        have f1' := H94.out.frozen 1
        have n0 := H11.out.cell 0 _ rfl
        have n1 := H11.out.cell 1 _ rfl
        go_wp2_with fail
        clear s0 s1 f0 f1' n0 n1
        go_roundw
        case rel => exact ⟨k + 1, s2, _, _, _, _, _, _, ps2, by go_num, by omega, HNX.out, (H94.out.set 0 _).set 1 _, (HO5.out.box H94.out (by decide) (by decide) (by decide) 0 _).box (H94.out.set 0 _) (by decide) (by decide) (by decide) 1 _, (HBW4.out.setCell (p := ⟨g9, 0, none⟩) HG9.out _).setCell (p := ⟨g9, 1, none⟩) HG9.out _⟩
        case measure => simp [intOf]; omega
    · obtain rfl : l.length = k := by omega
      have HALL := Lib.hid (show runS P wk (beg P) l = (s, l.length, true) from by have := HRUN.out; rwa [List.take_length] at this)
      obtain ⟨ln, hln⟩ : ∃ n, n = l.length := ⟨_, rfl⟩
      rw [← hln] at HALL hlt ⊢
      have s0 := H9.out.cell 0 _ rfl
      have s1 := H9.out.cell 1 _ rfl
      clear hln
      have r0 := HR3.out.cell 0 _ rfl
      have r1 := HR3.out.cell 1 _ rfl
      have f0 := HR3.out.frozen 0
      have f1 := HR3.out.frozen 1
      obtain ⟨W9, hW9⟩ : ∃ W, W = (wr.setCell ⟨gr, 0, none⟩ (.slice A4 n4 c4)).setCell ⟨gr, 1, none⟩ (.slice B4 m4 k4) := ⟨_, rfl⟩
      have HR9 := Lib.hid (show BoxC W9 gr 39 #[(.slice A4 n4 c4), (.slice B4 m4 k4)] from by rw [hW9]; exact (HR3.out.set 0 _).set 1 _)
      have HO9 := Lib.hid (show OwnSt W2.heap.size W9 (.slice A4 n4 c4) (.slice B4 m4 k4) s ps from by rw [hW9]; exact (HO.out.box HR3.out (by decide) (by decide) (by decide) 0 _).box (HR3.out.set 0 _) (by decide) (by decide) (by decide) 1 _)
      have HB9 := Lib.hid (show Below w.heap.size w W9 from by rw [hW9]; exact (HB3.out.setCell (p := ⟨gr, 0, none⟩) HG.out _).setCell (p := ⟨gr, 1, none⟩) HG.out _)
      have HW9 := Lib.hid hW9
      clear hW9
      go_wp2_with fail
      rw [← HW9.out]
      clear r0 r1 f0 f1
      have r0 := HR9.out.cell 0 _ rfl
      have r1 := HR9.out.cell 1 _ rfl
      have hz : Tryz.prog.cellsOf 39 = 2 := by kernel_rfl
      refine bodyPost_ret (v := .tuple #[.agg #[(.slice A4 n4 c4), (.slice B4 m4 k4)], .int .i64 (ln : Int), .bool true]) (by simp [results, Tryz.results17, go_sem, r0, r1, hz]) rfl ?_
      exact ⟨_, _, ps, by rw [HALL.out], by rw [HALL.out]; exact HO9.out.base HB2.out.size, HB9.out⟩
end Go.Proofs.YtlpjgaeelnlipaaGreat
namespace Go.Proofs.YtlpjgaeelnlipaaGreat
open Go.RowKit
open CodM (St Pg rightP)
open BfM (Wr plc)
open ScM

def tov (ss : List St) (x : Th) : Bool := decide (x.at' = (ss.length : Int)) && x.buf.isEmpty
theorem over_all {P : Pg} {s : Sta} (ho : OkSt P s) (h : ∀ k (h1 : k < s.ths.length) (h2 : k < P.ths.length), tov P.ths[k] s.ths[k] = true) : overB P s = true := by
  rw [over_iff ho]
  intro k h1 h2
  have := h k h1 h2
  unfold tov at this
  simpa only [Bool.and_eq_true, decide_eq_true_eq, List.isEmpty_iff] using this
theorem over_no {P : Pg} {s : Sta} (ho : OkSt P s) {k : Nat} (h1 : k < s.ths.length) (h2 : k < P.ths.length) (h : tov P.ths[k] s.ths[k] = false) : overB P s = false := by
  cases e : overB P s with
  | false => rfl
  | true =>
    have := (over_iff ho).1 e k h1 h2
    unfold tov at h
    rw [this.1, this.2] at h
    simp at h
set_option maxHeartbeats 8000000 in
set_option maxRecDepth 100000 in
theorem rover_any {B : Nat} {v u : Value} {P : Pg} {s : Sta} (w : World) (hv : PgV B w v P) (hu : StaV B w u s) (hBB : B ≤ w.heap.size) (hp : rightP P = true) (ho : OkSt P s) :
    Calls Tryz.prog 20 #[v, u] w fun e w' => e = .returned (.bool (overB P s)) ∧ Below w.heap.size w w' := by
  have HOK := Lib.hid ho
  have HTL := Lib.hid ho.ths
  clear ho
  obtain ⟨pi, pt, rfl, hpm⟩ := hv
  obtain ⟨um, ut, rfl, hum⟩ := hu
  obtain ⟨⟨P0, d0, rfl, -⟩, ⟨P1, d1, rfl, l1, l2, l3⟩⟩ := hpm
  obtain ⟨⟨A7, c7, rfl, -⟩, ⟨A1, c1, rfl, k1, k2, -, k3⟩⟩ := hum
  unfold maxLen at l2 k2
  have HL3 := Lib.hid l3
  have HK3 := Lib.hid k3
  clear l3 k3 hp
  obtain ⟨W2, hW2⟩ : ∃ W, W = (w.alloc (.cells #[.slice P0 P.init.length d0, .slice P1 P.ths.length d1] 25)).alloc (.cells #[.slice A7 s.mem.length c7, .slice A1 s.ths.length c1] 39) := ⟨_, rfl⟩
  obtain ⟨gp, hgp⟩ : ∃ g, g = w.heap.size := ⟨_, rfl⟩
  obtain ⟨gs, hgs⟩ : ∃ g, g = w.heap.size + 1 := ⟨_, rfl⟩
  have HX := Lib.hid (show BoxC W2 gp 25 #[.slice P0 P.init.length d0, .slice P1 P.ths.length d1] from by rw [hW2, hgp]; exact (BoxC.new w _ _).alloc _)
  have HY := Lib.hid (show BoxC W2 gs 39 #[.slice A7 s.mem.length c7, .slice A1 s.ths.length c1] from by rw [hW2, hgs]; have := BoxC.new (w.alloc (.cells #[.slice P0 P.init.length d0, .slice P1 P.ths.length d1] 25)) 39 #[.slice A7 s.mem.length c7, .slice A1 s.ths.length c1]; rw [World.size_alloc] at this; exact this)
  have HB2 := Lib.hid (show Below w.heap.size w W2 from by rw [hW2]; exact below_al (below_al (Below.refl _ _) _) _)
  go_enter Tryz.func20, Tryz.ntmps20
  go_upto_region 1 with fail
  rw [← hW2]
  (try rw [← hgs])
  (try rw [← hgp])
  clear hW2 hgs hgp
  have y1 := HY.out.cell 1 _ rfl
  go_wp2
  clear y1
  go_loopw [5] (fun i wr => ∃ k : Nat, k ≤ s.ths.length ∧ i = .int .i64 k ∧ (∀ j (h1 : j < s.ths.length) (h2 : j < P.ths.length), j < k → tov P.ths[j] s.ths[j] = true) ∧ Below W2.heap.size W2 wr) (fun i _ => s.ths.length - (intOf i).toNat)
  case atStart => exact ⟨0, Nat.zero_le _, rfl, fun j _ _ h => absurd h (Nat.not_lt_zero j), Below.refl _ _⟩
  case round =>
    obtain ⟨k, hk, rfl, hall, hbw⟩ := hrel
    have HA := Lib.hid hall
    have HBW := Lib.hid hbw
    have HB3 := Lib.hid (chain HB2.out hbw)
    have x1 := (HX.out.below hbw HX.out.lt).cell 1 _ rfl
    have y1 := (HY.out.below hbw HY.out.lt).cell 1 _ rfl
    clear hall hbw
    by_cases hlt : k < s.ths.length
    · have hkt : k < P.ths.length := by rw [← HTL.out]; exact hlt
      obtain ⟨b3, f3, rfl, hb3, hcl⟩ := HL3.out (by omega)
      obtain ⟨b2, f2, rfl, hb2, hcm⟩ := HK3.out (by omega)
      obtain ⟨uu, z0, hS⟩ := (hcl k hkt).below (HB3.out.mono hBB) hb3
      obtain ⟨vr, vb, c0, -, -, c3, -, hW⟩ := (hcm k hlt).below (HB3.out.mono hBB) hb2
      have HNO := Lib.hid (fun (h : tov P.ths[k] s.ths[k] = false) => over_no HOK.out hlt hkt h)
      have HY2 := Lib.hid (fun (h : tov P.ths[k] s.ths[k] = true) (j : Nat) (h1 : j < s.ths.length) (h2 : j < P.ths.length) (hjk : j < k + 1) => show tov P.ths[j] s.ths[j] = true by
        by_cases e : j = k
        · subst e; exact h
        · exact HA.out j h1 h2 (by omega))
      obtain ⟨A5, c5, rfl, n1, n2, -⟩ := hS
      obtain ⟨Ab, cb, rfl, q1, q2, -⟩ := hW
      unfold maxLen at n2 q2
      obtain ⟨jl, hjl⟩ : ∃ a, a = P.ths[k].length := ⟨_, rfl⟩
      obtain ⟨bn, hbn⟩ : ∃ a, a = s.ths[k].buf.length := ⟨_, rfl⟩
      have HTV := Lib.hid (show tov P.ths[k] s.ths[k] = (decide (s.ths[k].at' = (jl : Int)) && decide (bn = 0)) from by unfold tov; rw [hjl, hbn]; cases s.ths[k].buf <;> simp)
      rw [← hjl] at z0 n1
      rw [← hbn] at c3 q1
      generalize tov P.ths[k] s.ths[k] = tv at *
      generalize s.ths[k].at' = xa at *
      clear hjl hbn hcl hcm
      by_cases h0 : xa = (jl : Int)
      case neg =>
        have hq : (xa != (jl : Int)) = true := by rw [bne_iff_ne]; exact h0
        have HF := Lib.hid (HNO.out (by rw [HTV.out]; simp [h0]))
        clear h0
        go_upto_region 4 with fail
        refine wp_region_held_drew (S := (fun w' => (w'.cell? ⟨gp, 1, none⟩ = some (.slice (some ⟨b3, f3, none⟩) P.ths.length d1) ∧ w'.cell? ⟨b3, f3 + k, none⟩ = some (.slice A5 jl c5) ∧ w'.cell? ⟨gs, 1, none⟩ = some (.slice (some ⟨b2, f2, none⟩) s.ths.length c1) ∧ w'.cell? ⟨b2, f2 + k * 4, none⟩ = some (.int .i64 xa) ∧ w'.cell? ⟨b2, f2 + k * 4 + 3, none⟩ = some (.slice Ab bn cb) ∧ True) ∧ Below wr.heap.size wr w')) (by kernel_rfl) ⟨⟨x1, z0, y1, c0, c3, trivial⟩, below_drewN (Below.refl _ _) 1⟩ (fun hHeld => ?_)
        obtain ⟨W7, hW7⟩ : ∃ W, W = wr.drew := ⟨_, rfl⟩
        have HX7 := Lib.hid (show Below wr.heap.size wr W7 from by rw [hW7]; exact below_drewN (Below.refl _ _) 1)
        rw [← hW7] at hHeld ⊢
        clear hW7
        refine wtk 0 ?_ ?_ ?_
        rotate_left
        · intro w hSw; (try dsimp only at hSw); go_simp; (try with_reducible rfl)
        (try simp only [Act.put, pt8])
        refine wtk 1 ?_ ?_ ?_
        rotate_left
        · intro w hSw; (try dsimp only at hSw); go_simp; (try with_reducible rfl)
        (try simp only [Act.put, pt8])
        refine wtk 2 ?_ ?_ ?_
        rotate_left
        · intro w hSw; (try dsimp only at hSw); go_simp; (try with_reducible rfl)
        (try simp only [Act.put, pt8])
        refine wtk 3 ?_ ?_ ?_
        rotate_left
        · intro w hSw; (try dsimp only at hSw); go_simp; (try with_reducible rfl)
        (try simp only [Act.put, pt8])
        refine wtk 4 ?_ ?_ ?_
        rotate_left
        · intro w hSw; (try dsimp only at hSw); go_simp; (try with_reducible rfl)
        (try simp only [Act.put, pt8])
        refine wtk 5 ?_ ?_ ?_
        rotate_left
        · intro w hSw; (try dsimp only at hSw); go_simp; (try with_reducible rfl)
        (try simp only [Act.put, pt8])
        refine wtk 6 ?_ ?_ ?_
        rotate_left
        · intro w hSw; (try dsimp only at hSw); go_simp; (try with_reducible rfl)
        (try simp only [Act.put, pt8])
        refine wtk 7 ?_ ?_ ?_
        rotate_left
        · intro w hSw; (try dsimp only at hSw); go_simp; (try with_reducible rfl)
        (try simp only [Act.put, pt8])
        refine wtk 8 ?_ ?_ ?_
        rotate_left
        · intro w hSw; (try dsimp only at hSw); go_simp; (try with_reducible rfl)
        (try simp only [Act.put, pt8])
        refine wtk 9 ?_ ?_ ?_
        rotate_left
        · intro w hSw; (try dsimp only at hSw); go_simp; (try with_reducible rfl)
        (try simp only [Act.put, pt8])
        refine wtk 10 ?_ ?_ ?_
        rotate_left
        · intro w hSw; (try dsimp only at hSw); go_simp; (try with_reducible rfl)
        (try simp only [Act.put, pt8])
        refine wtk 11 ?_ ?_ ?_
        rotate_left
        · intro w hSw; (try dsimp only at hSw); go_simp; (try with_reducible rfl)
        (try simp only [Act.put, pt8])
        refine wtk 12 ?_ ?_ ?_
        rotate_left
        · intro w hSw; (try dsimp only at hSw); go_simp; (try with_reducible rfl)
        (try simp only [Act.put, pt8])
        refine wtk 13 ?_ ?_ ?_
        rotate_left
        · intro w hSw; (try dsimp only at hSw); go_simp; (try with_reducible rfl)
        (try simp only [Act.put, pt8])
        refine wpAnyH_take (i := 14) (v := undef) rfl (by kernel_rfl) (by kernel_rfl) (by kernel_rfl) (fun _ _ _ h => h) (Or.inr ⟨by rfl, rfl⟩) (by assumption) ?_
        (try simp only [Act.put, pt8])
        refine wpAnyH_take (i := 15) (v := undef) rfl (by kernel_rfl) (by kernel_rfl) (by kernel_rfl) (fun _ _ _ h => h) (Or.inr ⟨by rfl, rfl⟩) (by assumption) ?_
        (try simp only [Act.put, pt8])
        refine wpAnyH_take (i := 16) (v := undef) rfl (by kernel_rfl) (by kernel_rfl) (by kernel_rfl) (fun _ _ _ h => h) (Or.inr ⟨by rfl, rfl⟩) (by assumption) ?_
        (try simp only [Act.put, pt8])
        refine wpAnyH_take (i := 17) (v := undef) rfl (by kernel_rfl) (by kernel_rfl) (by kernel_rfl) (fun _ _ _ h => h) (Or.inr ⟨by rfl, rfl⟩) (by assumption) ?_
        (try simp only [Act.put, pt8])
        refine wpAnyH_take (i := 18) (v := undef) rfl (by kernel_rfl) (by kernel_rfl) (by kernel_rfl) (fun _ _ _ h => h) (Or.inr ⟨by rfl, rfl⟩) (by assumption) ?_
        (try simp only [Act.put, pt8])
        refine wpAnyH_take (i := 19) (v := undef) rfl (by kernel_rfl) (by kernel_rfl) (by kernel_rfl) (fun _ _ _ h => h) (Or.inr ⟨by rfl, rfl⟩) (by assumption) ?_
        (try simp only [Act.put, pt8])
        refine wpAnyH_take (i := 20) (v := undef) rfl (by kernel_rfl) (by kernel_rfl) (by kernel_rfl) (fun _ _ _ h => h) (Or.inr ⟨by rfl, rfl⟩) (by assumption) ?_
        (try simp only [Act.put, pt8])
        refine wpAnyH_take (i := 21) (v := undef) rfl (by kernel_rfl) (by kernel_rfl) (by kernel_rfl) (fun _ _ _ h => h) (Or.inr ⟨by rfl, rfl⟩) (by assumption) ?_
        (try simp only [Act.put, pt8])
        refine wtk 22 ?_ ?_ ?_
        rotate_left
        · intro w hSw; (try dsimp only at hSw); go_simp; (try with_reducible rfl)
        (try simp only [Act.put, pt8])
        refine wpAnyH_done (by kernel_rfl) ?_ _
        clear hHeld x1 z0 y1 c0 c3
        go_wp2
        go_ret
        exact ⟨ret_boolc HF.out.symm, chain HB3.out HX7.out⟩
      have hq : (xa != (jl : Int)) = false := by rw [bne_eq_false_iff_eq]; exact h0
      have HXA := Lib.hid h0
      subst h0
      by_cases h1 : bn = 0
      · have hz : decide ((bn : Int) > 0) = false := decide_eq_false (by omega)
        have hz2 : decide (0 < (bn : Int)) = false := decide_eq_false (by omega)
        have hz3 : decide (0 < bn) = false := decide_eq_false (by omega)
        have hz4 : ¬ 0 < bn := by omega
        have HT := Lib.hid (HY2.out (by rw [HTV.out]; simp [h1]))
        clear h1
        go_upto_region 4 with fail
        refine wp_region_held_drew (S := (fun w' => (w'.cell? ⟨gp, 1, none⟩ = some (.slice (some ⟨b3, f3, none⟩) P.ths.length d1) ∧ w'.cell? ⟨b3, f3 + k, none⟩ = some (.slice A5 jl c5) ∧ w'.cell? ⟨gs, 1, none⟩ = some (.slice (some ⟨b2, f2, none⟩) s.ths.length c1) ∧ w'.cell? ⟨b2, f2 + k * 4, none⟩ = some (.int .i64 (jl : Int)) ∧ w'.cell? ⟨b2, f2 + k * 4 + 3, none⟩ = some (.slice Ab bn cb) ∧ True) ∧ Below wr.heap.size wr w')) (by kernel_rfl) ⟨⟨x1, z0, y1, c0, c3, trivial⟩, below_drewN (Below.refl _ _) 1⟩ (fun hHeld => ?_)
        obtain ⟨W7, hW7⟩ : ∃ W, W = wr.drew := ⟨_, rfl⟩
        have HX7 := Lib.hid (show Below wr.heap.size wr W7 from by rw [hW7]; exact below_drewN (Below.refl _ _) 1)
        rw [← hW7] at hHeld ⊢
        clear hW7
        refine wtk 0 ?_ ?_ ?_
        rotate_left
        · intro w hSw; (try dsimp only at hSw); go_simp; (try with_reducible rfl)
        (try simp only [Act.put, pt8])
        refine wtk 1 ?_ ?_ ?_
        rotate_left
        · intro w hSw; (try dsimp only at hSw); go_simp; (try with_reducible rfl)
        (try simp only [Act.put, pt8])
        refine wtk 2 ?_ ?_ ?_
        rotate_left
        · intro w hSw; (try dsimp only at hSw); go_simp; (try with_reducible rfl)
        (try simp only [Act.put, pt8])
        refine wtk 3 ?_ ?_ ?_
        rotate_left
        · intro w hSw; (try dsimp only at hSw); go_simp; (try with_reducible rfl)
        (try simp only [Act.put, pt8])
        refine wtk 4 ?_ ?_ ?_
        rotate_left
        · intro w hSw; (try dsimp only at hSw); go_simp; (try with_reducible rfl)
        (try simp only [Act.put, pt8])
        refine wtk 5 ?_ ?_ ?_
        rotate_left
        · intro w hSw; (try dsimp only at hSw); go_simp; (try with_reducible rfl)
        (try simp only [Act.put, pt8])
        refine wtk 6 ?_ ?_ ?_
        rotate_left
        · intro w hSw; (try dsimp only at hSw); go_simp; (try with_reducible rfl)
        (try simp only [Act.put, pt8])
        refine wtk 7 ?_ ?_ ?_
        rotate_left
        · intro w hSw; (try dsimp only at hSw); go_simp; (try with_reducible rfl)
        (try simp only [Act.put, pt8])
        refine wtk 8 ?_ ?_ ?_
        rotate_left
        · intro w hSw; (try dsimp only at hSw); go_simp; (try with_reducible rfl)
        (try simp only [Act.put, pt8])
        refine wtk 9 ?_ ?_ ?_
        rotate_left
        · intro w hSw; (try dsimp only at hSw); go_simp; (try with_reducible rfl)
        (try simp only [Act.put, pt8])
        refine wtk 10 ?_ ?_ ?_
        rotate_left
        · intro w hSw; (try dsimp only at hSw); go_simp; (try with_reducible rfl)
        (try simp only [Act.put, pt8])
        refine wtk 11 ?_ ?_ ?_
        rotate_left
        · intro w hSw; (try dsimp only at hSw); go_simp; (try with_reducible rfl)
        (try simp only [Act.put, pt8])
        refine wtk 12 ?_ ?_ ?_
        rotate_left
        · intro w hSw; (try dsimp only at hSw); go_simp; (try with_reducible rfl)
        (try simp only [Act.put, pt8])
        refine wtk 13 ?_ ?_ ?_
        rotate_left
        · intro w hSw; (try dsimp only at hSw); go_simp; (try with_reducible rfl)
        (try simp only [Act.put, pt8])
        refine wtk 14 ?_ ?_ ?_
        rotate_left
        · intro w hSw; (try dsimp only at hSw); go_simp; (try with_reducible rfl)
        (try simp only [Act.put, pt8])
        refine wtk 15 ?_ ?_ ?_
        rotate_left
        · intro w hSw; (try dsimp only at hSw); go_simp; (try with_reducible rfl)
        (try simp only [Act.put, pt8])
        refine wtk 16 ?_ ?_ ?_
        rotate_left
        · intro w hSw; (try dsimp only at hSw); go_simp; (try with_reducible rfl)
        (try simp only [Act.put, pt8])
        refine wtk 17 ?_ ?_ ?_
        rotate_left
        · intro w hSw; (try dsimp only at hSw); go_simp; (try with_reducible rfl)
        (try simp only [Act.put, pt8])
        refine wtk 18 ?_ ?_ ?_
        rotate_left
        · intro w hSw; (try dsimp only at hSw); go_simp; (try with_reducible rfl)
        (try simp only [Act.put, pt8])
        refine wtk 19 ?_ ?_ ?_
        rotate_left
        · intro w hSw; (try dsimp only at hSw); go_simp; (try with_reducible rfl)
        (try simp only [Act.put, pt8])
        refine wtk 20 ?_ ?_ ?_
        rotate_left
        · intro w hSw; (try dsimp only at hSw); go_simp; (try with_reducible rfl)
        (try simp only [Act.put, pt8])
        refine wtk 21 ?_ ?_ ?_
        rotate_left
        · intro w hSw; (try dsimp only at hSw); go_simp; (try with_reducible rfl)
        (try simp only [Act.put, pt8])
        refine wtk 22 ?_ ?_ ?_
        rotate_left
        · intro w hSw; (try dsimp only at hSw); go_simp; (try with_reducible rfl)
        (try simp only [Act.put, pt8])
        refine wpAnyH_done (by kernel_rfl) ?_ _
        clear hHeld x1 z0 y1 c0 c3
        go_wp2
        go_roundw
        case rel => exact ⟨k + 1, by omega, by go_num, HT.out, chain HBW.out HX7.out⟩
        case measure => simp [intOf]; omega
      · have hz : decide ((bn : Int) > 0) = true := decide_eq_true (by omega)
        have hz2 : decide (0 < (bn : Int)) = true := decide_eq_true (by omega)
        have hz3 : decide (0 < bn) = true := decide_eq_true (by omega)
        have hz4 : 0 < bn := by omega
        have HF := Lib.hid (HNO.out (by rw [HTV.out]; simp [h1]))
        clear h1
        go_upto_region 4 with fail
        refine wp_region_held_drew (S := (fun w' => (w'.cell? ⟨gp, 1, none⟩ = some (.slice (some ⟨b3, f3, none⟩) P.ths.length d1) ∧ w'.cell? ⟨b3, f3 + k, none⟩ = some (.slice A5 jl c5) ∧ w'.cell? ⟨gs, 1, none⟩ = some (.slice (some ⟨b2, f2, none⟩) s.ths.length c1) ∧ w'.cell? ⟨b2, f2 + k * 4, none⟩ = some (.int .i64 (jl : Int)) ∧ w'.cell? ⟨b2, f2 + k * 4 + 3, none⟩ = some (.slice Ab bn cb) ∧ True) ∧ Below wr.heap.size wr w')) (by kernel_rfl) ⟨⟨x1, z0, y1, c0, c3, trivial⟩, below_drewN (Below.refl _ _) 1⟩ (fun hHeld => ?_)
        obtain ⟨W7, hW7⟩ : ∃ W, W = wr.drew := ⟨_, rfl⟩
        have HX7 := Lib.hid (show Below wr.heap.size wr W7 from by rw [hW7]; exact below_drewN (Below.refl _ _) 1)
        rw [← hW7] at hHeld ⊢
        clear hW7
        refine wtk 0 ?_ ?_ ?_
        rotate_left
        · intro w hSw; (try dsimp only at hSw); go_simp; (try with_reducible rfl)
        (try simp only [Act.put, pt8])
        refine wtk 1 ?_ ?_ ?_
        rotate_left
        · intro w hSw; (try dsimp only at hSw); go_simp; (try with_reducible rfl)
        (try simp only [Act.put, pt8])
        refine wtk 2 ?_ ?_ ?_
        rotate_left
        · intro w hSw; (try dsimp only at hSw); go_simp; (try with_reducible rfl)
        (try simp only [Act.put, pt8])
        refine wtk 3 ?_ ?_ ?_
        rotate_left
        · intro w hSw; (try dsimp only at hSw); go_simp; (try with_reducible rfl)
        (try simp only [Act.put, pt8])
        refine wtk 4 ?_ ?_ ?_
        rotate_left
        · intro w hSw; (try dsimp only at hSw); go_simp; (try with_reducible rfl)
        (try simp only [Act.put, pt8])
        refine wtk 5 ?_ ?_ ?_
        rotate_left
        · intro w hSw; (try dsimp only at hSw); go_simp; (try with_reducible rfl)
        (try simp only [Act.put, pt8])
        refine wtk 6 ?_ ?_ ?_
        rotate_left
        · intro w hSw; (try dsimp only at hSw); go_simp; (try with_reducible rfl)
        (try simp only [Act.put, pt8])
        refine wtk 7 ?_ ?_ ?_
        rotate_left
        · intro w hSw; (try dsimp only at hSw); go_simp; (try with_reducible rfl)
        (try simp only [Act.put, pt8])
        refine wtk 8 ?_ ?_ ?_
        rotate_left
        · intro w hSw; (try dsimp only at hSw); go_simp; (try with_reducible rfl)
        (try simp only [Act.put, pt8])
        refine wtk 9 ?_ ?_ ?_
        rotate_left
        · intro w hSw; (try dsimp only at hSw); go_simp; (try with_reducible rfl)
        (try simp only [Act.put, pt8])
        refine wtk 10 ?_ ?_ ?_
        rotate_left
        · intro w hSw; (try dsimp only at hSw); go_simp; (try with_reducible rfl)
        (try simp only [Act.put, pt8])
        refine wtk 11 ?_ ?_ ?_
        rotate_left
        · intro w hSw; (try dsimp only at hSw); go_simp; (try with_reducible rfl)
        (try simp only [Act.put, pt8])
        refine wtk 12 ?_ ?_ ?_
        rotate_left
        · intro w hSw; (try dsimp only at hSw); go_simp; (try with_reducible rfl)
        (try simp only [Act.put, pt8])
        refine wtk 13 ?_ ?_ ?_
        rotate_left
        · intro w hSw; (try dsimp only at hSw); go_simp; (try with_reducible rfl)
        (try simp only [Act.put, pt8])
        refine wtk 14 ?_ ?_ ?_
        rotate_left
        · intro w hSw; (try dsimp only at hSw); go_simp; (try with_reducible rfl)
        (try simp only [Act.put, pt8])
        refine wtk 15 ?_ ?_ ?_
        rotate_left
        · intro w hSw; (try dsimp only at hSw); go_simp; (try with_reducible rfl)
        (try simp only [Act.put, pt8])
        refine wtk 16 ?_ ?_ ?_
        rotate_left
        · intro w hSw; (try dsimp only at hSw); go_simp; (try with_reducible rfl)
        (try simp only [Act.put, pt8])
        refine wtk 17 ?_ ?_ ?_
        rotate_left
        · intro w hSw; (try dsimp only at hSw); go_simp; (try with_reducible rfl)
        (try simp only [Act.put, pt8])
        refine wtk 18 ?_ ?_ ?_
        rotate_left
        · intro w hSw; (try dsimp only at hSw); go_simp; (try with_reducible rfl)
        (try simp only [Act.put, pt8])
        refine wtk 19 ?_ ?_ ?_
        rotate_left
        · intro w hSw; (try dsimp only at hSw); go_simp; (try with_reducible rfl)
        (try simp only [Act.put, pt8])
        refine wtk 20 ?_ ?_ ?_
        rotate_left
        · intro w hSw; (try dsimp only at hSw); go_simp; (try with_reducible rfl)
        (try simp only [Act.put, pt8])
        refine wtk 21 ?_ ?_ ?_
        rotate_left
        · intro w hSw; (try dsimp only at hSw); go_simp; (try with_reducible rfl)
        (try simp only [Act.put, pt8])
        refine wtk 22 ?_ ?_ ?_
        rotate_left
        · intro w hSw; (try dsimp only at hSw); go_simp; (try with_reducible rfl)
        (try simp only [Act.put, pt8])
        refine wpAnyH_done (by kernel_rfl) ?_ _
        clear hHeld x1 z0 y1 c0 c3
        go_wp2
        go_ret
        exact ⟨ret_boolc HF.out.symm, chain HB3.out HX7.out⟩
    · obtain rfl : s.ths.length = k := by omega
      have HT := Lib.hid (over_all HOK.out (fun j h1 h2 => HA.out j h1 h2 h1))
      go_wp2
      go_ret
      exact ⟨ret_boolc HT.out.symm, HB3.out⟩
end Go.Proofs.YtlpjgaeelnlipaaGreat
namespace Go.Proofs.YtlpjgaeelnlipaaGreat
open Go.RowKit
open CodM (St Pg rightP)
open BfM (Wr plc)
open ScM
open SlM
open CrM

theorem pgz_parts {B : Nat} {w : World} {a b : Value} {P : Pg} (h : PgZ B w (.agg #[a, b]) P) : PgM B w a b P ∧ NilZ a := by
  obtain ⟨x, y, e, h1, h2⟩ := h
  injection e with e
  have e1 : a = x := by have := congrArg (fun z => z[0]?) e; simpa using this
  have e2 : b = y := by have := congrArg (fun z => z[1]?) e; simpa using this
  subst e1 e2
  exact ⟨h1, h2.nilz⟩
theorem ints_row {B : Nat} {w : World} {v : Value} {n : Nat} {ks : List Int} (h : w.ownsRow 0 3 1 v n (ks.flatMap nuC)) (hn : n = ks.length) (hB : w.heap.size ≤ B) : Ints B w v ks := by
  subst hn
  exact ints_own h hB
theorem meet_no {a g : List Int} (h : ∀ x ∈ a, has g x = false) : meetB a g = false := by
  unfold meetB
  rw [List.any_eq_false]
  intro x hx
  rw [h x hx]
  simp
set_option maxHeartbeats 16000000 in
set_option maxRecDepth 100000 in
theorem crosslower_any {B : Nat} {v vl : Value} {P : Pg} {l : List (Int × Bool)} {vg : Value} {g : List Int}  (w : World) (hv : PgZ B w v P) (hl : KiR B w vl l) (hg : Ints B w vg g) (hgz : NilZ vg) (hBB : B ≤ w.heap.size) :
    Calls Tryz.prog 4 #[v, vg, vl] w fun e w' => e = .returned (.bool true) ∧ Below w.heap.size w w' := by
  have HPZ := Lib.hid (fun W (hW : Below w.heap.size w W) => (show PgZ W.heap.size W v P from (hv.below (hW.mono hBB)).more (Nat.le_trans hBB hW.size)))
  have HKL := Lib.hid (fun W (hW : Below w.heap.size w W) => (show KiR W.heap.size W vl l from (hl.below (hW.mono hBB)).more (Nat.le_trans hBB hW.size)))
  have HKG := Lib.hid (fun W (hW : Below w.heap.size w W) => (show Ints W.heap.size W vg g from (hg.below (hW.mono hBB)).more (Nat.le_trans hBB hW.size)))
  obtain ⟨pi, pt, rfl, hpm, -⟩ := hv
  obtain ⟨⟨P0, d0, rfl, -⟩, ⟨P1, d1, rfl, l1, l2, l3⟩⟩ := hpm
  obtain ⟨Al, cl, rfl, q1, q2, q0, q3⟩ := hl
  unfold maxLen at l2 q2
  obtain ⟨Ag, cg, rfl, g1, g2, g3⟩ := hg
  unfold maxLen at g2
  have HL3 := Lib.hid l3
  clear l3 q3 q0
  obtain ⟨W2, hW2⟩ : ∃ W, W = w.alloc (.cells #[.slice P0 P.init.length d0, .slice P1 P.ths.length d1] 25) := ⟨_, rfl⟩
  obtain ⟨gp, hgp⟩ : ∃ g, g = w.heap.size := ⟨_, rfl⟩
  have HX := Lib.hid (show BoxC W2 gp 25 #[.slice P0 P.init.length d0, .slice P1 P.ths.length d1] from by rw [hW2, hgp]; exact BoxC.new w _ _)
  have HB := Lib.hid (show Below w.heap.size w W2 from by rw [hW2]; exact below_al (Below.refl _ _) _)
  go_enter Tryz.func4, Tryz.ntmps4
  go_upto_region 1 with fail
  rw [← hW2]
  (try rw [← hgp])
  clear hW2 hgp
  go_wp2_with fail
  refine (head14_any _).mono ?_
  rintro e V1 ⟨rfl, hb⟩
  have HST := Lib.hid hb
  clear hb
  replace HX := Lib.hid (HX.out.below HST.out HX.out.lt)
  replace HB := Lib.hid (chain HB.out HST.out)
  have x0 := HX.out.cell 0 _ rfl
  have x1 := HX.out.cell 1 _ rfl
  go_wp2_with fail
  refine (great14_any _ (HPZ.out _ HB.out).v (HKL.out _ HB.out) (HKG.out _ HB.out) (Nat.le_refl _)).mono ?_
  rintro e V2 ⟨gb, rfl, hg, hb⟩
  replace HST := Lib.hid hb
  clear hb x0 x1
  replace HX := Lib.hid (HX.out.below HST.out HX.out.lt)
  replace HB := Lib.hid (chain HB.out HST.out)
  cases gb
  case true =>
    go_wp2
    go_ret
    exact ⟨rfl, HB.out⟩
  have HSC := Lib.hid (hg rfl).1
  have HRP := Lib.hid (hg rfl).1.r
  have HLE := Lib.hid (hg rfl).2.1
  have HGE := Lib.hid (hg rfl).2.2
  have HN5 := Lib.hid (show l.length ≤ 50000 from Nat.le_trans (hg rfl).2.1 (by decide))
  clear hg
  have x0 := HX.out.cell 0 _ rfl
  have x1 := HX.out.cell 1 _ rfl
  go_wp2_with fail
  refine (rinsert_any (g := g) _ (pgz_parts (HPZ.out _ HB.out)).1 (HKG.out _ HB.out) (Nat.le_refl _) HSC.out (pgz_parts (HPZ.out _ HB.out)).2).mono ?_
  rintro e V4 ⟨u, rfl, hpv, hnz, hb⟩
  have hqz := hpv.z hnz
  clear hpv hnz
  obtain ⟨Q, hQ⟩ : ∃ Q, Q = insP P g := ⟨_, rfl⟩
  rw [← hQ] at hqz
  have HQE := Lib.hid hQ
  clear hQ
  have HRQ := Lib.hid (show rightP Q = true from by rw [HQE.out]; exact right_ins HRP.out HSC.out.f g)
  have HQZ := Lib.hid (fun W (hW : Below V4.heap.size V4 W) => (show PgZ W.heap.size W u Q from (hqz.below hW).more hW.size))
  obtain ⟨qi, qt, rfl, hqm, -⟩ := hqz
  obtain ⟨⟨Q0, e0, rfl, -⟩, ⟨Q1, e1, rfl, -⟩⟩ := hqm
  have HC := Lib.hid (Below.refl V4.heap.size V4)
  replace HST := Lib.hid hb
  clear hb x0 x1
  replace HX := Lib.hid (HX.out.below HST.out HX.out.lt)
  replace HB := Lib.hid (chain HB.out HST.out)
  go_upto_region 5 with fail
  obtain ⟨Z4, hZ⟩ : ∃ W, W = V4.alloc (.cells #[.slice Q0 Q.init.length e0, .slice Q1 Q.ths.length e1] 25) := ⟨_, rfl⟩
  obtain ⟨g4, hg⟩ : ∃ g, g = V4.heap.size := ⟨_, rfl⟩
  have HQ4 := Lib.hid (show BoxC Z4 g4 25 #[.slice Q0 Q.init.length e0, .slice Q1 Q.ths.length e1] from by rw [hZ, hg]; exact BoxC.new V4 _ _)
  replace HST := Lib.hid (show Below V4.heap.size V4 Z4 from by rw [hZ]; exact below_al (Below.refl _ _) _)
  rw [← hZ]
  (try rw [← hg])
  clear hZ hg
  replace HX := Lib.hid (HX.out.below HST.out HX.out.lt)
  replace HB := Lib.hid (chain HB.out HST.out)
  replace HC := Lib.hid (chain HC.out HST.out)
  have x0 := HQ4.out.cell 0 _ rfl
  have x1 := HQ4.out.cell 1 _ rfl
  go_wp2_with fail
  refine (rrun13_any (l := l) true _ (HQZ.out _ HC.out) (HKL.out _ HB.out) (Nat.le_refl _) HRQ.out HN5.out).mono ?_
  rintro e V6 ⟨vm, vt, ps6, rfl, hos, hb⟩
  obtain ⟨⟨s6, n6, a6⟩, hr6⟩ : ∃ r, r = runS Q true (beg Q) (l) := ⟨_, rfl⟩
  have HR6 := Lib.hid hr6.symm
  rw [← hr6] at hos ⊢
  clear hr6
  dsimp only at hos ⊢
  obtain ⟨A6, c6, rfl⟩ := own_slice hos.mem
  obtain ⟨B6, e6, rfl⟩ := own_slice hos.ths
  obtain ⟨m6, hm6⟩ : ∃ m, m = s6.mem.length := ⟨_, rfl⟩
  obtain ⟨k6, hk6⟩ : ∃ m, m = s6.ths.length := ⟨_, rfl⟩
  have HM6 := Lib.hid hm6
  have HK6 := Lib.hid hk6
  rw [← hm6, ← hk6] at hos ⊢
  have HO6 := Lib.hid (show OwnSt 0 V6 (.slice A6 m6 c6) (.slice B6 k6 e6) s6 ps6 from hos.base (Nat.zero_le _))
  replace HST := Lib.hid hb
  clear hos hb hm6 hk6 x0 x1
  replace HX := Lib.hid (HX.out.below HST.out HX.out.lt)
  replace HQ4 := Lib.hid (HQ4.out.below HST.out HQ4.out.lt)
  replace HB := Lib.hid (chain HB.out HST.out)
  replace HC := Lib.hid (chain HC.out HST.out)
  go_upto_region 6 with fail
  obtain ⟨Z6, hZ⟩ : ∃ W, W = V6.alloc (.cells #[.slice A6 m6 c6, .slice B6 k6 e6] 39) := ⟨_, rfl⟩
  obtain ⟨g6, hg⟩ : ∃ g, g = V6.heap.size := ⟨_, rfl⟩
  have HQ6 := Lib.hid (show BoxC Z6 g6 39 #[.slice A6 m6 c6, .slice B6 k6 e6] from by rw [hZ, hg]; exact BoxC.new V6 _ _)
  replace HST := Lib.hid (show Below V6.heap.size V6 Z6 from by rw [hZ]; exact below_al (Below.refl _ _) _)
  rw [← hZ]
  (try rw [← hg])
  clear hZ hg
  replace HX := Lib.hid (HX.out.below HST.out HX.out.lt)
  replace HQ4 := Lib.hid (HQ4.out.below HST.out HQ4.out.lt)
  replace HO6 := Lib.hid (HO6.out.below HST.out)
  replace HB := Lib.hid (chain HB.out HST.out)
  replace HC := Lib.hid (chain HC.out HST.out)
  have x0 := HX.out.cell 0 _ rfl
  have x1 := HX.out.cell 1 _ rfl
  go_wp2_with fail
  refine (crlower_any (g := g) _ (HPZ.out _ HB.out) (HKG.out _ HB.out) (HKL.out _ HB.out) (Nat.le_refl _) HRP.out (by rw [← HQE.out]; exact HRQ.out) HN5.out (by have := HGE.out; omega) HSC.out.jmp).mono ?_
  rintro e V8 ⟨A8, c8, r8, ks, rfl, hks, hr, hrl, ho, hb⟩
  rw [← HQE.out, HR6.out] at hr
  rw [← HQE.out, HR6.out]
  dsimp only at hr ⊢
  have HKS := Lib.hid hks
  have HR8 := Lib.hid hr
  have HN8 := Lib.hid (show r8.length ≤ 50000 from by have := HLE.out; omega)
  clear hks hr hrl x0 x1
  obtain ⟨m8, hm8⟩ : ∃ m, m = r8.length := ⟨_, rfl⟩
  have HM8 := Lib.hid hm8
  have HW8 := Lib.hid (show V8.ownsRow 0 53 2 (.slice A8 m8 c8) m8 (r8.flatMap kiC) from by rw [hm8]; exact own_base ho (Nat.zero_le _))
  rw [← hm8]
  replace HST := Lib.hid hb
  clear ho hb hm8
  replace HX := Lib.hid (HX.out.below HST.out HX.out.lt)
  replace HQ4 := Lib.hid (HQ4.out.below HST.out HQ4.out.lt)
  replace HQ6 := Lib.hid (HQ6.out.below HST.out HQ6.out.lt)
  replace HO6 := Lib.hid (HO6.out.below HST.out)
  replace HB := Lib.hid (chain HB.out HST.out)
  replace HC := Lib.hid (chain HC.out HST.out)
  have HKW8 := Lib.hid (fun W (h : W.ownsRow 0 53 2 (.slice A8 m8 c8) m8 (r8.flatMap kiC)) => show KiR W.heap.size W (.slice A8 m8 c8) r8 from Rw.own (by rw [← HM8.out]; exact h) (Nat.le_refl _))
  go_upto_region 7 with fail
  cases a6
  case false =>
    have hm8 : m8 = 0 := by rw [HM8.out, show r8 = [] from HR8.out]; rfl
    subst hm8
    go_wp2
    go_ret
    exact ⟨rfl, HB.out⟩
  have HLR := Lib.hid (show ∃ s1', runS P true (beg P) r8 = (s1', r8.length, true) ∧ LoSt P g s6 s1' ∧ ∀ y ∈ wysS P (beg P) r8, y.2.2 = true → has g y.2.1 = false from by
    have h := lower_run HRP.out HKS.out (l := l) (by rw [← HQE.out, HR6.out])
    rw [← HQE.out, HR6.out] at h
    dsimp only at h
    rw [show r8 = (wysS Q (beg Q) l).flatMap (loF (ldaK ks ks.length)) from HR8.out]
    exact h)
  go_upto_region 11 with fail
  have x0 := HX.out.cell 0 _ rfl
  have x1 := HX.out.cell 1 _ rfl
  go_wp2_with fail
  refine (rrun13_any (l := r8) true _ (HPZ.out _ HB.out) (HKW8.out _ HW8.out) (Nat.le_refl _) HRP.out HN8.out).mono ?_
  rintro e V11 ⟨vm, vt, ps11, rfl, hos, hb⟩
  obtain ⟨⟨s11, n11, a11⟩, hr11⟩ : ∃ r, r = runS P true (beg P) (r8) := ⟨_, rfl⟩
  have HR11 := Lib.hid hr11.symm
  rw [← hr11] at hos ⊢
  clear hr11
  dsimp only at hos ⊢
  obtain ⟨A11, c11, rfl⟩ := own_slice hos.mem
  obtain ⟨B11, e11, rfl⟩ := own_slice hos.ths
  obtain ⟨m11, hm11⟩ : ∃ m, m = s11.mem.length := ⟨_, rfl⟩
  obtain ⟨k11, hk11⟩ : ∃ m, m = s11.ths.length := ⟨_, rfl⟩
  have HM11 := Lib.hid hm11
  have HK11 := Lib.hid hk11
  rw [← hm11, ← hk11] at hos ⊢
  have HO11 := Lib.hid (show OwnSt 0 V11 (.slice A11 m11 c11) (.slice B11 k11 e11) s11 ps11 from hos.base (Nat.zero_le _))
  replace HST := Lib.hid hb
  clear hos hb hm11 hk11 x0 x1
  replace HX := Lib.hid (HX.out.below HST.out HX.out.lt)
  replace HQ4 := Lib.hid (HQ4.out.below HST.out HQ4.out.lt)
  replace HQ6 := Lib.hid (HQ6.out.below HST.out HQ6.out.lt)
  replace HW8 := Lib.hid (own_below HW8.out HST.out)
  replace HO6 := Lib.hid (HO6.out.below HST.out)
  replace HB := Lib.hid (chain HB.out HST.out)
  replace HC := Lib.hid (chain HC.out HST.out)
  go_upto_region 12 with fail
  obtain ⟨Z11, hZ⟩ : ∃ W, W = V11.alloc (.cells #[.slice A11 m11 c11, .slice B11 k11 e11] 39) := ⟨_, rfl⟩
  obtain ⟨g11, hg⟩ : ∃ g, g = V11.heap.size := ⟨_, rfl⟩
  have HQ11 := Lib.hid (show BoxC Z11 g11 39 #[.slice A11 m11 c11, .slice B11 k11 e11] from by rw [hZ, hg]; exact BoxC.new V11 _ _)
  replace HST := Lib.hid (show Below V11.heap.size V11 Z11 from by rw [hZ]; exact below_al (Below.refl _ _) _)
  rw [← hZ]
  (try rw [← hg])
  clear hZ hg
  replace HX := Lib.hid (HX.out.below HST.out HX.out.lt)
  replace HQ4 := Lib.hid (HQ4.out.below HST.out HQ4.out.lt)
  replace HQ6 := Lib.hid (HQ6.out.below HST.out HQ6.out.lt)
  replace HW8 := Lib.hid (own_below HW8.out HST.out)
  replace HO6 := Lib.hid (HO6.out.below HST.out)
  replace HO11 := Lib.hid (HO11.out.below HST.out)
  replace HB := Lib.hid (chain HB.out HST.out)
  replace HC := Lib.hid (chain HC.out HST.out)
  have HLS := Lib.hid (show a11 = true ∧ LoSt P g s6 s11 ∧ ∀ y ∈ wysS P (beg P) r8, y.2.2 = true → has g y.2.1 = false from by
    obtain ⟨s1', h1, h2, h3⟩ := HLR.out
    rw [HR11.out] at h1
    injection h1 with e1 e2
    injection e2 with _ e2
    subst e1
    exact ⟨e2, h2, h3⟩)
  have ha11 := HLS.out.1
  subst ha11
  have HMM := Lib.hid (show s6.mem = s11.mem from HLS.out.2.1.mem)
  have HTT := Lib.hid (show s6.ths.length = P.ths.length ∧ s11.ths.length = P.ths.length from ⟨HLS.out.2.1.len, HLS.out.2.1.len'⟩)
  have hm11 : m6 = m11 := by rw [HM6.out, HM11.out, HMM.out]
  have hk11 : k6 = k11 := by rw [HK6.out, HK11.out, HTT.out.1, HTT.out.2]
  subst hm11
  subst hk11
  clear HLR
  have x0 := HX.out.cell 0 _ rfl
  have x1 := HX.out.cell 1 _ rfl
  go_wp2_with fail
  refine (crcross_any _ (HPZ.out _ HB.out) (HKW8.out _ HW8.out) (Nat.le_refl _) HRP.out HN8.out).mono ?_
  rintro e V12 ⟨A12, n12, c12, k2, rfl, hks, ho, hkl, hb⟩
  obtain ⟨Ae, ce, hAe⟩ := own_slice ho
  injection hAe with e1 e2 e3
  subst e1 e3
  rw [HR11.out] at hks ⊢
  dsimp only at hks ⊢
  have HK12 := Lib.hid e2
  have HMT := Lib.hid (show meetB k2 g = false from meet_no fun x hx => by
    have h1 := ((show RisF (crF (wysS P (beg P) r8)) k2 from hks).2 x).1 hx
    unfold crF at h1
    obtain ⟨y, hy, hc⟩ := List.any_eq_true.1 h1
    simp only [Bool.and_eq_true, decide_eq_true_eq] at hc
    rw [hc.2]
    exact HLS.out.2.2 y hy hc.1)
  have HW12 := Lib.hid (show V12.ownsRow 0 3 1 (.slice A12 n12 c12) n12 (k2.flatMap nuC) from by have h := own_base ho (Nat.zero_le _); unfold OwnI at h; rwa [← e2] at h)
  replace HST := Lib.hid hb
  clear hks ho hkl hb x0 x1 e2
  replace HX := Lib.hid (HX.out.below HST.out HX.out.lt)
  replace HQ4 := Lib.hid (HQ4.out.below HST.out HQ4.out.lt)
  replace HQ6 := Lib.hid (HQ6.out.below HST.out HQ6.out.lt)
  replace HQ11 := Lib.hid (HQ11.out.below HST.out HQ11.out.lt)
  replace HW8 := Lib.hid (own_below HW8.out HST.out)
  replace HO6 := Lib.hid (HO6.out.below HST.out)
  replace HO11 := Lib.hid (HO11.out.below HST.out)
  replace HB := Lib.hid (chain HB.out HST.out)
  replace HC := Lib.hid (chain HC.out HST.out)
  go_upto_region 13 with fail
  go_wp2_with fail
  refine (rmeet_any _ (ints_row HW12.out HK12.out (Nat.le_refl _)) (HKG.out _ HB.out) (Nat.le_refl _)).mono ?_
  rintro e V13 ⟨rfl, rfl⟩
  rw [HMT.out]
  have y0 := HQ6.out.cell 0 _ rfl
  have z0 := HQ11.out.cell 0 _ rfl
  have hi6 : IntR V12.heap.size V12 (.slice A6 m6 c6) s6.mem := (HO6.out.read (Nat.le_refl _)).1
  have hi11 : IntR V12.heap.size V12 (.slice A11 m6 c11) s6.mem := by rw [HMM.out]; exact (HO11.out.read (Nat.le_refl _)).1
  go_wp2_with fail
  refine (nsame_any _ hi6 hi11 (Nat.le_refl _)).mono ?_
  rintro e V14 ⟨rfl, hb⟩
  replace HST := Lib.hid hb
  clear hb y0 z0 hi6 hi11
  replace HX := Lib.hid (HX.out.below HST.out HX.out.lt)
  replace HQ4 := Lib.hid (HQ4.out.below HST.out HQ4.out.lt)
  replace HQ6 := Lib.hid (HQ6.out.below HST.out HQ6.out.lt)
  replace HQ11 := Lib.hid (HQ11.out.below HST.out HQ11.out.lt)
  replace HW8 := Lib.hid (own_below HW8.out HST.out)
  replace HW12 := Lib.hid (own_below HW12.out HST.out)
  replace HO6 := Lib.hid (HO6.out.below HST.out)
  replace HO11 := Lib.hid (HO11.out.below HST.out)
  replace HB := Lib.hid (chain HB.out HST.out)
  replace HC := Lib.hid (chain HC.out HST.out)
  have y1 := HQ6.out.cell 1 _ rfl
  have z1 := HQ11.out.cell 1 _ rfl
  go_wp2
  clear y1 z1
  have hk3 : k6 ≤ 3 := by rw [HK6.out, HTT.out.1]; exact (right_ths HRP.out).2.2.1
  have HT6 := Lib.hid (show ThR V14.heap.size V14 (.slice B6 k6 e6) s6.ths from (HO6.out.read (Nat.le_refl _)).2)
  have HT11 := Lib.hid (show ThR V14.heap.size V14 (.slice B11 k6 e11) s11.ths from (HO11.out.read (Nat.le_refl _)).2)
  go_loopw [19] (fun i wr => ∃ k : Nat, k ≤ k6 ∧ i = .int .i64 k ∧ Below V14.heap.size V14 wr) (fun i _ => k6 - (intOf i).toNat)
  case atStart => exact ⟨0, Nat.zero_le _, rfl, Below.refl _ _⟩
  case round =>
    obtain ⟨k, hk, rfl, hY⟩ := hrel
    have HY := Lib.hid hY
    have HX9 := Lib.hid (HX.out.below hY HX.out.lt)
    have H69 := Lib.hid (HQ6.out.below hY HQ6.out.lt)
    have H119 := Lib.hid (HQ11.out.below hY HQ11.out.lt)
    have H49 := Lib.hid (HQ4.out.below hY HQ4.out.lt)
    have HB9 := Lib.hid (chain HB.out hY)
    have HC9 := Lib.hid (chain HC.out hY)
    have HO69 := Lib.hid (HO6.out.below hY)
    have HO119 := Lib.hid (HO11.out.below hY)
    clear hY
    by_cases hlt : k < k6
    case neg =>
      obtain rfl : k6 = k := by omega
      have HPP := Lib.hid (show OkSt Q s6 ∧ OkSt P s11 from by
        have h1 := runS_ok HRQ.out (wk := true) l (beg_ok Q)
        have h2 := runS_ok HRP.out (wk := true) r8 (beg_ok P)
        rw [HR6.out] at h1
        rw [HR11.out] at h2
        exact ⟨h1, h2⟩)
      have HVV := Lib.hid (show overB Q s6 = overB P s11 from by rw [HQE.out]; exact lo_over HLS.out.2.1)
      have y0 := H69.out.cell 0 _ rfl
      have y1 := H69.out.cell 1 _ rfl
      have x0 := H49.out.cell 0 _ rfl
      have x1 := H49.out.cell 1 _ rfl
      go_wp2_with fail
      refine (rover_any _ (HQZ.out _ HC9.out).v HO69.out.sv (Nat.le_refl _) HRQ.out HPP.out.1).mono ?_
      rintro e V20 ⟨rfl, hb⟩
      rw [HVV.out]
      have HXa := Lib.hid (HX9.out.below hb HX9.out.lt)
      have H11a := Lib.hid (H119.out.below hb H119.out.lt)
      have HBa := Lib.hid (chain HB9.out hb)
      have HOa := Lib.hid (HO119.out.below hb)
      clear y0 y1 x0 x1 hb
      obtain ⟨ov, hov⟩ : ∃ b, b = overB P s11 := ⟨_, rfl⟩
      rw [← hov]
      have HOV := Lib.hid hov
      clear hov
      cases ov
      case false =>
        go_wp2
        go_ret
        exact ⟨rfl, HBa.out⟩
      have x0 := HXa.out.cell 0 _ rfl
      have x1 := HXa.out.cell 1 _ rfl
      have z0 := H11a.out.cell 0 _ rfl
      have z1 := H11a.out.cell 1 _ rfl
      go_wp2_with fail
      refine (rover_any _ (HPZ.out _ HBa.out).v HOa.out.sv (Nat.le_refl _) HRP.out HPP.out.2).mono ?_
      rintro e V21 ⟨rfl, hb⟩
      rw [← HOV.out]
      have HBb := Lib.hid (chain HBa.out hb)
      clear x0 x1 z0 z1 hb
      go_wp2
      go_ret
      exact ⟨rfl, HBb.out⟩
    have hl6 : k < s6.ths.length := by have := HK6.out; omega
    have hl11 : k < s11.ths.length := by have := HK11.out; omega
    have hlp : k < P.ths.length := by have := HTT.out.1; omega
    have HTH := Lib.hid (show s6.ths[k].regs = s11.ths[k].regs ∧ s6.ths[k].eq = s11.ths[k].eq ∧ s6.ths[k].buf = s11.ths[k].buf from by
      obtain ⟨i, a, -, -, -, er, ee, eb⟩ := HLS.out.2.1.th k hl6 hl11 hlp
      exact ⟨er, ee, eb⟩)
    obtain ⟨A66, c66, hA, g1, g2, -, g3⟩ := HT6.out
    injection hA with a1 a2 a3
    subst a1 a3
    obtain ⟨A77, c77, hA, g4, g5, -, g6⟩ := HT11.out
    injection hA with a1 a4 a3
    subst a1 a3
    unfold maxLen at g2 g5
    obtain ⟨b1, f1, rfl, hb1, hc1⟩ := g3 (by omega)
    obtain ⟨b2, f2, rfl, hb2, hc2⟩ := g6 (by omega)
    obtain ⟨vr, vb, p0, p1, p2, p3, hr, hbb⟩ := (hc1 k hl6).below HY.out hb1
    obtain ⟨ur, ub, r0, r1, r2, r3, ir, ib⟩ := (hc2 k hl11).below HY.out hb2
    rw [HTH.out.1] at hr
    rw [HTH.out.2.2] at hbb
    rw [HTH.out.2.1] at p2
    obtain ⟨x, hx⟩ : ∃ x, x = s11.ths[k] := ⟨_, rfl⟩
    obtain ⟨xa, hxa⟩ : ∃ x, x = s6.ths[k].at' := ⟨_, rfl⟩
    rw [← hx] at p2 hr hbb r0 r2 ir ib
    rw [← hxa] at p0
    have HTX := Lib.hid (fun W (hW : Below wr.heap.size wr W) => sameth_any W (show ThV W.heap.size W (.agg #[.int .i64 x.at', vr, .bool x.eq, vb]) x from ⟨_, _, rfl, (hr.below (hW.mono HY.out.size)).more (Nat.le_trans HY.out.size hW.size), (hbb.below (hW.mono HY.out.size)).more (Nat.le_trans HY.out.size hW.size)⟩)
      (show ThV W.heap.size W (.agg #[.int .i64 x.at', ur, .bool x.eq, ub]) x from ⟨_, _, rfl, (ir.below (hW.mono HY.out.size)).more (Nat.le_trans HY.out.size hW.size), (ib.below (hW.mono HY.out.size)).more (Nat.le_trans HY.out.size hW.size)⟩) (Nat.le_refl _))
    obtain ⟨A3, c3, rfl, -⟩ := hr
    obtain ⟨A4, c4, rfl, -⟩ := hbb
    obtain ⟨A5, c5, rfl, -⟩ := ir
    obtain ⟨A9, c9, rfl, -⟩ := ib
    clear hx hxa hc1 hc2 g3 g6 a2 a4 hl6 hl11 hlp HTH
    obtain ⟨nr, hnr⟩ : ∃ n, n = x.regs.length := ⟨_, rfl⟩
    obtain ⟨nb, hnb⟩ : ∃ n, n = x.buf.length := ⟨_, rfl⟩
    rw [← hnr] at p1 r1 HTX
    rw [← hnb] at p3 r3 HTX
    clear hnr hnb
    have y1 := H69.out.cell 1 _ rfl
    go_upto_region 19 with fail
    obtain ⟨Z, hZ⟩ : ∃ W, W = wr.alloc (.cells #[.int .i64 xa, .slice A3 nr c3, .bool x.eq, .slice A4 nb c4] 44) := ⟨_, rfl⟩
    obtain ⟨g18, hg⟩ : ∃ g, g = wr.heap.size := ⟨_, rfl⟩
    have HQ18 := Lib.hid (show BoxC Z g18 44 #[.int .i64 xa, .slice A3 nr c3, .bool x.eq, .slice A4 nb c4] from by rw [hZ, hg]; exact BoxC.new wr _ _)
    have HBZ := Lib.hid (show Below wr.heap.size wr Z from by rw [hZ]; exact below_al (Below.refl _ _) _)
    have HGZ := Lib.hid (show wr.heap.size ≤ g18 from by omega)
    rw [← hZ]
    (try rw [← hg])
    clear hZ hg p0 p1 p2 p3 y1
    have hbw1 := Nat.lt_of_lt_of_le hb2 HY.out.size
    have R0 := Lib.hid r0
    have R1 := Lib.hid r1
    have R2 := Lib.hid r2
    have R3 := Lib.hid r3
    replace r0 := (HBZ.out.cell (p := ⟨b2, f2 + k * 4, none⟩) hbw1).trans r0
    replace r1 := (HBZ.out.cell (p := ⟨b2, f2 + k * 4 + 1, none⟩) hbw1).trans r1
    replace r2 := (HBZ.out.cell (p := ⟨b2, f2 + k * 4 + 2, none⟩) hbw1).trans r2
    replace r3 := (HBZ.out.cell (p := ⟨b2, f2 + k * 4 + 3, none⟩) hbw1).trans r3
    have HZ11 := Lib.hid (H119.out.below HBZ.out H119.out.lt)
    have z1 := HZ11.out.cell 1 _ rfl
    have q0 := HQ18.out.cell 0 _ rfl
    have u0 := HQ18.out.frozen 0
    go_upto_region 20 with fail
    clear q0 u0 z1 r0 r1 r2 r3
    obtain ⟨Z2, hZ⟩ : ∃ W, W = Z.setCell ⟨g18, 0, none⟩ (.int .i64 x.at') := ⟨_, rfl⟩
    have HQ19 := Lib.hid (show BoxC Z2 g18 44 #[.int .i64 x.at', .slice A3 nr c3, .bool x.eq, .slice A4 nb c4] from by rw [hZ]; exact HQ18.out.set 0 _)
    have HB2Z := Lib.hid (show Below wr.heap.size wr Z2 from by rw [hZ]; exact HBZ.out.setCell (p := ⟨g18, 0, none⟩) HGZ.out _)
    have HKC := Lib.hid (fun j => HB2Z.out.cell (p := ⟨b2, f2 + k * 4 + j, none⟩) hbw1)
    rw [← hZ]
    clear hZ
    have hlt18 : b2 < g18 := Nat.lt_of_lt_of_le hbw1 HGZ.out
    have HZ2B := Lib.hid (H119.out.below HB2Z.out H119.out.lt)
    have z1 := HZ2B.out.cell 1 _ rfl
    have q0 := HQ19.out.cell 0 _ rfl
    have q1 := HQ19.out.cell 1 _ rfl
    have q2 := HQ19.out.cell 2 _ rfl
    have q3 := HQ19.out.cell 3 _ rfl
    have s0 := (HKC.out 0).trans R0.out
    have s1 := (HKC.out 1).trans R1.out
    have s2 := (HKC.out 2).trans R2.out
    have s3 := (HKC.out 3).trans R3.out
    rw [show f2 + k * 4 + 0 = f2 + k * 4 from rfl] at s0
    clear R0 R1 R2 R3 HKC
    clear HT6 HT11 HO6 HO11 HW8 HW12
    go_cut [122] (fun va wx => va = .bool false ∧ Below wr.heap.size wr wx)
    case first =>
      refine wp_region_held_drew (S := (fun w' => (w'.cell? ⟨g18, 0, none⟩ = some (.int .i64 x.at') ∧ w'.cell? ⟨g18, 1, none⟩ = some (.slice A3 nr c3) ∧ w'.cell? ⟨g18, 2, none⟩ = some (.bool x.eq) ∧ w'.cell? ⟨g18, 3, none⟩ = some (.slice A4 nb c4) ∧ w'.cell? ⟨g11, 1, none⟩ = some (.slice (some ⟨b2, f2, none⟩) k6 e11) ∧ w'.cell? ⟨b2, f2 + k * 4, none⟩ = some (.int .i64 x.at') ∧ w'.cell? ⟨b2, f2 + k * 4 + 1, none⟩ = some (.slice A5 nr c5) ∧ w'.cell? ⟨b2, f2 + k * 4 + 2, none⟩ = some (.bool x.eq) ∧ w'.cell? ⟨b2, f2 + k * 4 + 3, none⟩ = some (.slice A9 nb c9) ∧ True) ∧ Below wr.heap.size wr w')) (by kernel_rfl) ⟨⟨q0, q1, q2, q3, z1, s0, s1, s2, s3, trivial⟩, below_drewN HB2Z.out 1⟩ (fun hHeld => ?_)
      refine wtk 0 ?_ ?_ ?_
      rotate_left
      · intro w hSw; (try dsimp only at hSw); go_simp; (try with_reducible rfl)
      (try simp only [Act.put, pt8])
      refine wtk 1 ?_ ?_ ?_
      rotate_left
      · intro w hSw; (try dsimp only at hSw); go_simp; (try with_reducible rfl)
      (try simp only [Act.put, pt8])
      refine wtk 2 ?_ ?_ ?_
      rotate_left
      · intro w hSw; (try dsimp only at hSw); go_simp; (try with_reducible rfl)
      (try simp only [Act.put, pt8])
      refine wtk 3 ?_ ?_ ?_
      rotate_left
      · intro w hSw; (try dsimp only at hSw); go_simp; (try with_reducible rfl)
      (try simp only [Act.put, pt8])
      refine wtk 4 ?_ ?_ ?_
      rotate_left
      · intro w hSw; (try dsimp only at hSw); go_simp; (try with_reducible rfl)
      (try simp only [Act.put, pt8])
      refine wtk 5 ?_ ?_ ?_
      rotate_left
      · intro w hSw; (try dsimp only at hSw); go_simp; (try with_reducible rfl)
      (try simp only [Act.put, pt8])
      refine wpAnyH_ready (rs := [6]) (by kernel_rfl) (by simp) ?_
      refine AllReadyH.cons rfl (fun K hK => ?_) AllReadyH.nil
      go_simp
      refine (HTX.out _ hHeld.2).mono ?_
      rintro e Xc ⟨rfl, hb⟩
      have HBC := Lib.hid (chain hHeld.2 hb)
      refine hK.out _ _ ⟨⟨kc hb hHeld.1.1, kc hb hHeld.1.2.1, kc hb hHeld.1.2.2.1, kc hb hHeld.1.2.2.2.1, kc hb hHeld.1.2.2.2.2.1, kc hb hHeld.1.2.2.2.2.2.1, kc hb hHeld.1.2.2.2.2.2.2.1, kc hb hHeld.1.2.2.2.2.2.2.2.1, kc hb hHeld.1.2.2.2.2.2.2.2.2.1, trivial⟩, HBC.out⟩ (fun hHeld => ?_)
      clear hb
      clear hK K
      (try simp only [Act.put, pt8])
      refine wtk 7 ?_ ?_ ?_
      rotate_left
      · intro w hSw; (try dsimp only at hSw); go_simp; (try with_reducible rfl)
      (try simp only [Act.put, pt8])
      refine wpAnyH_done (by kernel_rfl) ?_ _
      clear hHeld
      go_wp2_with fail
      go_meet
      exact ⟨rfl, HBC.out⟩
    case rest =>
    obtain ⟨rfl, hb⟩ := hcut
    have HYY := Lib.hid (chain HY.out hb)
    clear hb q0 q1 q2 q3 z1 s0 s1 s2 s3
    go_wp2
    go_roundw
    case rel => exact ⟨k + 1, by omega, by go_num, HYY.out⟩
    case measure => simp [intOf]; omega
end Go.Proofs.YtlpjgaeelnlipaaGreat
