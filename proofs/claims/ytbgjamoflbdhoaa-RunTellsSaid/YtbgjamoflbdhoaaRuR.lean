/-
  LAYER 13: THE DOCUMENT's Strict.
-/
import Derived.Test.YtbgjamoflbdhoaaK26
import Derived.Test.YtbgjamoflbdhoaaK37
import Derived.Test.YtbgjamoflbdhoaaScAt
import Derived.Deep.RegionHeld3
import Derived.Deep.DeepCutAuto
namespace Go.Proofs.Ytbgjamoflbdhoaa
open Go.RowKit
set_option linter.unusedVariables false
set_option linter.unusedSimpArgs false
open CodM (St Pg rightP)
open BfM (Wr plc)
open ScM

theorem atV_is (P : Pg) (s : Sta) (t : Int) : ∃ x b, atV P s t = .tuple #[.agg #[.int .i64 x.op, .int .i64 x.reg, .int .i64 x.loc, .int .i64 x.n, .int .i64 x.to], .bool b] ∧ ∀ y, atS P s t = some y → x = y := by
  unfold atV
  cases h : atS P s t with
  | none => exact ⟨⟨0, 0, 0, 0, 0⟩, false, rfl, fun y e => (by cases e)⟩
  | some y => exact ⟨y, true, rfl, fun z e => by injection e⟩
theorem OwnSt.app {base b n : Nat} {w w' : World} {vm vt v : Value} {s : Sta} {ps : List TV} {xs : List Value} (h : OwnSt base w vm vt s ps) (hr : w.ownsRow b 47 2 v n xs) (hg : w.grownBy w' v.ownBlock) : OwnSt base w' vm vt s ps :=
  ⟨own_grown (by decide) h.mem hr hg, own_grown (by decide) h.ths hr hg, h.eq, fun p hp => ⟨own_grown (by decide) (h.each p hp).1 hr hg, own_grown (by decide) (h.each p hp).2.1 hr hg, (h.each p hp).2.2⟩, h.ap⟩
theorem rst_at {P : Pg} {s s' : Sta} {t : Int} {d : Bool} (h : rst P s t d false = some s') : ∃ y, atS P s t = some y := by
  obtain ⟨_, k, rfl, h1, h2, h3, ha, _⟩ := rst_strict h
  exact ⟨_, ha⟩
theorem ki_new (w : World) (t : Int) (d : Bool) : ∀ j u, ([.int .i64 t, .bool d] : List Value)[j]? = some u → (w.alloc (.cells #[.int .i64 t, .bool d] 47)).cell? ((⟨w.heap.size, 0, none⟩ : Addr).add j) = some u := by
  intro j u hj
  rw [show ((⟨w.heap.size, 0, none⟩ : Addr).add j) = ⟨w.heap.size, j, none⟩ by simp [Addr.add]; intro e; exact e.symm]
  rw [World.cell?_alloc_at _ _ _ _ rfl]
  simpa using hj
set_option maxHeartbeats 16000000 in
set_option maxRecDepth 100000 in
theorem rstrict13_any {B : Nat} {v vl : Value} {P : Pg} {l : List (Int × Bool)} (w : World) (hv : PgZ B w v P) (hl : KiR B w vl l) (hBB : B ≤ w.heap.size) (hp : rightP P = true) (hn : l.length ≤ 50000) :
    Calls Try.prog 16 #[v, vl] w (StRetK P l w) := by
  have HP := Lib.hid (fun W (hW : Below w.heap.size w W) => (show PgZ W.heap.size W v P from (hv.below (hW.mono hBB)).more (Nat.le_trans hBB hW.size)))
  have HSP := Lib.hid (fun k => show OkSt P (runS P false (beg P) (l.take k)).1 ∧ WideS (runS P false (beg P) (l.take k)).1 from ⟨runS_ok hp _ (beg_ok P), wide_run hp false (l.take k) (by rw [List.length_take]; omega) (by decide)⟩)
  have HRP := Lib.hid hp
  have HNN := Lib.hid hn
  clear hp
  obtain ⟨i0, hi, hz0, hz1, hz2⟩ := info_parts info_pk
  obtain ⟨pi, pt, rfl, hpm, -⟩ := hv
  obtain ⟨⟨P0, d0, rfl, -⟩, ⟨P1, d1, rfl, -⟩⟩ := hpm
  obtain ⟨Al, cl, rfl, hl1, hl2, -, hl3⟩ := hl
  have HL3 := Lib.hid (ki_at (c := cl) hl3)
  unfold maxLen at hl2
  clear hl3
  obtain ⟨W2, hW2⟩ : ∃ W, W = w.alloc (.cells #[.slice P0 P.init.length d0, .slice P1 P.ths.length d1] 25) := ⟨_, rfl⟩
  obtain ⟨gp, hgp⟩ : ∃ g, g = w.heap.size := ⟨_, rfl⟩
  have HX := Lib.hid (show BoxC W2 gp 25 #[.slice P0 P.init.length d0, .slice P1 P.ths.length d1] from by rw [hW2, hgp]; exact BoxC.new w _ _)
  have HB2 := Lib.hid (show Below w.heap.size w W2 from by rw [hW2]; exact below_al (Below.refl _ _) _)
  go_enter Try.func16, Try.ntmps16
  go_upto_region 1 with fail
  rw [← hW2]
  (try rw [← hgp])
  clear hW2 hgp
  have x0 := HX.out.cell 0 _ rfl
  have x1 := HX.out.cell 1 _ rfl
  go_wp2_with fail
  refine (rbegin_any _ (HP.out _ HB2.out) (Nat.le_refl _) HRP.out).mono ?_
  rintro e V1 ⟨vm, vt, ps, rfl, hos, hb⟩
  obtain ⟨Am, cm, rfl⟩ := own_slice hos.mem
  obtain ⟨Av, cv, rfl⟩ := own_slice hos.ths
  obtain ⟨m1, hm1⟩ : ∃ n, n = (beg P).mem.length := ⟨_, rfl⟩
  obtain ⟨m2, hm2⟩ : ∃ n, n = (beg P).ths.length := ⟨_, rfl⟩
  rw [← hm1, ← hm2] at hos ⊢
  have HO := Lib.hid hos
  have HBb := Lib.hid hb
  clear hos hb hm1 hm2 x0 x1
  go_upto_region 2 with fail
  obtain ⟨X2, hX2⟩ : ∃ W, W = V1.alloc (.cells #[.slice Am m1 cm, .slice Av m2 cv] 31) := ⟨_, rfl⟩
  obtain ⟨g6, hg6⟩ : ∃ g, g = V1.heap.size := ⟨_, rfl⟩
  have H6 := Lib.hid (show BoxC X2 g6 31 #[.slice Am m1 cm, .slice Av m2 cv] from by rw [hX2, hg6]; exact BoxC.new V1 _ _)
  have HX2 := Lib.hid (show Below V1.heap.size V1 X2 from by rw [hX2]; exact below_al (Below.refl _ _) _)
  have HG6 := Lib.hid (show W2.heap.size ≤ g6 from by rw [hg6]; exact HBb.out.size)
  rw [← hX2]
  (try rw [← hg6])
  clear hX2 hg6
  have HO2 := Lib.hid (HO.out.below HX2.out)
  have HBc := Lib.hid (chain HBb.out HX2.out)
  go_wp2
  go_loopw [7, 8] (fun o i wr => ∃ (k : Nat) (s : Sta) (r : List (Int × Bool)) (Ar : Option Addr) (nr cr : Nat) (A4 : Option Addr) (n4 c4 : Nat) (B4 : Option Addr) (m4 k4 : Nat) (ps : List TV), i = .int .i64 k ∧ o = .slice Ar nr cr ∧ k ≤ l.length ∧ nr = r.length ∧ nr ≤ 2 * k ∧ runS P false (beg P) (l.take k) = (s, k, true) ∧ strS P (beg P) (l.take k) = some r ∧ BoxC wr g6 31 #[.slice A4 n4 c4, .slice B4 m4 k4] ∧ OwnSt W2.heap.size wr (.slice A4 n4 c4) (.slice B4 m4 k4) s ps ∧ wr.ownsRow W2.heap.size 47 2 (.slice Ar nr cr) nr (r.flatMap kiC) ∧ Below W2.heap.size W2 wr) (fun _ i _ => l.length - (intOf i).toNat)
  case atStart => exact ⟨0, beg P, [], none, 0, 0, _, _, _, _, _, _, _, rfl, rfl, Nat.zero_le _, rfl, Nat.zero_le _, by rw [List.take_zero]; rfl, by rw [List.take_zero]; rfl, H6.out, HO2.out, World.ownsRow_nil _ _ _ _, HBc.out⟩
  case round =>
    clear H6 HO HO2 HBb HBc HX2
    obtain ⟨k, s, r, Ar, nr, cr, A4, n4, c4, B4, m4, k4, ps, rfl, rfl, hk, hnr, hn2, hrun, hstr, h6, ho, hrow, hbw⟩ := hrel
    have HNR := Lib.hid hnr
    have HRUN := Lib.hid hrun
    have HSTR := Lib.hid hstr
    have H6 := Lib.hid h6
    have HO := Lib.hid ho
    have HROW := Lib.hid hrow
    have HBW := Lib.hid hbw
    have HX3 := Lib.hid (HX.out.below hbw HX.out.lt)
    have HB3 := Lib.hid (chain HB2.out hbw)
    clear hrun hstr h6 ho hrow hbw hnr
    by_cases hlt : k < l.length
    · obtain ⟨b1, f1, rfl, hb1, hc1⟩ := HL3.out (by omega)
      obtain ⟨p0, p1⟩ := hc1 k hlt
      have HPK := Lib.hid (fun W (hW : Below w.heap.size w W) => show W.cell? ⟨b1, f1 + k * 2, none⟩ = some (.int .i64 l[k].1) ∧ W.cell? ⟨b1, f1 + k * 2 + 1, none⟩ = some (.bool l[k].2) from ⟨((hW.mono hBB).cell (p := ⟨b1, f1 + k * 2, none⟩) hb1).trans p0, ((hW.mono hBB).cell (p := ⟨b1, f1 + k * 2 + 1, none⟩) hb1).trans p1⟩)
      have HSK := Lib.hid (HSP.out k)
      rw [HRUN.out] at HSK
      have HRN := Lib.hid (fun s' (h : rst P s l[k].1 l[k].2 false = some s') => runS_next hlt HRUN.out h)
      have HRH := Lib.hid (fun (h : rst P s l[k].1 l[k].2 false = none) => runS_halt hlt HRUN.out h)
      have HSN := Lib.hid (fun s' x (hx : atS P s l[k].1 = some x) (h : rst P s l[k].1 l[k].2 false = some s') => strS_next hlt HRUN.out HSTR.out hx h)
      have HSH := Lib.hid (fun (h : rst P s l[k].1 l[k].2 false = none) => strS_halt hlt HRUN.out h)
      clear p0 p1 hc1
      generalize l[k] = kk at *
      obtain ⟨kt, kd⟩ := kk
      dsimp only at HPK HRN HRH HSN HSH
      obtain ⟨p0, p1⟩ := HPK.out _ HB3.out
      have x0 := HX3.out.cell 0 _ rfl
      have x1 := HX3.out.cell 1 _ rfl
      have s0 := H6.out.cell 0 _ rfl
      have s1 := H6.out.cell 1 _ rfl
      obtain ⟨q, hq⟩ : ∃ q, q = (rst P s kt kd false).isSome := ⟨_, rfl⟩
      have HQ := Lib.hid hq
      obtain ⟨x, xb, hav, hxx⟩ := atV_is P s kt
      have HAV := Lib.hid hav
      have HXX := Lib.hid hxx
      have HAC := Lib.hid (fun W (hW : Below wr.heap.size wr W) => rat_any kt W (HP.out W (chain HB3.out hW)).v (HO.out.below hW).sv (Nat.le_refl _) HSK.out.1)
      have HSZ := Lib.hid HBW.out.size
      clear hq hav hxx
      go_upto_region 6 with fail
      go_cut [9, 10] (fun vb vi wx => ∃ g, vb = .pointer (some ⟨g, 0, none⟩) ∧ vi = .bool xb ∧ BoxC wx g 70 #[.int .i64 x.op, .int .i64 x.reg, .int .i64 x.loc, .int .i64 x.n, .int .i64 x.to] ∧ Below wr.heap.size wr wx ∧ wr.heap.size ≤ g)
      case first =>
        refine wp_region_held_drew (S := (fun w' => (w'.cell? ⟨gp, 0, none⟩ = some (.slice P0 P.init.length d0) ∧ w'.cell? ⟨gp, 1, none⟩ = some (.slice P1 P.ths.length d1) ∧ w'.cell? ⟨g6, 0, none⟩ = some (.slice A4 n4 c4) ∧ w'.cell? ⟨g6, 1, none⟩ = some (.slice B4 m4 k4) ∧ w'.cell? ⟨b1, f1 + k * 2, none⟩ = some (.int .i64 kt) ∧ True) ∧ Below wr.heap.size wr w')) (by kernel_rfl) ⟨⟨x0, x1, s0, s1, p0, trivial⟩, below_drewN (Below.refl _ _) 1⟩ (fun hHeld => ?_)
        obtain ⟨Xs, hXs⟩ : ∃ W, W = wr.drew := ⟨_, rfl⟩
        have HXs := Lib.hid (show Below wr.heap.size wr Xs from by rw [hXs]; exact below_drewN (Below.refl _ _) 1)
        rw [← hXs] at hHeld ⊢
        clear hXs
        refine wpAnyH_take (i := 0) (v := ?_) rfl (by kernel_rfl) (by kernel_rfl) (by kernel_rfl) (fun _ _ _ h => h) (Or.inl ⟨by rfl, ?_⟩) (by assumption) ?_
        rotate_left
        · intro w hSw; (try dsimp only at hSw); go_simp; (try with_reducible rfl)
        (try simp only [Act.put, pt8])
        refine wpAnyH_take (i := 1) (v := ?_) rfl (by kernel_rfl) (by kernel_rfl) (by kernel_rfl) (fun _ _ _ h => h) (Or.inl ⟨by rfl, ?_⟩) (by assumption) ?_
        rotate_left
        · intro w hSw; (try dsimp only at hSw); go_simp; (try with_reducible rfl)
        (try simp only [Act.put, pt8])
        refine wpAnyH_take (i := 2) (v := ?_) rfl (by kernel_rfl) (by kernel_rfl) (by kernel_rfl) (fun _ _ _ h => h) (Or.inl ⟨by rfl, ?_⟩) (by assumption) ?_
        rotate_left
        · intro w hSw; (try dsimp only at hSw); go_simp; (try with_reducible rfl)
        (try simp only [Act.put, pt8])
        refine wpAnyH_take (i := 3) (v := ?_) rfl (by kernel_rfl) (by kernel_rfl) (by kernel_rfl) (fun _ _ _ h => h) (Or.inl ⟨by rfl, ?_⟩) (by assumption) ?_
        rotate_left
        · intro w hSw; (try dsimp only at hSw); go_simp; (try with_reducible rfl)
        (try simp only [Act.put, pt8])
        refine wpAnyH_take (i := 4) (v := ?_) rfl (by kernel_rfl) (by kernel_rfl) (by kernel_rfl) (fun _ _ _ h => h) (Or.inl ⟨by rfl, ?_⟩) (by assumption) ?_
        rotate_left
        · intro w hSw; (try dsimp only at hSw); go_simp; (try with_reducible rfl)
        (try simp only [Act.put, pt8])
        refine wpAnyH_take (i := 5) (v := ?_) rfl (by kernel_rfl) (by kernel_rfl) (by kernel_rfl) (fun _ _ _ h => h) (Or.inl ⟨by rfl, ?_⟩) (by assumption) ?_
        rotate_left
        · intro w hSw; (try dsimp only at hSw); go_simp; (try with_reducible rfl)
        (try simp only [Act.put, pt8])
        refine wpAnyH_take (i := 6) (v := ?_) rfl (by kernel_rfl) (by kernel_rfl) (by kernel_rfl) (fun _ _ _ h => h) (Or.inl ⟨by rfl, ?_⟩) (by assumption) ?_
        rotate_left
        · intro w hSw; (try dsimp only at hSw); go_simp; (try with_reducible rfl)
        (try simp only [Act.put, pt8])
        refine wpAnyH_ready (rs := [7, 11]) (by kernel_rfl) (by simp) ?_
        refine AllReadyH.cons rfl (fun K hK => ?_) (AllReadyH.cons rfl (fun K hK => ?_) (AllReadyH.nil))
        · -- 7 first
          go_simp
          refine (HAC.out _ hHeld.2).mono ?_
          rintro e Xc ⟨rfl, hb⟩
          rw [HAV.out]
          have HBC := Lib.hid (chain hHeld.2 hb)
          refine hK.out _ _ ⟨⟨kc HBC.out x0, kc HBC.out x1, kc HBC.out s0, kc HBC.out s1, kc HBC.out p0, trivial⟩, HBC.out⟩ (fun hHeld => ?_)
          clear hK K
          (try simp only [Act.put, pt8])
          clear hb
          refine wpAnyH_take (i := 8) (v := ?_) rfl (by kernel_rfl) (by kernel_rfl) (by kernel_rfl) (fun _ _ _ h => h) (Or.inl ⟨by rfl, ?_⟩) (by assumption) ?_
          rotate_left
          · intro w hSw; (try dsimp only at hSw); go_simp; (try with_reducible rfl)
          (try simp only [Act.put, pt8])
          refine wpAnyH_take (i := 9) (v := ?_) rfl (by kernel_rfl) (by kernel_rfl) (by kernel_rfl) (fun _ _ _ h => h) (Or.inl ⟨by rfl, ?_⟩) (by assumption) ?_
          rotate_left
          · intro w hSw; (try dsimp only at hSw); go_simp; (try with_reducible rfl)
          (try simp only [Act.put, pt8])
          refine wpAnyH_take (i := 10) (v := ?_) rfl (by kernel_rfl) (by kernel_rfl) (by kernel_rfl) (fun _ _ _ h => h) (Or.inl ⟨by rfl, ?_⟩) (by assumption) ?_
          rotate_left
          · intro w hSw; (try dsimp only at hSw); go_simp; (try with_reducible rfl)
          (try simp only [Act.put, pt8])
          refine wpAnyH_ready (rs := [11]) (by kernel_rfl) (by simp) ?_
          refine AllReadyH.cons rfl (fun K hK => ?_) AllReadyH.nil
          have HBA := Lib.hid (below_al hHeld.2 (.cells #[.int .i64 0, .int .i64 0, .int .i64 0, .int .i64 0, .int .i64 0] 70))
          go_simp
          refine hK.out _ _ ⟨⟨kc HBA.out x0, kc HBA.out x1, kc HBA.out s0, kc HBA.out s1, kc HBA.out p0, trivial⟩, HBA.out⟩ (fun hHeld => ?_)
          clear hK K
          (try simp only [Act.put, pt8])
          obtain ⟨Xa, hXa⟩ : ∃ W, W = Xc.alloc (.cells #[.int .i64 0, .int .i64 0, .int .i64 0, .int .i64 0, .int .i64 0] 70) := ⟨_, rfl⟩
          obtain ⟨ga, hga⟩ : ∃ g, g = Xc.heap.size := ⟨_, rfl⟩
          have HGa := Lib.hid (show wr.heap.size ≤ ga from by rw [hga]; exact HBC.out.size)
          have HQa := Lib.hid (show BoxC Xa ga 70 #[.int .i64 0, .int .i64 0, .int .i64 0, .int .i64 0, .int .i64 0] from by rw [hXa, hga]; exact BoxC.new Xc _ _)
          rw [← hXa] at hHeld HBA ⊢
          (try rw [← hga])
          clear hXa hga
          refine wpAnyH_ready (rs := [12]) (by kernel_rfl) (by simp) ?_
          refine AllReadyH.cons rfl (fun K hK => ?_) AllReadyH.nil
          have q0 := HQa.out.cell 0 _ rfl
          have q1 := HQa.out.cell 1 _ rfl
          have q2 := HQa.out.cell 2 _ rfl
          have q3 := HQa.out.cell 3 _ rfl
          have q4 := HQa.out.cell 4 _ rfl
          have u0 := HQa.out.frozen 0
          have u1 := HQa.out.frozen 1
          have u2 := HQa.out.frozen 2
          have u3 := HQa.out.frozen 3
          have u4 := HQa.out.frozen 4
          have HBS2 := Lib.hid (show Below wr.heap.size wr (((((Xa.setCell ⟨ga, 0, none⟩ (.int .i64 x.op)).setCell ⟨ga, 1, none⟩ (.int .i64 x.reg)).setCell ⟨ga, 2, none⟩ (.int .i64 x.loc)).setCell ⟨ga, 3, none⟩ (.int .i64 x.n)).setCell ⟨ga, 4, none⟩ (.int .i64 x.to)) from (((((hHeld.2.setCell (p := ⟨ga, 0, none⟩) HGa.out _).setCell (p := ⟨ga, 1, none⟩) HGa.out _).setCell (p := ⟨ga, 2, none⟩) HGa.out _).setCell (p := ⟨ga, 3, none⟩) HGa.out _).setCell (p := ⟨ga, 4, none⟩) HGa.out _))
          have HQS := Lib.hid (show BoxC (((((Xa.setCell ⟨ga, 0, none⟩ (.int .i64 x.op)).setCell ⟨ga, 1, none⟩ (.int .i64 x.reg)).setCell ⟨ga, 2, none⟩ (.int .i64 x.loc)).setCell ⟨ga, 3, none⟩ (.int .i64 x.n)).setCell ⟨ga, 4, none⟩ (.int .i64 x.to)) ga 70 #[.int .i64 x.op, .int .i64 x.reg, .int .i64 x.loc, .int .i64 x.n, .int .i64 x.to] from (((((HQa.out.set 0 _).set 1 _).set 2 _).set 3 _).set 4 _))
          go_simp
          refine hK.out _ _ ⟨⟨kc HBS2.out x0, kc HBS2.out x1, kc HBS2.out s0, kc HBS2.out s1, kc HBS2.out p0, trivial⟩, HBS2.out⟩ (fun hHeld => ?_)
          clear q0 q1 q2 q3 q4 u0 u1 u2 u3 u4
          clear hK K
          (try simp only [Act.put, pt8])
          refine wpAnyH_ready (rs := [13]) (by kernel_rfl) (by simp) ?_
          refine AllReadyH.cons rfl (fun K hK => ?_) AllReadyH.nil
          go_simp
          refine hK.out _ _ hHeld (fun hHeld => ?_)
          clear hK K
          (try simp only [Act.put, pt8])
          refine wpAnyH_done (by kernel_rfl) ?_ _
          clear hHeld
          go_wp2_with fail
          go_meet
          exact ⟨ga, rfl, rfl, HQS.out, HBS2.out, HGa.out⟩
        · -- 11 first
          have HBA := Lib.hid (below_al hHeld.2 (.cells #[.int .i64 0, .int .i64 0, .int .i64 0, .int .i64 0, .int .i64 0] 70))
          go_simp
          refine hK.out _ _ ⟨⟨kc HBA.out x0, kc HBA.out x1, kc HBA.out s0, kc HBA.out s1, kc HBA.out p0, trivial⟩, HBA.out⟩ (fun hHeld => ?_)
          clear hK K
          (try simp only [Act.put, pt8])
          obtain ⟨Xa, hXa⟩ : ∃ W, W = Xs.alloc (.cells #[.int .i64 0, .int .i64 0, .int .i64 0, .int .i64 0, .int .i64 0] 70) := ⟨_, rfl⟩
          obtain ⟨ga, hga⟩ : ∃ g, g = Xs.heap.size := ⟨_, rfl⟩
          have HGa := Lib.hid (show wr.heap.size ≤ ga from by rw [hga]; exact HXs.out.size)
          have HQa := Lib.hid (show BoxC Xa ga 70 #[.int .i64 0, .int .i64 0, .int .i64 0, .int .i64 0, .int .i64 0] from by rw [hXa, hga]; exact BoxC.new Xs _ _)
          rw [← hXa] at hHeld HBA ⊢
          (try rw [← hga])
          clear hXa hga
          refine wpAnyH_ready (rs := [7]) (by kernel_rfl) (by simp) ?_
          refine AllReadyH.cons rfl (fun K hK => ?_) AllReadyH.nil
          go_simp
          refine (HAC.out _ hHeld.2).mono ?_
          rintro e Xc ⟨rfl, hb⟩
          rw [HAV.out]
          have HBC := Lib.hid (chain hHeld.2 hb)
          replace HQa := Lib.hid (HQa.out.below hb HQa.out.lt)
          refine hK.out _ _ ⟨⟨kc HBC.out x0, kc HBC.out x1, kc HBC.out s0, kc HBC.out s1, kc HBC.out p0, trivial⟩, HBC.out⟩ (fun hHeld => ?_)
          clear hK K
          (try simp only [Act.put, pt8])
          clear hb
          refine wpAnyH_take (i := 8) (v := ?_) rfl (by kernel_rfl) (by kernel_rfl) (by kernel_rfl) (fun _ _ _ h => h) (Or.inl ⟨by rfl, ?_⟩) (by assumption) ?_
          rotate_left
          · intro w hSw; (try dsimp only at hSw); go_simp; (try with_reducible rfl)
          (try simp only [Act.put, pt8])
          refine wpAnyH_take (i := 9) (v := ?_) rfl (by kernel_rfl) (by kernel_rfl) (by kernel_rfl) (fun _ _ _ h => h) (Or.inl ⟨by rfl, ?_⟩) (by assumption) ?_
          rotate_left
          · intro w hSw; (try dsimp only at hSw); go_simp; (try with_reducible rfl)
          (try simp only [Act.put, pt8])
          refine wpAnyH_take (i := 10) (v := ?_) rfl (by kernel_rfl) (by kernel_rfl) (by kernel_rfl) (fun _ _ _ h => h) (Or.inl ⟨by rfl, ?_⟩) (by assumption) ?_
          rotate_left
          · intro w hSw; (try dsimp only at hSw); go_simp; (try with_reducible rfl)
          (try simp only [Act.put, pt8])
          refine wpAnyH_ready (rs := [12]) (by kernel_rfl) (by simp) ?_
          refine AllReadyH.cons rfl (fun K hK => ?_) AllReadyH.nil
          have q0 := HQa.out.cell 0 _ rfl
          have q1 := HQa.out.cell 1 _ rfl
          have q2 := HQa.out.cell 2 _ rfl
          have q3 := HQa.out.cell 3 _ rfl
          have q4 := HQa.out.cell 4 _ rfl
          have u0 := HQa.out.frozen 0
          have u1 := HQa.out.frozen 1
          have u2 := HQa.out.frozen 2
          have u3 := HQa.out.frozen 3
          have u4 := HQa.out.frozen 4
          have HBS2 := Lib.hid (show Below wr.heap.size wr (((((Xc.setCell ⟨ga, 0, none⟩ (.int .i64 x.op)).setCell ⟨ga, 1, none⟩ (.int .i64 x.reg)).setCell ⟨ga, 2, none⟩ (.int .i64 x.loc)).setCell ⟨ga, 3, none⟩ (.int .i64 x.n)).setCell ⟨ga, 4, none⟩ (.int .i64 x.to)) from (((((hHeld.2.setCell (p := ⟨ga, 0, none⟩) HGa.out _).setCell (p := ⟨ga, 1, none⟩) HGa.out _).setCell (p := ⟨ga, 2, none⟩) HGa.out _).setCell (p := ⟨ga, 3, none⟩) HGa.out _).setCell (p := ⟨ga, 4, none⟩) HGa.out _))
          have HQS := Lib.hid (show BoxC (((((Xc.setCell ⟨ga, 0, none⟩ (.int .i64 x.op)).setCell ⟨ga, 1, none⟩ (.int .i64 x.reg)).setCell ⟨ga, 2, none⟩ (.int .i64 x.loc)).setCell ⟨ga, 3, none⟩ (.int .i64 x.n)).setCell ⟨ga, 4, none⟩ (.int .i64 x.to)) ga 70 #[.int .i64 x.op, .int .i64 x.reg, .int .i64 x.loc, .int .i64 x.n, .int .i64 x.to] from (((((HQa.out.set 0 _).set 1 _).set 2 _).set 3 _).set 4 _))
          go_simp
          refine hK.out _ _ ⟨⟨kc HBS2.out x0, kc HBS2.out x1, kc HBS2.out s0, kc HBS2.out s1, kc HBS2.out p0, trivial⟩, HBS2.out⟩ (fun hHeld => ?_)
          clear q0 q1 q2 q3 q4 u0 u1 u2 u3 u4
          clear hK K
          (try simp only [Act.put, pt8])
          refine wpAnyH_ready (rs := [13]) (by kernel_rfl) (by simp) ?_
          refine AllReadyH.cons rfl (fun K hK => ?_) AllReadyH.nil
          go_simp
          refine hK.out _ _ hHeld (fun hHeld => ?_)
          clear hK K
          (try simp only [Act.put, pt8])
          refine wpAnyH_done (by kernel_rfl) ?_ _
          clear hHeld
          go_wp2_with fail
          go_meet
          exact ⟨ga, rfl, rfl, HQS.out, HBS2.out, HGa.out⟩
      case rest =>
      obtain ⟨g9, rfl, rfl, h9, hb, hg9⟩ := hcut
      obtain ⟨W6, hW6⟩ : ∃ W, W = wc := ⟨_, rfl⟩
      rw [← hW6] at h9 hb ⊢
      clear hW6
      have H9 := Lib.hid h9
      have HB4 := Lib.hid (chain HB3.out hb)
      have HBW4 := Lib.hid (chain HBW.out hb)
      have H64 := Lib.hid (H6.out.below hb H6.out.lt)
      have HO4 := Lib.hid (HO.out.below hb)
      have HX4 := Lib.hid (HX3.out.below hb HX3.out.lt)
      have HRW4 := Lib.hid (own_below HROW.out hb)
      have HG9 := Lib.hid (show W2.heap.size ≤ g9 ∧ g6 ≠ g9 from by have h1 := H6.out.lt; have h2 := HSZ.out; omega)
      clear h9 hb hg9 x0 x1 s0 s1 p0 p1 HAC HROW
      obtain ⟨p0, p1⟩ := HPK.out _ HB4.out
      have x0 := HX4.out.cell 0 _ rfl
      have x1 := HX4.out.cell 1 _ rfl
      have s0 := H64.out.cell 0 _ rfl
      have s1 := H64.out.cell 1 _ rfl
      have HCL := Lib.hid (fun W (hW : Below W6.heap.size W6 W) => rstep13_any kt kd false W (HP.out W (chain HB4.out hW)).v (HO4.out.below hW).sv (Nat.le_refl _) HRP.out HSK.out.1 HSK.out.2)
      go_upto_region 7 with fail
      go_cut [11, 12] (fun vb vi wx => ∃ g A n c D m k, vb = .pointer (some ⟨g, 0, none⟩) ∧ vi = .bool q ∧ BoxC wx g 31 #[.slice A n c, .slice D m k] ∧ (∀ s', rst P s kt kd false = some s' → ∃ ps, OwnSt W6.heap.size wx (.slice A n c) (.slice D m k) s' ps) ∧ Below W6.heap.size W6 wx ∧ W6.heap.size ≤ g)
      case first =>
        refine wp_region_held_drew (S := (fun w' => (w'.cell? ⟨gp, 0, none⟩ = some (.slice P0 P.init.length d0) ∧ w'.cell? ⟨gp, 1, none⟩ = some (.slice P1 P.ths.length d1) ∧ w'.cell? ⟨g6, 0, none⟩ = some (.slice A4 n4 c4) ∧ w'.cell? ⟨g6, 1, none⟩ = some (.slice B4 m4 k4) ∧ w'.cell? ⟨b1, f1 + k * 2, none⟩ = some (.int .i64 kt) ∧ w'.cell? ⟨b1, f1 + k * 2 + 1, none⟩ = some (.bool kd) ∧ True) ∧ Below W6.heap.size W6 w')) (by kernel_rfl) ⟨⟨x0, x1, s0, s1, p0, p1, trivial⟩, below_drewN (Below.refl _ _) 1⟩ (fun hHeld => ?_)
        obtain ⟨Xs, hXs⟩ : ∃ W, W = W6.drew := ⟨_, rfl⟩
        have HXs := Lib.hid (show Below W6.heap.size W6 Xs from by rw [hXs]; exact below_drewN (Below.refl _ _) 1)
        rw [← hXs] at hHeld ⊢
        clear hXs
        refine wpAnyH_take (i := 0) (v := ?_) rfl (by kernel_rfl) (by kernel_rfl) (by kernel_rfl) (fun _ _ _ h => h) (Or.inl ⟨by rfl, ?_⟩) (by assumption) ?_
        rotate_left
        · intro w hSw; (try dsimp only at hSw); go_simp; (try with_reducible rfl)
        (try simp only [Act.put, pt8])
        refine wpAnyH_take (i := 1) (v := ?_) rfl (by kernel_rfl) (by kernel_rfl) (by kernel_rfl) (fun _ _ _ h => h) (Or.inl ⟨by rfl, ?_⟩) (by assumption) ?_
        rotate_left
        · intro w hSw; (try dsimp only at hSw); go_simp; (try with_reducible rfl)
        (try simp only [Act.put, pt8])
        refine wpAnyH_take (i := 2) (v := ?_) rfl (by kernel_rfl) (by kernel_rfl) (by kernel_rfl) (fun _ _ _ h => h) (Or.inl ⟨by rfl, ?_⟩) (by assumption) ?_
        rotate_left
        · intro w hSw; (try dsimp only at hSw); go_simp; (try with_reducible rfl)
        (try simp only [Act.put, pt8])
        refine wpAnyH_take (i := 3) (v := ?_) rfl (by kernel_rfl) (by kernel_rfl) (by kernel_rfl) (fun _ _ _ h => h) (Or.inl ⟨by rfl, ?_⟩) (by assumption) ?_
        rotate_left
        · intro w hSw; (try dsimp only at hSw); go_simp; (try with_reducible rfl)
        (try simp only [Act.put, pt8])
        refine wpAnyH_take (i := 4) (v := ?_) rfl (by kernel_rfl) (by kernel_rfl) (by kernel_rfl) (fun _ _ _ h => h) (Or.inl ⟨by rfl, ?_⟩) (by assumption) ?_
        rotate_left
        · intro w hSw; (try dsimp only at hSw); go_simp; (try with_reducible rfl)
        (try simp only [Act.put, pt8])
        refine wpAnyH_take (i := 5) (v := ?_) rfl (by kernel_rfl) (by kernel_rfl) (by kernel_rfl) (fun _ _ _ h => h) (Or.inl ⟨by rfl, ?_⟩) (by assumption) ?_
        rotate_left
        · intro w hSw; (try dsimp only at hSw); go_simp; (try with_reducible rfl)
        (try simp only [Act.put, pt8])
        refine wpAnyH_ready (rs := [6, 10]) (by kernel_rfl) (by simp) ?_
        refine AllReadyH.cons rfl (fun K hK => ?_) (AllReadyH.cons rfl (fun K hK => ?_) (AllReadyH.nil))
        · -- 6 first
          go_simp
          refine (HCL.out _ hHeld.2).mono ?_
          rintro e Xc ⟨Ad, nd, cd, Dd, md, qd, rfl, hos, hb⟩
          rw [← HQ.out]
          have HOD := Lib.hid (fun s' (h : rst P s kt kd false = some s') => show ∃ ps, OwnSt W6.heap.size Xc (.slice Ad nd cd) (.slice Dd md qd) s' ps from (hos s' h).imp fun ps h => h.base hHeld.2.size)
          have HBC := Lib.hid (chain hHeld.2 hb)
          refine hK.out _ _ ⟨⟨kc HBC.out x0, kc HBC.out x1, kc HBC.out s0, kc HBC.out s1, kc HBC.out p0, kc HBC.out p1, trivial⟩, HBC.out⟩ (fun hHeld => ?_)
          clear hK K
          (try simp only [Act.put, pt8])
          clear hb hos
          refine wpAnyH_take (i := 7) (v := ?_) rfl (by kernel_rfl) (by kernel_rfl) (by kernel_rfl) (fun _ _ _ h => h) (Or.inl ⟨by rfl, ?_⟩) (by assumption) ?_
          rotate_left
          · intro w hSw; (try dsimp only at hSw); go_simp; (try with_reducible rfl)
          (try simp only [Act.put, pt8])
          refine wpAnyH_take (i := 8) (v := ?_) rfl (by kernel_rfl) (by kernel_rfl) (by kernel_rfl) (fun _ _ _ h => h) (Or.inl ⟨by rfl, ?_⟩) (by assumption) ?_
          rotate_left
          · intro w hSw; (try dsimp only at hSw); go_simp; (try with_reducible rfl)
          (try simp only [Act.put, pt8])
          refine wpAnyH_take (i := 9) (v := ?_) rfl (by kernel_rfl) (by kernel_rfl) (by kernel_rfl) (fun _ _ _ h => h) (Or.inl ⟨by rfl, ?_⟩) (by assumption) ?_
          rotate_left
          · intro w hSw; (try dsimp only at hSw); go_simp; (try with_reducible rfl)
          (try simp only [Act.put, pt8])
          refine wpAnyH_ready (rs := [10]) (by kernel_rfl) (by simp) ?_
          refine AllReadyH.cons rfl (fun K hK => ?_) AllReadyH.nil
          have HBA := Lib.hid (below_al hHeld.2 (.cells #[.slice none 0 0, .slice none 0 0] 31))
          go_simp
          refine hK.out _ _ ⟨⟨kc HBA.out x0, kc HBA.out x1, kc HBA.out s0, kc HBA.out s1, kc HBA.out p0, kc HBA.out p1, trivial⟩, HBA.out⟩ (fun hHeld => ?_)
          clear hK K
          (try simp only [Act.put, pt8])
          have HBa := Lib.hid (below_al (Below.refl Xc.heap.size Xc) (.cells #[.slice none 0 0, .slice none 0 0] 31))
          obtain ⟨Xa, hXa⟩ : ∃ W, W = Xc.alloc (.cells #[.slice none 0 0, .slice none 0 0] 31) := ⟨_, rfl⟩
          obtain ⟨ga, hga⟩ : ∃ g, g = Xc.heap.size := ⟨_, rfl⟩
          have HGa := Lib.hid (show W6.heap.size ≤ ga from by rw [hga]; exact HBC.out.size)
          have HQa := Lib.hid (show BoxC Xa ga 31 #[.slice none 0 0, .slice none 0 0] from by rw [hXa, hga]; exact BoxC.new Xc _ _)
          rw [← hXa] at hHeld HBA HBa ⊢
          (try rw [← hga])
          replace HOD := Lib.hid (fun s' h => show ∃ ps, OwnSt W6.heap.size Xa (.slice Ad nd cd) (.slice Dd md qd) s' ps from (HOD.out s' h).imp fun ps h => h.below HBa.out)
          clear hXa hga HBa
          refine wpAnyH_ready (rs := [11]) (by kernel_rfl) (by simp) ?_
          refine AllReadyH.cons rfl (fun K hK => ?_) AllReadyH.nil
          have q0 := HQa.out.cell 0 _ rfl
          have q1 := HQa.out.cell 1 _ rfl
          have u0 := HQa.out.frozen 0
          have u1 := HQa.out.frozen 1
          have HBS2 := Lib.hid (show Below W6.heap.size W6 ((Xa.setCell ⟨ga, 0, none⟩ (.slice Ad nd cd)).setCell ⟨ga, 1, none⟩ (.slice Dd md qd)) from (hHeld.2.setCell (p := ⟨ga, 0, none⟩) HGa.out _).setCell (p := ⟨ga, 1, none⟩) HGa.out _)
          have HQS := Lib.hid (show BoxC ((Xa.setCell ⟨ga, 0, none⟩ (.slice Ad nd cd)).setCell ⟨ga, 1, none⟩ (.slice Dd md qd)) ga 31 #[(.slice Ad nd cd), (.slice Dd md qd)] from (HQa.out.set 0 _).set 1 _)
          have HOS := Lib.hid (fun s' h => show ∃ ps, OwnSt W6.heap.size ((Xa.setCell ⟨ga, 0, none⟩ (.slice Ad nd cd)).setCell ⟨ga, 1, none⟩ (.slice Dd md qd)) (.slice Ad nd cd) (.slice Dd md qd) s' ps from (HOD.out s' h).imp fun ps h => (h.box HQa.out (by decide) (by decide) (by decide) 0 _).box (HQa.out.set 0 _) (by decide) (by decide) (by decide) 1 _)
          go_simp
          refine hK.out _ _ ⟨⟨kc HBS2.out x0, kc HBS2.out x1, kc HBS2.out s0, kc HBS2.out s1, kc HBS2.out p0, kc HBS2.out p1, trivial⟩, HBS2.out⟩ (fun hHeld => ?_)
          clear q0 q1 u0 u1
          clear hK K
          (try simp only [Act.put, pt8])
          refine wpAnyH_ready (rs := [12]) (by kernel_rfl) (by simp) ?_
          refine AllReadyH.cons rfl (fun K hK => ?_) AllReadyH.nil
          go_simp
          refine hK.out _ _ hHeld (fun hHeld => ?_)
          clear hK K
          (try simp only [Act.put, pt8])
          refine wpAnyH_done (by kernel_rfl) ?_ _
          clear hHeld
          go_wp2_with fail
          go_meet
          exact ⟨ga, Ad, nd, cd, Dd, md, qd, rfl, rfl, HQS.out, HOS.out, HBS2.out, HGa.out⟩
        · -- 10 first
          have HBA := Lib.hid (below_al hHeld.2 (.cells #[.slice none 0 0, .slice none 0 0] 31))
          go_simp
          refine hK.out _ _ ⟨⟨kc HBA.out x0, kc HBA.out x1, kc HBA.out s0, kc HBA.out s1, kc HBA.out p0, kc HBA.out p1, trivial⟩, HBA.out⟩ (fun hHeld => ?_)
          clear hK K
          (try simp only [Act.put, pt8])
          have HBa := Lib.hid (below_al (Below.refl Xs.heap.size Xs) (.cells #[.slice none 0 0, .slice none 0 0] 31))
          obtain ⟨Xa, hXa⟩ : ∃ W, W = Xs.alloc (.cells #[.slice none 0 0, .slice none 0 0] 31) := ⟨_, rfl⟩
          obtain ⟨ga, hga⟩ : ∃ g, g = Xs.heap.size := ⟨_, rfl⟩
          have HGa := Lib.hid (show W6.heap.size ≤ ga from by rw [hga]; exact HXs.out.size)
          have HQa := Lib.hid (show BoxC Xa ga 31 #[.slice none 0 0, .slice none 0 0] from by rw [hXa, hga]; exact BoxC.new Xs _ _)
          rw [← hXa] at hHeld HBA HBa ⊢
          (try rw [← hga])
          clear hXa hga HBa
          refine wpAnyH_ready (rs := [6]) (by kernel_rfl) (by simp) ?_
          refine AllReadyH.cons rfl (fun K hK => ?_) AllReadyH.nil
          go_simp
          refine (HCL.out _ hHeld.2).mono ?_
          rintro e Xc ⟨Ad, nd, cd, Dd, md, qd, rfl, hos, hb⟩
          rw [← HQ.out]
          have HOD := Lib.hid (fun s' (h : rst P s kt kd false = some s') => show ∃ ps, OwnSt W6.heap.size Xc (.slice Ad nd cd) (.slice Dd md qd) s' ps from (hos s' h).imp fun ps h => h.base hHeld.2.size)
          have HBC := Lib.hid (chain hHeld.2 hb)
          replace HQa := Lib.hid (HQa.out.below hb HQa.out.lt)
          refine hK.out _ _ ⟨⟨kc HBC.out x0, kc HBC.out x1, kc HBC.out s0, kc HBC.out s1, kc HBC.out p0, kc HBC.out p1, trivial⟩, HBC.out⟩ (fun hHeld => ?_)
          clear hK K
          (try simp only [Act.put, pt8])
          clear hb hos
          refine wpAnyH_take (i := 7) (v := ?_) rfl (by kernel_rfl) (by kernel_rfl) (by kernel_rfl) (fun _ _ _ h => h) (Or.inl ⟨by rfl, ?_⟩) (by assumption) ?_
          rotate_left
          · intro w hSw; (try dsimp only at hSw); go_simp; (try with_reducible rfl)
          (try simp only [Act.put, pt8])
          refine wpAnyH_take (i := 8) (v := ?_) rfl (by kernel_rfl) (by kernel_rfl) (by kernel_rfl) (fun _ _ _ h => h) (Or.inl ⟨by rfl, ?_⟩) (by assumption) ?_
          rotate_left
          · intro w hSw; (try dsimp only at hSw); go_simp; (try with_reducible rfl)
          (try simp only [Act.put, pt8])
          refine wpAnyH_take (i := 9) (v := ?_) rfl (by kernel_rfl) (by kernel_rfl) (by kernel_rfl) (fun _ _ _ h => h) (Or.inl ⟨by rfl, ?_⟩) (by assumption) ?_
          rotate_left
          · intro w hSw; (try dsimp only at hSw); go_simp; (try with_reducible rfl)
          (try simp only [Act.put, pt8])
          refine wpAnyH_ready (rs := [11]) (by kernel_rfl) (by simp) ?_
          refine AllReadyH.cons rfl (fun K hK => ?_) AllReadyH.nil
          have q0 := HQa.out.cell 0 _ rfl
          have q1 := HQa.out.cell 1 _ rfl
          have u0 := HQa.out.frozen 0
          have u1 := HQa.out.frozen 1
          have HBS2 := Lib.hid (show Below W6.heap.size W6 ((Xc.setCell ⟨ga, 0, none⟩ (.slice Ad nd cd)).setCell ⟨ga, 1, none⟩ (.slice Dd md qd)) from (hHeld.2.setCell (p := ⟨ga, 0, none⟩) HGa.out _).setCell (p := ⟨ga, 1, none⟩) HGa.out _)
          have HQS := Lib.hid (show BoxC ((Xc.setCell ⟨ga, 0, none⟩ (.slice Ad nd cd)).setCell ⟨ga, 1, none⟩ (.slice Dd md qd)) ga 31 #[(.slice Ad nd cd), (.slice Dd md qd)] from (HQa.out.set 0 _).set 1 _)
          have HOS := Lib.hid (fun s' h => show ∃ ps, OwnSt W6.heap.size ((Xc.setCell ⟨ga, 0, none⟩ (.slice Ad nd cd)).setCell ⟨ga, 1, none⟩ (.slice Dd md qd)) (.slice Ad nd cd) (.slice Dd md qd) s' ps from (HOD.out s' h).imp fun ps h => (h.box HQa.out (by decide) (by decide) (by decide) 0 _).box (HQa.out.set 0 _) (by decide) (by decide) (by decide) 1 _)
          go_simp
          refine hK.out _ _ ⟨⟨kc HBS2.out x0, kc HBS2.out x1, kc HBS2.out s0, kc HBS2.out s1, kc HBS2.out p0, kc HBS2.out p1, trivial⟩, HBS2.out⟩ (fun hHeld => ?_)
          clear q0 q1 u0 u1
          clear hK K
          (try simp only [Act.put, pt8])
          refine wpAnyH_ready (rs := [12]) (by kernel_rfl) (by simp) ?_
          refine AllReadyH.cons rfl (fun K hK => ?_) AllReadyH.nil
          go_simp
          refine hK.out _ _ hHeld (fun hHeld => ?_)
          clear hK K
          (try simp only [Act.put, pt8])
          refine wpAnyH_done (by kernel_rfl) ?_ _
          clear hHeld
          go_wp2_with fail
          go_meet
          exact ⟨ga, Ad, nd, cd, Dd, md, qd, rfl, rfl, HQS.out, HOS.out, HBS2.out, HGa.out⟩
      case rest =>
      obtain ⟨g11, Ae, ne, ce, De, me, ke, rfl, rfl, h11, hos, hb, hg11⟩ := hcut
      obtain ⟨W7, hW7⟩ : ∃ W, W = wc := ⟨_, rfl⟩
      rw [← hW7] at h11 hos hb ⊢
      clear hW7
      have H11 := Lib.hid h11
      have HOS := Lib.hid hos
      have HB5 := Lib.hid (chain HB4.out hb)
      have HBW5 := Lib.hid (chain HBW4.out hb)
      have H65 := Lib.hid (H64.out.below hb H64.out.lt)
      have H95 := Lib.hid (H9.out.below hb H9.out.lt)
      have HRW5 := Lib.hid (own_below HRW4.out hb)
      have HZ6 := Lib.hid (Nat.le_trans HBW4.out.size (Nat.le_refl W6.heap.size))
      have hz7 := HBW5.out.size
      clear h11 hos hb hg11 x0 x1 s0 s1 p0 p1 HCL HRW4 H64 HO4
      cases q
      · have HN1 := Lib.hid (show rst P s kt kd false = none from by have := HQ.out; cases h : rst P s kt kd false with | none => rfl | some a => (rw [h] at this; cases this))
        have HSL := Lib.hid (show strL P l = [] from by unfold strL; rw [HSH.out HN1.out]; rfl)
        have HRA := Lib.hid (show (runS P false (beg P) l).2.2 = false from by rw [HRH.out HN1.out])
        go_wp2
        refine bodyPost_ret (v := .tuple #[.slice none 0 0, .bool false]) (by simp [results, Try.results16, go_sem]) rfl ?_
        exact ⟨none, 0, 0, by rw [HRA.out], by rw [HSL.out]; rfl, by rw [HSL.out]; exact World.ownsRow_nil _ _ _ _, HB5.out⟩
      · obtain ⟨s2, hs2⟩ : ∃ s2, rst P s kt kd false = some s2 := by have := HQ.out; cases h : rst P s kt kd false with | none => (rw [h] at this; cases this) | some a => exact ⟨a, rfl⟩
        obtain ⟨ps2, ho2⟩ := HOS.out s2 hs2
        have HNX := Lib.hid (HRN.out s2 hs2)
        obtain ⟨y, hy⟩ := rst_at hs2
        obtain rfl := HXX.out y hy
        have HSX := Lib.hid (HSN.out s2 x hy hs2)
        have HO5 := Lib.hid (ho2.base HZ6.out)
        clear hs2 ho2 hy
        obtain ⟨p0, p1⟩ := HPK.out _ HB5.out
        have hk0 : k ≤ 50000 := by have := HNN.out; omega
        clear hn
        go_upto_region 11 with (at_builtin; refine wpList_append_own _ rfl _ _ 26 rfl W2.heap.size 47 i0 (.agg #[.int .i64 0, .bool false]) 2 16 Try.underlying26 hi hz0 hz1 hz2 rfl (by decide) _ nr (r.flatMap kiC) rfl (HRW5.out.alloc _) ⟨W7.heap.size, 0, none⟩ 1 1 [.int .i64 kt, .bool kd] rfl rfl (ki_new _ _ _) (by simp [Value.oneCell']) (by unfold maxLen; omega) (by omega) (by rw [World.size_alloc]; omega) ?_; intro v1 wz hown1 hg1 _; obtain ⟨Az, cz, rfl⟩ := own_slice hown1; skip)
        have HROW6 := Lib.hid hown1
        have HBA := Lib.hid (show Below W2.heap.size W2 wz from (below_append (below_al (Below.refl W7.heap.size W7) (.cells #[.int .i64 kt, .bool kd] 47) |> fun h => (HBW5.out.trans (h.mono hz7))) (HRW5.out.alloc _) (Nat.le_refl _) (by rw [World.size_alloc]; omega) hg1))
        have HAL := Lib.hid (below_al (Below.refl W7.heap.size W7) (.cells #[.int .i64 kt, .bool kd] 47))
        have H66 := Lib.hid ((H65.out.below HAL.out H65.out.lt).grown (by decide) (HRW5.out.alloc _) hg1)
        have H96 := Lib.hid ((H95.out.below HAL.out H95.out.lt).grown (by decide) (HRW5.out.alloc _) hg1)
        have H116 := Lib.hid ((H11.out.below HAL.out H11.out.lt).grown (by decide) (HRW5.out.alloc _) hg1)
        have HO6 := Lib.hid ((HO5.out.below HAL.out).app (HRW5.out.alloc _) hg1)
        clear hown1 hg1 H65 H95 H11 HO5 HAL p0 p1 HRW5
        have hz8 := HBA.out.size
        have t0 := H96.out.cell 0 _ rfl
        have n0 := H116.out.cell 0 _ rfl
        have n1 := H116.out.cell 1 _ rfl
        have s0 := H66.out.cell 0 _ rfl
        have s1 := H66.out.cell 1 _ rfl
        have u0 := H66.out.frozen 0
        have u1 := H66.out.frozen 1
        obtain ⟨p0, p1⟩ := HPK.out _ (HB2.out.trans (HBA.out.mono HB2.out.size))
        have HXS := Lib.hid (show r.flatMap kiC ++ [.int .i64 kt, .bool kd] = (r ++ [(kt, kd)]).flatMap kiC from by rw [List.flatMap_append]; rfl)
        have HXT := Lib.hid (show r.flatMap kiC ++ [.int .i64 kt, .bool kd] ++ [.int .i64 kt, .bool true] = (r ++ [(kt, kd), (kt, true)]).flatMap kiC from by rw [List.flatMap_append, List.append_assoc]; rfl)
        by_cases h3 : x.op = 3 ∨ x.op = 4
        · have HW := Lib.hid (show wkOf x (kt, kd) = [(kt, kd), (kt, true)] from by unfold wkOf late; rcases h3 with h | h <;> simp [h])
          rcases h3 with h3 | h3
          · have hq3 : (x.op == 3) = true := by rw [beq_iff_eq]; exact h3
            clear h3
            go_upto_region 13 with (at_builtin; refine wpList_append_own _ rfl _ _ 26 rfl W2.heap.size 47 i0 (.agg #[.int .i64 0, .bool false]) 2 16 Try.underlying26 hi hz0 hz1 hz2 rfl (by decide) _ (nr + 1) (r.flatMap kiC ++ [.int .i64 kt, .bool kd]) rfl (HROW6.out.alloc _) ⟨wz.heap.size, 0, none⟩ 1 1 [.int .i64 kt, .bool true] rfl rfl (ki_new _ _ _) (by simp [Value.oneCell']) (by unfold maxLen; omega) (by omega) (by rw [World.size_alloc]; omega) ?_; intro v1 wy hown1 hg1 _; obtain ⟨Ay, cy, rfl⟩ := own_slice hown1; skip)
            have HROW7 := Lib.hid hown1
            have HAL := Lib.hid (below_al (Below.refl wz.heap.size wz) (.cells #[.int .i64 kt, .bool true] 47))
            have HBZ := Lib.hid (show Below W2.heap.size W2 wy from below_append (HBA.out.trans (HAL.out.mono hz8)) (HROW6.out.alloc _) (Nat.le_refl _) (by rw [World.size_alloc]; omega) hg1)
            have H67 := Lib.hid ((H66.out.below HAL.out H66.out.lt).grown (by decide) (HROW6.out.alloc _) hg1)
            have H117 := Lib.hid ((H116.out.below HAL.out H116.out.lt).grown (by decide) (HROW6.out.alloc _) hg1)
            have HO7 := Lib.hid ((HO6.out.below HAL.out).app (HROW6.out.alloc _) hg1)
            clear hown1 hg1 t0 n0 n1 s0 s1 u0 u1 p0 p1
            have n0 := H117.out.cell 0 _ rfl
            have n1 := H117.out.cell 1 _ rfl
            have s0 := H67.out.cell 0 _ rfl
            have s1 := H67.out.cell 1 _ rfl
            have u0 := H67.out.frozen 0
            have u1 := H67.out.frozen 1
            go_wp2_with fail
            clear n0 n1 s0 s1 u0 u1
            go_roundw
            case rel => exact ⟨k + 1, s2, r ++ wkOf x (kt, kd), Ay, nr + 1 + 1, cy, _, _, _, _, _, _, ps2, by go_num, rfl, by omega, by rw [HW.out, List.length_append, HNR.out]; rfl, by omega, HNX.out, HSX.out, (H67.out.set 0 _).set 1 _, (HO7.out.box H67.out (by decide) (by decide) (by decide) 0 _).box (H67.out.set 0 _) (by decide) (by decide) (by decide) 1 _, by rw [HW.out, ← HXT.out]; exact own_box (own_box HROW7.out H67.out (by decide) 0 _) (H67.out.set 0 _) (by decide) 1 _, (HBZ.out.setCell (p := ⟨g6, 0, none⟩) HG6.out _).setCell (p := ⟨g6, 1, none⟩) HG6.out _⟩
            case measure => simp [intOf]; omega
          · have hq3 : (x.op == 3) = false := by rw [beq_eq_false_iff_ne]; omega
            have hq4 : (x.op == 4) = true := by rw [beq_iff_eq]; exact h3
            clear h3
            go_upto_region 13 with (at_builtin; refine wpList_append_own _ rfl _ _ 26 rfl W2.heap.size 47 i0 (.agg #[.int .i64 0, .bool false]) 2 16 Try.underlying26 hi hz0 hz1 hz2 rfl (by decide) _ (nr + 1) (r.flatMap kiC ++ [.int .i64 kt, .bool kd]) rfl (HROW6.out.alloc _) ⟨wz.heap.size, 0, none⟩ 1 1 [.int .i64 kt, .bool true] rfl rfl (ki_new _ _ _) (by simp [Value.oneCell']) (by unfold maxLen; omega) (by omega) (by rw [World.size_alloc]; omega) ?_; intro v1 wy hown1 hg1 _; obtain ⟨Ay, cy, rfl⟩ := own_slice hown1; skip)
            have HROW7 := Lib.hid hown1
            have HAL := Lib.hid (below_al (Below.refl wz.heap.size wz) (.cells #[.int .i64 kt, .bool true] 47))
            have HBZ := Lib.hid (show Below W2.heap.size W2 wy from below_append (HBA.out.trans (HAL.out.mono hz8)) (HROW6.out.alloc _) (Nat.le_refl _) (by rw [World.size_alloc]; omega) hg1)
            have H67 := Lib.hid ((H66.out.below HAL.out H66.out.lt).grown (by decide) (HROW6.out.alloc _) hg1)
            have H117 := Lib.hid ((H116.out.below HAL.out H116.out.lt).grown (by decide) (HROW6.out.alloc _) hg1)
            have HO7 := Lib.hid ((HO6.out.below HAL.out).app (HROW6.out.alloc _) hg1)
            clear hown1 hg1 t0 n0 n1 s0 s1 u0 u1 p0 p1
            have n0 := H117.out.cell 0 _ rfl
            have n1 := H117.out.cell 1 _ rfl
            have s0 := H67.out.cell 0 _ rfl
            have s1 := H67.out.cell 1 _ rfl
            have u0 := H67.out.frozen 0
            have u1 := H67.out.frozen 1
            go_wp2_with fail
            clear n0 n1 s0 s1 u0 u1
            go_roundw
            case rel => exact ⟨k + 1, s2, r ++ wkOf x (kt, kd), Ay, nr + 1 + 1, cy, _, _, _, _, _, _, ps2, by go_num, rfl, by omega, by rw [HW.out, List.length_append, HNR.out]; rfl, by omega, HNX.out, HSX.out, (H67.out.set 0 _).set 1 _, (HO7.out.box H67.out (by decide) (by decide) (by decide) 0 _).box (H67.out.set 0 _) (by decide) (by decide) (by decide) 1 _, by rw [HW.out, ← HXT.out]; exact own_box (own_box HROW7.out H67.out (by decide) 0 _) (H67.out.set 0 _) (by decide) 1 _, (HBZ.out.setCell (p := ⟨g6, 0, none⟩) HG6.out _).setCell (p := ⟨g6, 1, none⟩) HG6.out _⟩
            case measure => simp [intOf]; omega
        · have HW := Lib.hid (show wkOf x (kt, kd) = [(kt, kd)] from by unfold wkOf late; rw [not_or] at h3; simp [h3.1, h3.2])
          rw [not_or] at h3
          have hq3 : (x.op == 3) = false := by rw [beq_eq_false_iff_ne]; exact h3.1
          have hq4 : (x.op == 4) = false := by rw [beq_eq_false_iff_ne]; exact h3.2
          clear h3
          go_wp2_with fail
          clear t0 n0 n1 s0 s1 u0 u1 p0 p1
          go_roundw
          case rel => exact ⟨k + 1, s2, r ++ wkOf x (kt, kd), Az, nr + 1, cz, _, _, _, _, _, _, ps2, by go_num, rfl, by omega, by rw [HW.out, List.length_append, HNR.out]; rfl, by omega, HNX.out, HSX.out, (H66.out.set 0 _).set 1 _, (HO6.out.box H66.out (by decide) (by decide) (by decide) 0 _).box (H66.out.set 0 _) (by decide) (by decide) (by decide) 1 _, by rw [HW.out, ← HXS.out]; exact own_box (own_box HROW6.out H66.out (by decide) 0 _) (H66.out.set 0 _) (by decide) 1 _, (HBA.out.setCell (p := ⟨g6, 0, none⟩) HG6.out _).setCell (p := ⟨g6, 1, none⟩) HG6.out _⟩
          case measure => simp [intOf]; omega
    · obtain rfl : l.length = k := by omega
      have HALL := Lib.hid (show runS P false (beg P) l = (s, l.length, true) from by have := HRUN.out; rwa [List.take_length] at this)
      have HSL := Lib.hid (show strL P l = r from by have := HSTR.out; rw [List.take_length] at this; unfold strL; rw [this]; rfl)
      have HRA := Lib.hid (show (runS P false (beg P) l).2.2 = true from by rw [HALL.out])
      go_wp2
      refine bodyPost_ret (v := .tuple #[.slice Ar nr cr, .bool true]) (by simp [results, Try.results16, go_sem]) rfl ?_
      exact ⟨Ar, nr, cr, by rw [HRA.out], by rw [HSL.out]; exact HNR.out, by rw [HSL.out]; exact own_base HROW.out HB2.out.size, HB3.out⟩
end Go.Proofs.Ytbgjamoflbdhoaa
