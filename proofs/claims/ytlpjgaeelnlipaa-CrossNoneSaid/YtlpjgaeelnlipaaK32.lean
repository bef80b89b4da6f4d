/-
  THE MATHEMATICS OF CrossStrict, CrossNone, CrossWithin.
  LAYER 13: THE DOCUMENT's Run.
  LAYER 14: the walk of CrossNone.
-/
import Derived.Test.YtlpjgaeelnlipaaK30
import Derived.Test.YtlpjgaeelnlipaaK29
import Derived.Deep.RegionHeld3
import Derived.Deep.DeepCutAuto
import Derived.Test.YtlpjgaeelnlipaaCri
import Derived.Test.YtlpjgaeelnlipaaK10
set_option linter.unusedVariables false
set_option linter.unusedSimpArgs false
namespace Go.Proofs.Ytlpjgaeelnlipaa
set_option linter.unusedVariables false
set_option linter.unusedSimpArgs false
open CodM (St Pg rightP)
open BfM (Wr plc)
open ScM
open SlM
open CrM

/-- What is told, without the ways. -/
theorem wys_fst (P : Pg) : ∀ (l : List (Int × Bool)) (s : Sta), (wysS P s l).map (·.1) = l.take (wysS P s l).length
  | [], s => rfl
  | k :: l, s => by
    unfold wysS
    cases rst P s k.1 k.2 true with
    | none => rfl
    | some s' => simp [wys_fst P l s']
theorem wys_whole {P : Pg} {l : List (Int × Bool)} {s : Sta} (h : (runS P true s l).2.2 = true) : (wysS P s l).map (·.1) = l := by
  have h2 := wys_is P l s
  rw [h] at h2
  rw [wys_fst, of_decide_eq_true h2, List.take_length]
theorem ra_none {E : List ((Int × Bool) × (Int × Bool))} {f : Int → Bool} (hf : ∀ x, f x = false) : E.flatMap (raF f) = E.map (·.1) := by
  induction E with
  | nil => rfl
  | cons a r ih => rw [List.flatMap_cons, ih]; unfold raF; rw [hf]; rfl
theorem lo_none {E : List ((Int × Bool) × (Int × Bool))} {f : Int → Bool} (hf : ∀ x, f x = false) : E.flatMap (loF f) = E.map (·.1) := by
  induction E with
  | nil => rfl
  | cons a r ih => rw [List.flatMap_cons, ih]; unfold loF; rw [hf]; rfl
theorem raOk_none {E : List ((Int × Bool) × (Int × Bool))} {f : Int → Bool} (hf : ∀ x, f x = false) (k : Nat) : raOk f E k = true := by
  unfold raOk
  split
  · rw [hf]; rfl
  · rfl
theorem ris_none {f : Int → Bool} (hf : ∀ x, f x = false) {ks : List Int} (h : RisF f ks) : ks = [] := by
  cases ks with
  | nil => rfl
  | cons a r => have := (h.2 a).1 (List.mem_cons_self); rw [hf] at this; cases this
/-- A slot that is crossed is a step's that is neither fence nor swap. -/
theorem crossed_step {P : Pg} (hr : rightP P = true) : ∀ (l : List (Int × Bool)) {s : Sta}, OkSt P s → ∀ y ∈ wysS P s l, y.2.2 = true → ∃ t k, ∃ (ht : t < P.ths.length) (hk : k < P.ths[t].length), y.2.1 = ((ahd anyS P.ths t + k : Nat) : Int) ∧ P.ths[t][k].op ≠ 6 ∧ P.ths[t][k].op ≠ 5
  | [], s, ho, y, hy, hc => by cases hy
  | k :: l, s, ho, y, hy, hc => by
    unfold wysS at hy
    cases e : rst P s k.1 k.2 true with
    | none => rw [e] at hy; cases hy
    | some s' =>
      rw [e] at hy
      rcases List.mem_cons.1 hy with rfl | hy
      · obtain ⟨t, d⟩ := k
        dsimp only at hc e ⊢
        cases d with
        | true => unfold wayS at hc; cases hc
        | false =>
          rw [rst_weak] at e
          obtain ⟨j, rfl, h1⟩ := tst_in e
          have h2 : j < P.ths.length := by have := ho.ths; omega
          rw [tst_row h1 h2] at e
          unfold wayS noBuf at hc ⊢
          rw [if_neg (by decide), Int.toNat_natCast, SlM.getD_at h1] at hc ⊢
          dsimp only at hc ⊢
          cases e2 : P.ths[j][s.ths[j].at'.toNat]? with
          | none => rw [e2] at e; cases e
          | some x =>
            rw [e2] at e
            obtain ⟨h3, h4⟩ := List.getElem?_eq_some_iff.1 e2
            have hst : stuck x s.ths[j] = false := by
              cases hs : stuck x s.ths[j]
              · rfl
              · dsimp only at e; rw [hs] at e; simp at e
            have hn0 := (ho.th j h1 h2).lo
            refine ⟨j, s.ths[j].at'.toNat, h2, h3, ?_, ?_⟩
            · have := numI_hit (ths := P.ths) h2 h3
              rw [show ((s.ths[j].at'.toNat : Nat) : Int) = s.ths[j].at' from by omega] at this
              exact this
            · rw [h4]
              unfold stuck at hst
              rw [hc] at hst
              simp at hst
              exact hst
      · exact crossed_step hr l (rst_ok hr ho e) y hy hc
end Go.Proofs.Ytlpjgaeelnlipaa
namespace Go.Proofs.Ytlpjgaeelnlipaa
open Go.RowKit
set_option linter.unusedVariables false
set_option linter.unusedSimpArgs false
open CodM (St Pg rightP)
open BfM (Wr plc)
open ScM

set_option maxHeartbeats 16000000 in
set_option maxRecDepth 100000 in
theorem rrun13_any {B : Nat} {v vl : Value} {P : Pg} {l : List (Int × Bool)} (wk : Bool) (w : World) (hv : PgZ B w v P) (hl : KiR B w vl l) (hBB : B ≤ w.heap.size) (hp : rightP P = true) (hn : l.length ≤ 50000) :
    Calls Try.prog 9 #[v, vl, .bool wk] w (OwnRun P wk l w) := by
  have HP := Lib.hid (fun W (hW : Below w.heap.size w W) => (show PgZ W.heap.size W v P from (hv.below (hW.mono hBB)).more (Nat.le_trans hBB hW.size)))
  have HSP := Lib.hid (fun k => show OkSt P (runS P wk (beg P) (l.take k)).1 ∧ WideS (runS P wk (beg P) (l.take k)).1 from ⟨runS_ok hp _ (beg_ok P), wide_run hp wk (l.take k) (by rw [List.length_take]; omega) (by decide)⟩)
  have HRP := Lib.hid hp
  clear hp hn
  obtain ⟨pi, pt, rfl, hpm, -⟩ := hv
  obtain ⟨⟨P0, d0, rfl, -⟩, ⟨P1, d1, rfl, -⟩⟩ := hpm
  obtain ⟨Al, cl, rfl, hl1, hl2, -, hl3⟩ := hl
  have HL3 := Lib.hid (ki_at (c := cl) hl3)
  unfold maxLen at hl2
  clear hl3
  obtain ⟨W2, hW2⟩ : ∃ W, W = (w.alloc (.cells #[.slice P0 P.init.length d0, .slice P1 P.ths.length d1] 25)).alloc (.cells #[.slice none 0 0, .slice none 0 0] 33) := ⟨_, rfl⟩
  obtain ⟨gp, hgp⟩ : ∃ g, g = w.heap.size := ⟨_, rfl⟩
  obtain ⟨gr, hgr⟩ : ∃ g, g = w.heap.size + 1 := ⟨_, rfl⟩
  have HX := Lib.hid (show BoxC W2 gp 25 #[.slice P0 P.init.length d0, .slice P1 P.ths.length d1] from by rw [hW2, hgp]; exact (BoxC.new w _ _).alloc _)
  have HR := Lib.hid (show BoxC W2 gr 33 #[.slice none 0 0, .slice none 0 0] from by rw [hW2, hgr]; have := BoxC.new (w.alloc (.cells #[.slice P0 P.init.length d0, .slice P1 P.ths.length d1] 25)) 33 #[.slice none 0 0, .slice none 0 0]; rw [World.size_alloc] at this; exact this)
  have HB2 := Lib.hid (show Below w.heap.size w W2 from by rw [hW2]; exact below_al (below_al (Below.refl _ _) _) _)
  have HG := Lib.hid (show w.heap.size ≤ gr from by omega)
  go_enter Try.func9, Try.ntmps9
  go_upto_region 1 with fail
  rw [← hW2]
  (try rw [← hgr])
  (try rw [← hgp])
  clear hW2 hgr hgp
  have x0 := HX.out.cell 0 _ rfl
  have x1 := HX.out.cell 1 _ rfl
  go_wp2_with fail
  refine (rbegin_any _ (HP.out _ HB2.out) (Nat.le_refl _) HRP.out).mono ?_
  rintro e V1 ⟨vm, vt, ps, rfl, hos, hb⟩
  obtain ⟨Am, cm, rfl⟩ := own_slice hos.mem
  obtain ⟨Av, cv, rfl⟩ := own_slice hos.ths
  obtain ⟨m1, hm1⟩ : ∃ n, n = (beg P).mem.length := ⟨_, rfl⟩
  obtain ⟨m2, hm2⟩ : ∃ n, n = (beg P).ths.length := ⟨_, rfl⟩
  rw [← hm1, ← hm2] at hos ⊢
  have HO := Lib.hid hos
  have HBb := Lib.hid hb
  clear hos hb hm1 hm2 x0 x1
  go_upto_region 2 with fail
  obtain ⟨X2, hX2⟩ : ∃ W, W = V1.alloc (.cells #[.slice Am m1 cm, .slice Av m2 cv] 33) := ⟨_, rfl⟩
  obtain ⟨g9, hg9⟩ : ∃ g, g = V1.heap.size := ⟨_, rfl⟩
  have H9 := Lib.hid (show BoxC X2 g9 33 #[.slice Am m1 cm, .slice Av m2 cv] from by rw [hX2, hg9]; exact BoxC.new V1 _ _)
  have HX2 := Lib.hid (show Below V1.heap.size V1 X2 from by rw [hX2]; exact below_al (Below.refl _ _) _)
  have HG9 := Lib.hid (show W2.heap.size ≤ g9 from by rw [hg9]; exact HBb.out.size)
  have HGN := Lib.hid (show gp ≠ g9 ∧ gr ≠ g9 from by have h1 := HX.out.lt; have h2 := HR.out.lt; have h3 := HG9.out; omega)
  rw [← hX2]
  (try rw [← hg9])
  clear hX2 hg9
  have HO2 := Lib.hid (HO.out.below HX2.out)
  have HBc := Lib.hid (chain HBb.out HX2.out)
  go_wp2
  go_loopw [10] (fun i wr => ∃ (k : Nat) (s : Sta) (A4 : Option Addr) (n4 c4 : Nat) (B4 : Option Addr) (m4 k4 : Nat) (ps : List TV), i = .int .i64 k ∧ k ≤ l.length ∧ runS P wk (beg P) (l.take k) = (s, k, true) ∧ BoxC wr g9 33 #[.slice A4 n4 c4, .slice B4 m4 k4] ∧ OwnSt W2.heap.size wr (.slice A4 n4 c4) (.slice B4 m4 k4) s ps ∧ Below W2.heap.size W2 wr) (fun i _ => l.length - (intOf i).toNat)
  case atStart => exact ⟨0, beg P, _, _, _, _, _, _, _, rfl, Nat.zero_le _, by rw [List.take_zero]; rfl, H9.out, HO2.out, HBc.out⟩
  case round =>
    clear H9 HO HO2 HBb HBc HX2
    obtain ⟨k, s, A4, n4, c4, B4, m4, k4, ps, rfl, hk, hrun, h9, ho, hbw⟩ := hrel
    have HRUN := Lib.hid hrun
    have H9 := Lib.hid h9
    have HO := Lib.hid ho
    have HBW := Lib.hid hbw
    have HX3 := Lib.hid (HX.out.below hbw HX.out.lt)
    have HR3 := Lib.hid (HR.out.below hbw HR.out.lt)
    have HB3 := Lib.hid (chain HB2.out hbw)
    clear hrun h9 ho hbw
    by_cases hlt : k < l.length
    · obtain ⟨b1, f1, rfl, hb1, hc1⟩ := HL3.out (by omega)
      obtain ⟨p0, p1⟩ := hc1 k hlt
      replace p0 := ((HB3.out.mono hBB).cell (p := ⟨b1, f1 + k * 2, none⟩) hb1).trans p0
      replace p1 := ((HB3.out.mono hBB).cell (p := ⟨b1, f1 + k * 2 + 1, none⟩) hb1).trans p1
      have HSK := Lib.hid (HSP.out k)
      rw [HRUN.out] at HSK
      have HRN := Lib.hid (fun s' (h : rst P s l[k].1 l[k].2 wk = some s') => runS_next hlt HRUN.out h)
      have HRH := Lib.hid (fun (h : rst P s l[k].1 l[k].2 wk = none) => runS_halt hlt HRUN.out h)
      generalize l[k] = kk at *
      obtain ⟨kt, kd⟩ := kk
      dsimp only at p0 p1 HRN HRH
      have x0 := HX3.out.cell 0 _ rfl
      have x1 := HX3.out.cell 1 _ rfl
      have s0 := H9.out.cell 0 _ rfl
      have s1 := H9.out.cell 1 _ rfl
      obtain ⟨q, hq⟩ : ∃ q, q = (rst P s kt kd wk).isSome := ⟨_, rfl⟩
      have HQ := Lib.hid hq
      have HCL := Lib.hid (fun W (hW : Below wr.heap.size wr W) => rstep13_any kt kd wk W (HP.out W (chain HB3.out hW)).v (HO.out.below hW).sv (Nat.le_refl _) HRP.out HSK.out.1 HSK.out.2)
      have HSZ := Lib.hid HBW.out.size
      clear hq hc1
      go_upto_region 5 with fail
      go_cut [11, 12] (fun vb vi wx => ∃ g A n c D m k, vb = .pointer (some ⟨g, 0, none⟩) ∧ vi = .bool q ∧ BoxC wx g 33 #[.slice A n c, .slice D m k] ∧ (∀ s', rst P s kt kd wk = some s' → ∃ ps, OwnSt wr.heap.size wx (.slice A n c) (.slice D m k) s' ps) ∧ Below wr.heap.size wr wx ∧ wr.heap.size ≤ g)
      case first =>
        refine wp_region_held_drew (S := (fun w' => (w'.cell? ⟨gp, 0, none⟩ = some (.slice P0 P.init.length d0) ∧ w'.cell? ⟨gp, 1, none⟩ = some (.slice P1 P.ths.length d1) ∧ w'.cell? ⟨g9, 0, none⟩ = some (.slice A4 n4 c4) ∧ w'.cell? ⟨g9, 1, none⟩ = some (.slice B4 m4 k4) ∧ w'.cell? ⟨b1, f1 + k * 2, none⟩ = some (.int .i64 kt) ∧ w'.cell? ⟨b1, f1 + k * 2 + 1, none⟩ = some (.bool kd) ∧ True) ∧ Below wr.heap.size wr w')) (by kernel_rfl) ⟨⟨x0, x1, s0, s1, p0, p1, trivial⟩, below_drewN (Below.refl _ _) 1⟩ (fun hHeld => ?_)
        obtain ⟨Xs, hXs⟩ : ∃ W, W = wr.drew := ⟨_, rfl⟩
        have HXs := Lib.hid (show Below wr.heap.size wr Xs from by rw [hXs]; exact below_drewN (Below.refl _ _) 1)
        rw [← hXs] at hHeld ⊢
        clear hXs
        refine wpAnyH_take (i := 0) (v := ?_) rfl (by kernel_rfl) (by kernel_rfl) (by kernel_rfl) (fun _ _ _ h => h) (Or.inl ⟨by rfl, ?_⟩) (by assumption) ?_
        rotate_left
        · intro w hSw; (try dsimp only at hSw); go_simp; (try with_reducible rfl)
        (try simp only [Act.put, pt8])
        refine wpAnyH_take (i := 1) (v := ?_) rfl (by kernel_rfl) (by kernel_rfl) (by kernel_rfl) (fun _ _ _ h => h) (Or.inl ⟨by rfl, ?_⟩) (by assumption) ?_
        rotate_left
        · intro w hSw; (try dsimp only at hSw); go_simp; (try with_reducible rfl)
        (try simp only [Act.put, pt8])
        refine wpAnyH_take (i := 2) (v := ?_) rfl (by kernel_rfl) (by kernel_rfl) (by kernel_rfl) (fun _ _ _ h => h) (Or.inl ⟨by rfl, ?_⟩) (by assumption) ?_
        rotate_left
        · intro w hSw; (try dsimp only at hSw); go_simp; (try with_reducible rfl)
        (try simp only [Act.put, pt8])
        refine wpAnyH_take (i := 3) (v := ?_) rfl (by kernel_rfl) (by kernel_rfl) (by kernel_rfl) (fun _ _ _ h => h) (Or.inl ⟨by rfl, ?_⟩) (by assumption) ?_
        rotate_left
        · intro w hSw; (try dsimp only at hSw); go_simp; (try with_reducible rfl)
        (try simp only [Act.put, pt8])
        refine wpAnyH_take (i := 4) (v := ?_) rfl (by kernel_rfl) (by kernel_rfl) (by kernel_rfl) (fun _ _ _ h => h) (Or.inl ⟨by rfl, ?_⟩) (by assumption) ?_
        rotate_left
        · intro w hSw; (try dsimp only at hSw); go_simp; (try with_reducible rfl)
        (try simp only [Act.put, pt8])
        refine wpAnyH_take (i := 5) (v := ?_) rfl (by kernel_rfl) (by kernel_rfl) (by kernel_rfl) (fun _ _ _ h => h) (Or.inl ⟨by rfl, ?_⟩) (by assumption) ?_
        rotate_left
        · intro w hSw; (try dsimp only at hSw); go_simp; (try with_reducible rfl)
        (try simp only [Act.put, pt8])
        refine wpAnyH_take (i := 6) (v := ?_) rfl (by kernel_rfl) (by kernel_rfl) (by kernel_rfl) (fun _ _ _ h => h) (Or.inl ⟨by rfl, ?_⟩) (by assumption) ?_
        rotate_left
        · intro w hSw; (try dsimp only at hSw); go_simp; (try with_reducible rfl)
        (try simp only [Act.put, pt8])
        refine wpAnyH_ready (rs := [7, 11]) (by kernel_rfl) (by simp) ?_
        refine AllReadyH.cons rfl (fun K hK => ?_) (AllReadyH.cons rfl (fun K hK => ?_) (AllReadyH.nil))
        · -- 7 first
          go_simp
          refine (HCL.out _ hHeld.2).mono ?_
          rintro e Xc ⟨Ad, nd, cd, Dd, md, qd, rfl, hos, hb⟩
          rw [← HQ.out]
          have HOD := Lib.hid (fun s' (h : rst P s kt kd wk = some s') => show ∃ ps, OwnSt wr.heap.size Xc (.slice Ad nd cd) (.slice Dd md qd) s' ps from (hos s' h).imp fun ps h => h.base hHeld.2.size)
          have HBC := Lib.hid (chain hHeld.2 hb)
          refine hK.out _ _ ⟨⟨kc HBC.out x0, kc HBC.out x1, kc HBC.out s0, kc HBC.out s1, kc HBC.out p0, kc HBC.out p1, trivial⟩, HBC.out⟩ (fun hHeld => ?_)
          clear hK K
          (try simp only [Act.put, pt8])
          clear hb hos
          refine wpAnyH_take (i := 8) (v := ?_) rfl (by kernel_rfl) (by kernel_rfl) (by kernel_rfl) (fun _ _ _ h => h) (Or.inl ⟨by rfl, ?_⟩) (by assumption) ?_
          rotate_left
          · intro w hSw; (try dsimp only at hSw); go_simp; (try with_reducible rfl)
          (try simp only [Act.put, pt8])
          refine wpAnyH_take (i := 9) (v := ?_) rfl (by kernel_rfl) (by kernel_rfl) (by kernel_rfl) (fun _ _ _ h => h) (Or.inl ⟨by rfl, ?_⟩) (by assumption) ?_
          rotate_left
          · intro w hSw; (try dsimp only at hSw); go_simp; (try with_reducible rfl)
          (try simp only [Act.put, pt8])
          refine wpAnyH_take (i := 10) (v := ?_) rfl (by kernel_rfl) (by kernel_rfl) (by kernel_rfl) (fun _ _ _ h => h) (Or.inl ⟨by rfl, ?_⟩) (by assumption) ?_
          rotate_left
          · intro w hSw; (try dsimp only at hSw); go_simp; (try with_reducible rfl)
          (try simp only [Act.put, pt8])
          refine wpAnyH_ready (rs := [11]) (by kernel_rfl) (by simp) ?_
          refine AllReadyH.cons rfl (fun K hK => ?_) AllReadyH.nil
          have HBA := Lib.hid (below_al hHeld.2 (.cells #[.slice none 0 0, .slice none 0 0] 33))
          go_simp
          refine hK.out _ _ ⟨⟨kc HBA.out x0, kc HBA.out x1, kc HBA.out s0, kc HBA.out s1, kc HBA.out p0, kc HBA.out p1, trivial⟩, HBA.out⟩ (fun hHeld => ?_)
          clear hK K
          (try simp only [Act.put, pt8])
          have HBa := Lib.hid (below_al (Below.refl Xc.heap.size Xc) (.cells #[.slice none 0 0, .slice none 0 0] 33))
          obtain ⟨Xa, hXa⟩ : ∃ W, W = Xc.alloc (.cells #[.slice none 0 0, .slice none 0 0] 33) := ⟨_, rfl⟩
          obtain ⟨ga, hga⟩ : ∃ g, g = Xc.heap.size := ⟨_, rfl⟩
          have HGa := Lib.hid (show wr.heap.size ≤ ga from by rw [hga]; exact HBC.out.size)
          have HQa := Lib.hid (show BoxC Xa ga 33 #[.slice none 0 0, .slice none 0 0] from by rw [hXa, hga]; exact BoxC.new Xc _ _)
          rw [← hXa] at hHeld HBA HBa ⊢
          (try rw [← hga])
          replace HOD := Lib.hid (fun s' h => show ∃ ps, OwnSt wr.heap.size Xa (.slice Ad nd cd) (.slice Dd md qd) s' ps from (HOD.out s' h).imp fun ps h => h.below HBa.out)
          clear hXa hga HBa
          refine wpAnyH_ready (rs := [12]) (by kernel_rfl) (by simp) ?_
          refine AllReadyH.cons rfl (fun K hK => ?_) AllReadyH.nil
          have q0 := HQa.out.cell 0 _ rfl
          have q1 := HQa.out.cell 1 _ rfl
          have u0 := HQa.out.frozen 0
          have u1 := HQa.out.frozen 1
          have HBS2 := Lib.hid (show Below wr.heap.size wr ((Xa.setCell ⟨ga, 0, none⟩ (.slice Ad nd cd)).setCell ⟨ga, 1, none⟩ (.slice Dd md qd)) from (hHeld.2.setCell (p := ⟨ga, 0, none⟩) HGa.out _).setCell (p := ⟨ga, 1, none⟩) HGa.out _)
          have HQS := Lib.hid (show BoxC ((Xa.setCell ⟨ga, 0, none⟩ (.slice Ad nd cd)).setCell ⟨ga, 1, none⟩ (.slice Dd md qd)) ga 33 #[(.slice Ad nd cd), (.slice Dd md qd)] from (HQa.out.set 0 _).set 1 _)
          have HOS := Lib.hid (fun s' h => show ∃ ps, OwnSt wr.heap.size ((Xa.setCell ⟨ga, 0, none⟩ (.slice Ad nd cd)).setCell ⟨ga, 1, none⟩ (.slice Dd md qd)) (.slice Ad nd cd) (.slice Dd md qd) s' ps from (HOD.out s' h).imp fun ps h => (h.box HQa.out (by decide) (by decide) (by decide) 0 _).box (HQa.out.set 0 _) (by decide) (by decide) (by decide) 1 _)
          go_simp
          refine hK.out _ _ ⟨⟨kc HBS2.out x0, kc HBS2.out x1, kc HBS2.out s0, kc HBS2.out s1, kc HBS2.out p0, kc HBS2.out p1, trivial⟩, HBS2.out⟩ (fun hHeld => ?_)
          clear q0 q1 u0 u1
          clear hK K
          (try simp only [Act.put, pt8])
          refine wpAnyH_ready (rs := [13]) (by kernel_rfl) (by simp) ?_
          refine AllReadyH.cons rfl (fun K hK => ?_) AllReadyH.nil
          go_simp
          refine hK.out _ _ hHeld (fun hHeld => ?_)
          clear hK K
          (try simp only [Act.put, pt8])
          refine wpAnyH_done (by kernel_rfl) ?_ _
          clear hHeld
          go_wp2_with fail
          go_meet
          exact ⟨ga, Ad, nd, cd, Dd, md, qd, rfl, rfl, HQS.out, HOS.out, HBS2.out, HGa.out⟩
        · -- 11 first
          have HBA := Lib.hid (below_al hHeld.2 (.cells #[.slice none 0 0, .slice none 0 0] 33))
          go_simp
          refine hK.out _ _ ⟨⟨kc HBA.out x0, kc HBA.out x1, kc HBA.out s0, kc HBA.out s1, kc HBA.out p0, kc HBA.out p1, trivial⟩, HBA.out⟩ (fun hHeld => ?_)
          clear hK K
          (try simp only [Act.put, pt8])
          have HBa := Lib.hid (below_al (Below.refl Xs.heap.size Xs) (.cells #[.slice none 0 0, .slice none 0 0] 33))
          obtain ⟨Xa, hXa⟩ : ∃ W, W = Xs.alloc (.cells #[.slice none 0 0, .slice none 0 0] 33) := ⟨_, rfl⟩
          obtain ⟨ga, hga⟩ : ∃ g, g = Xs.heap.size := ⟨_, rfl⟩
          have HGa := Lib.hid (show wr.heap.size ≤ ga from by rw [hga]; exact HXs.out.size)
          have HQa := Lib.hid (show BoxC Xa ga 33 #[.slice none 0 0, .slice none 0 0] from by rw [hXa, hga]; exact BoxC.new Xs _ _)
          rw [← hXa] at hHeld HBA HBa ⊢
          (try rw [← hga])
          clear hXa hga HBa
          refine wpAnyH_ready (rs := [7]) (by kernel_rfl) (by simp) ?_
          refine AllReadyH.cons rfl (fun K hK => ?_) AllReadyH.nil
          go_simp
          refine (HCL.out _ hHeld.2).mono ?_
          rintro e Xc ⟨Ad, nd, cd, Dd, md, qd, rfl, hos, hb⟩
          rw [← HQ.out]
          have HOD := Lib.hid (fun s' (h : rst P s kt kd wk = some s') => show ∃ ps, OwnSt wr.heap.size Xc (.slice Ad nd cd) (.slice Dd md qd) s' ps from (hos s' h).imp fun ps h => h.base hHeld.2.size)
          have HBC := Lib.hid (chain hHeld.2 hb)
          replace HQa := Lib.hid (HQa.out.below hb HQa.out.lt)
          refine hK.out _ _ ⟨⟨kc HBC.out x0, kc HBC.out x1, kc HBC.out s0, kc HBC.out s1, kc HBC.out p0, kc HBC.out p1, trivial⟩, HBC.out⟩ (fun hHeld => ?_)
          clear hK K
          (try simp only [Act.put, pt8])
          clear hb hos
          refine wpAnyH_take (i := 8) (v := ?_) rfl (by kernel_rfl) (by kernel_rfl) (by kernel_rfl) (fun _ _ _ h => h) (Or.inl ⟨by rfl, ?_⟩) (by assumption) ?_
          rotate_left
          · intro w hSw; (try dsimp only at hSw); go_simp; (try with_reducible rfl)
          (try simp only [Act.put, pt8])
          refine wpAnyH_take (i := 9) (v := ?_) rfl (by kernel_rfl) (by kernel_rfl) (by kernel_rfl) (fun _ _ _ h => h) (Or.inl ⟨by rfl, ?_⟩) (by assumption) ?_
          rotate_left
          · intro w hSw; (try dsimp only at hSw); go_simp; (try with_reducible rfl)
          (try simp only [Act.put, pt8])
          refine wpAnyH_take (i := 10) (v := ?_) rfl (by kernel_rfl) (by kernel_rfl) (by kernel_rfl) (fun _ _ _ h => h) (Or.inl ⟨by rfl, ?_⟩) (by assumption) ?_
          rotate_left
          · intro w hSw; (try dsimp only at hSw); go_simp; (try with_reducible rfl)
          (try simp only [Act.put, pt8])
          refine wpAnyH_ready (rs := [12]) (by kernel_rfl) (by simp) ?_
          refine AllReadyH.cons rfl (fun K hK => ?_) AllReadyH.nil
          have q0 := HQa.out.cell 0 _ rfl
          have q1 := HQa.out.cell 1 _ rfl
          have u0 := HQa.out.frozen 0
          have u1 := HQa.out.frozen 1
          have HBS2 := Lib.hid (show Below wr.heap.size wr ((Xc.setCell ⟨ga, 0, none⟩ (.slice Ad nd cd)).setCell ⟨ga, 1, none⟩ (.slice Dd md qd)) from (hHeld.2.setCell (p := ⟨ga, 0, none⟩) HGa.out _).setCell (p := ⟨ga, 1, none⟩) HGa.out _)
          have HQS := Lib.hid (show BoxC ((Xc.setCell ⟨ga, 0, none⟩ (.slice Ad nd cd)).setCell ⟨ga, 1, none⟩ (.slice Dd md qd)) ga 33 #[(.slice Ad nd cd), (.slice Dd md qd)] from (HQa.out.set 0 _).set 1 _)
          have HOS := Lib.hid (fun s' h => show ∃ ps, OwnSt wr.heap.size ((Xc.setCell ⟨ga, 0, none⟩ (.slice Ad nd cd)).setCell ⟨ga, 1, none⟩ (.slice Dd md qd)) (.slice Ad nd cd) (.slice Dd md qd) s' ps from (HOD.out s' h).imp fun ps h => (h.box HQa.out (by decide) (by decide) (by decide) 0 _).box (HQa.out.set 0 _) (by decide) (by decide) (by decide) 1 _)
          go_simp
          refine hK.out _ _ ⟨⟨kc HBS2.out x0, kc HBS2.out x1, kc HBS2.out s0, kc HBS2.out s1, kc HBS2.out p0, kc HBS2.out p1, trivial⟩, HBS2.out⟩ (fun hHeld => ?_)
          clear q0 q1 u0 u1
          clear hK K
          (try simp only [Act.put, pt8])
          refine wpAnyH_ready (rs := [13]) (by kernel_rfl) (by simp) ?_
          refine AllReadyH.cons rfl (fun K hK => ?_) AllReadyH.nil
          go_simp
          refine hK.out _ _ hHeld (fun hHeld => ?_)
          clear hK K
          (try simp only [Act.put, pt8])
          refine wpAnyH_done (by kernel_rfl) ?_ _
          clear hHeld
          go_wp2_with fail
          go_meet
          exact ⟨ga, Ad, nd, cd, Dd, md, qd, rfl, rfl, HQS.out, HOS.out, HBS2.out, HGa.out⟩
      case rest =>
      obtain ⟨g11, Ae, ne, ce, De, me, ke, rfl, rfl, h11, hos, hb, hg11⟩ := hcut
      have H11 := Lib.hid h11
      have HOS := Lib.hid hos
      have HB4 := Lib.hid (chain HB3.out hb)
      have HBW4 := Lib.hid (chain HBW.out hb)
      have H94 := Lib.hid (H9.out.below hb H9.out.lt)
      have HR4 := Lib.hid (HR3.out.below hb HR3.out.lt)
      have HO4 := Lib.hid (HO.out.below hb)
      clear h11 hos hb hg11 x0 x1 s0 s1 p0 p1 HCL H9 HR3
      cases q
      · have HNO := Lib.hid (HRH.out (by have := HQ.out; cases h : rst P s kt kd wk with | none => rfl | some a => (rw [h] at this; cases this)))
        have s0 := H94.out.cell 0 _ rfl
        have s1 := H94.out.cell 1 _ rfl
        have r0 := HR4.out.cell 0 _ rfl
        have r1 := HR4.out.cell 1 _ rfl
        have f0 := HR4.out.frozen 0
        have f1 := HR4.out.frozen 1
        obtain ⟨W9, hW9⟩ : ∃ W, W = (wc.setCell ⟨gr, 0, none⟩ (.slice A4 n4 c4)).setCell ⟨gr, 1, none⟩ (.slice B4 m4 k4) := ⟨_, rfl⟩
        have HR9 := Lib.hid (show BoxC W9 gr 33 #[(.slice A4 n4 c4), (.slice B4 m4 k4)] from by rw [hW9]; exact (HR4.out.set 0 _).set 1 _)
        have HO9 := Lib.hid (show OwnSt W2.heap.size W9 (.slice A4 n4 c4) (.slice B4 m4 k4) s ps from by rw [hW9]; exact (HO4.out.box HR4.out (by decide) (by decide) (by decide) 0 _).box (HR4.out.set 0 _) (by decide) (by decide) (by decide) 1 _)
        have HB9 := Lib.hid (show Below w.heap.size w W9 from by rw [hW9]; exact (HB4.out.setCell (p := ⟨gr, 0, none⟩) HG.out _).setCell (p := ⟨gr, 1, none⟩) HG.out _)
        have HW9 := Lib.hid hW9
        clear hW9
        go_wp2_with fail
        rw [← HW9.out]
        clear r0 r1 f0 f1
        have r0 := HR9.out.cell 0 _ rfl
        have r1 := HR9.out.cell 1 _ rfl
        have hz : Try.prog.cellsOf 33 = 2 := by kernel_rfl
        refine bodyPost_ret (v := .tuple #[.agg #[(.slice A4 n4 c4), (.slice B4 m4 k4)], .int .i64 (k : Int), .bool false]) (by simp [results, Try.results9, go_sem, r0, r1, hz]) rfl ?_
        exact ⟨_, _, ps, by rw [HNO.out], by rw [HNO.out]; exact HO9.out.base HB2.out.size, HB9.out⟩
      · obtain ⟨s2, hs2⟩ : ∃ s2, rst P s kt kd wk = some s2 := by have := HQ.out; cases h : rst P s kt kd wk with | none => (rw [h] at this; cases this) | some a => exact ⟨a, rfl⟩
        have HNX := Lib.hid (HRN.out s2 hs2)
        obtain ⟨ps2, ho2⟩ := HOS.out s2 hs2
        have HO5 := Lib.hid (ho2.base HSZ.out)
        clear hs2 ho2
        have s0 := H94.out.cell 0 _ rfl
        have s1 := H94.out.cell 1 _ rfl
        have f0 := H94.out.frozen 0
        have f1' := H94.out.frozen 1
        have n0 := H11.out.cell 0 _ rfl
        have n1 := H11.out.cell 1 _ rfl
        go_wp2_with fail
        clear s0 s1 f0 f1' n0 n1
        go_roundw
        case rel => exact ⟨k + 1, s2, _, _, _, _, _, _, ps2, by go_num, by omega, HNX.out, (H94.out.set 0 _).set 1 _, (HO5.out.box H94.out (by decide) (by decide) (by decide) 0 _).box (H94.out.set 0 _) (by decide) (by decide) (by decide) 1 _, (HBW4.out.setCell (p := ⟨g9, 0, none⟩) HG9.out _).setCell (p := ⟨g9, 1, none⟩) HG9.out _⟩
        case measure => simp [intOf]; omega
    · obtain rfl : l.length = k := by omega
      have HALL := Lib.hid (show runS P wk (beg P) l = (s, l.length, true) from by have := HRUN.out; rwa [List.take_length] at this)
      obtain ⟨ln, hln⟩ : ∃ n, n = l.length := ⟨_, rfl⟩
      rw [← hln] at HALL hlt ⊢
      have s0 := H9.out.cell 0 _ rfl
      have s1 := H9.out.cell 1 _ rfl
      clear hln
      have r0 := HR3.out.cell 0 _ rfl
      have r1 := HR3.out.cell 1 _ rfl
      have f0 := HR3.out.frozen 0
      have f1 := HR3.out.frozen 1
      obtain ⟨W9, hW9⟩ : ∃ W, W = (wr.setCell ⟨gr, 0, none⟩ (.slice A4 n4 c4)).setCell ⟨gr, 1, none⟩ (.slice B4 m4 k4) := ⟨_, rfl⟩
      have HR9 := Lib.hid (show BoxC W9 gr 33 #[(.slice A4 n4 c4), (.slice B4 m4 k4)] from by rw [hW9]; exact (HR3.out.set 0 _).set 1 _)
      have HO9 := Lib.hid (show OwnSt W2.heap.size W9 (.slice A4 n4 c4) (.slice B4 m4 k4) s ps from by rw [hW9]; exact (HO.out.box HR3.out (by decide) (by decide) (by decide) 0 _).box (HR3.out.set 0 _) (by decide) (by decide) (by decide) 1 _)
      have HB9 := Lib.hid (show Below w.heap.size w W9 from by rw [hW9]; exact (HB3.out.setCell (p := ⟨gr, 0, none⟩) HG.out _).setCell (p := ⟨gr, 1, none⟩) HG.out _)
      have HW9 := Lib.hid hW9
      clear hW9
      go_wp2_with fail
      rw [← HW9.out]
      clear r0 r1 f0 f1
      have r0 := HR9.out.cell 0 _ rfl
      have r1 := HR9.out.cell 1 _ rfl
      have hz : Try.prog.cellsOf 33 = 2 := by kernel_rfl
      refine bodyPost_ret (v := .tuple #[.agg #[(.slice A4 n4 c4), (.slice B4 m4 k4)], .int .i64 (ln : Int), .bool true]) (by simp [results, Try.results9, go_sem, r0, r1, hz]) rfl ?_
      exact ⟨_, _, ps, by rw [HALL.out], by rw [HALL.out]; exact HO9.out.base HB2.out.size, HB9.out⟩
end Go.Proofs.Ytlpjgaeelnlipaa
namespace Go.Proofs.Ytlpjgaeelnlipaa
open Go.RowKit
set_option linter.unusedVariables false
set_option linter.unusedSimpArgs false
open CodM (St Pg rightP)
open BfM (Wr plc)
open ScM
open SlM
open CrM

theorem ints_nil (B : Nat) (w : World) : Ints B w (.slice none 0 0) [] := ⟨none, 0, rfl, Nat.le_refl _, by decide, fun k => absurd k (by decide)⟩
set_option maxHeartbeats 16000000 in
set_option maxRecDepth 100000 in
theorem crossnone_any {B : Nat} {v vl : Value} {P : Pg} {l : List (Int × Bool)} (n : Int) (w : World) (hv : PgZ B w v P) (hl : KiR B w vl l) (hBB : B ≤ w.heap.size) :
    Calls Try.prog 5 #[v, vl, .int .i64 n] w fun e w' => e = .returned (.bool true) ∧ Below w.heap.size w w' := by
  have HPZ := Lib.hid (fun W (hW : Below w.heap.size w W) => (show PgZ W.heap.size W v P from (hv.below (hW.mono hBB)).more (Nat.le_trans hBB hW.size)))
  have HKL := Lib.hid (fun W (hW : Below w.heap.size w W) => (show KiR W.heap.size W vl l from (hl.below (hW.mono hBB)).more (Nat.le_trans hBB hW.size)))
  skip
  obtain ⟨pi, pt, rfl, hpm, -⟩ := hv
  obtain ⟨⟨P0, d0, rfl, -⟩, ⟨P1, d1, rfl, l1, l2, l3⟩⟩ := hpm
  obtain ⟨Al, cl, rfl, q1, q2, q0, q3⟩ := hl
  unfold maxLen at l2 q2
  skip
  skip
  have HL3 := Lib.hid l3
  clear l3 q3 q0
  obtain ⟨W2, hW2⟩ : ∃ W, W = w.alloc (.cells #[.slice P0 P.init.length d0, .slice P1 P.ths.length d1] 25) := ⟨_, rfl⟩
  obtain ⟨gp, hgp⟩ : ∃ g, g = w.heap.size := ⟨_, rfl⟩
  have HX := Lib.hid (show BoxC W2 gp 25 #[.slice P0 P.init.length d0, .slice P1 P.ths.length d1] from by rw [hW2, hgp]; exact BoxC.new w _ _)
  have HB := Lib.hid (show Below w.heap.size w W2 from by rw [hW2]; exact below_al (Below.refl _ _) _)
  go_enter Try.func5, Try.ntmps5
  go_upto_region 1 with fail
  rw [← hW2]
  (try rw [← hgp])
  clear hW2 hgp
  go_wp2_with fail
  refine (head14_any _).mono ?_
  rintro e V1 ⟨rfl, hb⟩
  have HST := Lib.hid hb
  clear hb
  replace HX := Lib.hid (HX.out.below HST.out HX.out.lt)
  replace HB := Lib.hid (chain HB.out HST.out)
  have x0 := HX.out.cell 0 _ rfl
  have x1 := HX.out.cell 1 _ rfl
  go_wp2_with fail
  refine (great14_any _ (HPZ.out _ HB.out).v (HKL.out _ HB.out) (ints_nil _ _) (Nat.le_refl _)).mono ?_
  rintro e V2 ⟨gb, rfl, hg, hb⟩
  replace HST := Lib.hid hb
  clear hb x0 x1
  replace HX := Lib.hid (HX.out.below HST.out HX.out.lt)
  replace HB := Lib.hid (chain HB.out HST.out)
  cases gb
  case true =>
    go_wp2
    go_ret
    exact ⟨rfl, HB.out⟩
  have HSC := Lib.hid (hg rfl).1
  have HRP := Lib.hid (hg rfl).1.r
  have HLE := Lib.hid (hg rfl).2.1
  have HGE := Lib.hid (hg rfl).2.2
  have HN5 := Lib.hid (show l.length ≤ 50000 from Nat.le_trans (hg rfl).2.1 (by decide))
  clear hg
  have x0 := HX.out.cell 0 _ rfl
  have x1 := HX.out.cell 1 _ rfl
  have HMA := Lib.hid (fun W (hW : Below w.heap.size w W) => rmany_any W (HPZ.out W hW).v (Nat.le_refl _) (right_small HRP.out).1 (right_small HRP.out).2)
  obtain ⟨m, hm⟩ : ∃ m, m = many anyS P.ths := ⟨_, rfl⟩
  have hm2 : m ≤ 240 := by rw [hm]; exact many_small HRP.out
  rw [← hm] at HMA
  have HMM := Lib.hid hm
  clear hm
  by_cases hin : 0 ≤ n ∧ n < (m : Int)
  · obtain ⟨h1, h2⟩ := hin
    have hd1 : decide (n < (m : Int)) = true := decide_eq_true h2
    have hd0 : decide (0 ≤ n) = true := decide_eq_true h1
    go_wp2_with fail
    refine (HMA.out _ HB.out).mono ?_
    rintro e V3 ⟨rfl, hb⟩
    replace HB := Lib.hid (chain HB.out hb)
    clear hb x0 x1
    go_wp2
    go_ret
    exact ⟨by first | rfl | simp [hd1], HB.out⟩
  have HNF := Lib.hid (show ∀ x, keyB [n] m x = false from fun x => by
    unfold keyB has
    simp only [List.any_cons, List.any_nil, Bool.or_false]
    by_cases e : n = x
    · subst e
      have : (decide (0 ≤ n) && decide (n < (m : Int))) = false := by simpa using hin
      rw [this]; simp
    · rw [beq_eq_false_iff_ne.2 e]; rfl)
  have HNE := Lib.hid (show ∀ x, keyB [] m x = false from fun x => by unfold keyB has; simp)
  have HIP := Lib.hid (show insP P [n] = P from insP_none fun k hk => by
    rw [← HMM.out] at hk
    unfold has
    simp only [List.any_cons, List.any_nil, Bool.or_false]
    exact beq_eq_false_iff_ne.2 (fun e => hin ⟨by omega, by omega⟩))
  have HIE := Lib.hid (insP_nil P)
  by_cases h0 : 0 ≤ n
  case neg =>
    go_upto_region 4 with fail
    clear x0 x1
    have x0 := HX.out.cell 0 _ rfl
    have x1 := HX.out.cell 1 _ rfl
    go_wp2_with fail
    refine (rrun13_any (l := l) true _ (HPZ.out _ HB.out) (HKL.out _ HB.out) (Nat.le_refl _) HRP.out HN5.out).mono ?_
    rintro e V6 ⟨vm, vt, ps6, rfl, hos, hb⟩
    obtain ⟨⟨s6, n6, a6⟩, hr6⟩ : ∃ r, r = runS P true (beg P) (l) := ⟨_, rfl⟩
    have HR6 := Lib.hid hr6.symm
    rw [← hr6] at hos ⊢
    clear hr6
    dsimp only at hos ⊢
    obtain ⟨A6, c6, rfl⟩ := own_slice hos.mem
    obtain ⟨B6, e6, rfl⟩ := own_slice hos.ths
    obtain ⟨m6, hm6⟩ : ∃ m, m = s6.mem.length := ⟨_, rfl⟩
    obtain ⟨k6, hk6⟩ : ∃ m, m = s6.ths.length := ⟨_, rfl⟩
    have HM6 := Lib.hid hm6
    have HK6 := Lib.hid hk6
    rw [← hm6, ← hk6] at hos ⊢
    have HO6 := Lib.hid (show OwnSt 0 V6 (.slice A6 m6 c6) (.slice B6 k6 e6) s6 ps6 from hos.base (Nat.zero_le _))
    replace HST := Lib.hid hb
    clear hos hb hm6 hk6 x0 x1
    replace HX := Lib.hid (HX.out.below HST.out HX.out.lt)
    replace HB := Lib.hid (chain HB.out HST.out)
    go_upto_region 5 with fail
    obtain ⟨Z6, hZ⟩ : ∃ W, W = V6.alloc (.cells #[.slice A6 m6 c6, .slice B6 k6 e6] 33) := ⟨_, rfl⟩
    obtain ⟨g6, hg⟩ : ∃ g, g = V6.heap.size := ⟨_, rfl⟩
    have HQ6 := Lib.hid (show BoxC Z6 g6 33 #[.slice A6 m6 c6, .slice B6 k6 e6] from by rw [hZ, hg]; exact BoxC.new V6 _ _)
    replace HST := Lib.hid (show Below V6.heap.size V6 Z6 from by rw [hZ]; exact below_al (Below.refl _ _) _)
    rw [← hZ]
    (try rw [← hg])
    clear hZ hg
    replace HX := Lib.hid (HX.out.below HST.out HX.out.lt)
    replace HO6 := Lib.hid (HO6.out.below HST.out)
    replace HB := Lib.hid (chain HB.out HST.out)
    have HWH := Lib.hid (show (runS P true (beg P) l).2.2 = a6 from by rw [HR6.out])
    have x0 := HX.out.cell 0 _ rfl
    have x1 := HX.out.cell 1 _ rfl
    go_wp2_with fail
    obtain ⟨Y8, hY8⟩ : ∃ W, W = Z6.alloc (.cells #[.int .i64 n] 3) := ⟨_, rfl⟩
    replace HST := Lib.hid (show Below Z6.heap.size Z6 Y8 from by rw [hY8]; exact below_al (Below.refl _ _) _)
    have HLT := Lib.hid (show BoxC Y8 Z6.heap.size 3 #[.int .i64 n] from by rw [hY8]; exact BoxC.new Z6 _ _)
    rw [← hY8]
    clear hY8 x0 x1
    replace HX := Lib.hid (HX.out.below HST.out HX.out.lt)
    replace HQ6 := Lib.hid (HQ6.out.below HST.out HQ6.out.lt)
    replace HO6 := Lib.hid (HO6.out.below HST.out)
    replace HB := Lib.hid (chain HB.out HST.out)
    refine (crlower_any (g := [n]) _ (HPZ.out _ HB.out) (ints_one HLT.out) (HKL.out _ HB.out) (Nat.le_refl _) HRP.out (by rw [HIP.out]; exact HRP.out) HN5.out (by simp) HSC.out.jmp).mono ?_
    rintro e V8 ⟨A8, c8, r8, ks, rfl, hks, hr, -, ho, hb⟩
    rw [← HMM.out] at hks
    have hk2 := ris_none HNF.out hks
    subst hk2
    rw [HIP.out, HWH.out] at hr
    rw [HIP.out, HWH.out]
    clear hks HLT
    have HR8 := Lib.hid (show a6 = true → r8 = l from fun h => by
      subst h
      rw [if_pos rfl, lo_none (fun x => by unfold ldaK; simp), wys_whole HWH.out] at hr; exact hr)
    obtain ⟨m8, hm8⟩ : ∃ m, m = r8.length := ⟨_, rfl⟩
    have HM8 := Lib.hid hm8
    have HW8 := Lib.hid (show V8.ownsRow 0 52 2 (.slice A8 m8 c8) m8 (r8.flatMap kiC) from by rw [hm8]; exact own_base ho (Nat.zero_le _))
    rw [← hm8]
    replace HST := Lib.hid hb
    clear hr ho hb hm8
    replace HX := Lib.hid (HX.out.below HST.out HX.out.lt)
    replace HQ6 := Lib.hid (HQ6.out.below HST.out HQ6.out.lt)
    replace HO6 := Lib.hid (HO6.out.below HST.out)
    replace HB := Lib.hid (chain HB.out HST.out)
    go_upto_region 6 with fail
    have x0 := HX.out.cell 0 _ rfl
    have x1 := HX.out.cell 1 _ rfl
    go_wp2_with fail
    obtain ⟨Y10, hY10⟩ : ∃ W, W = V8.alloc (.cells #[.int .i64 n] 3) := ⟨_, rfl⟩
    replace HST := Lib.hid (show Below V8.heap.size V8 Y10 from by rw [hY10]; exact below_al (Below.refl _ _) _)
    have HLT := Lib.hid (show BoxC Y10 V8.heap.size 3 #[.int .i64 n] from by rw [hY10]; exact BoxC.new V8 _ _)
    rw [← hY10]
    clear hY10 x0 x1
    replace HX := Lib.hid (HX.out.below HST.out HX.out.lt)
    replace HQ6 := Lib.hid (HQ6.out.below HST.out HQ6.out.lt)
    replace HW8 := Lib.hid (own_below HW8.out HST.out)
    replace HO6 := Lib.hid (HO6.out.below HST.out)
    replace HB := Lib.hid (chain HB.out HST.out)
    refine (crraise_any (g := [n]) _ (HPZ.out _ HB.out) (ints_one HLT.out) (HKL.out _ HB.out) (Nat.le_refl _) HRP.out HN5.out (by simp)).mono ?_
    rintro e V10 ⟨A10, c10, r10, b10, rfl, hbi, hr, -, ho, hb⟩
    rw [← HMM.out] at hbi hr
    have hbt : a6 = b10 := by
      rw [HWH.out] at hbi
      cases a6
      · cases b10
        · rfl
        · exact absurd (hbi.1 rfl).1 (by decide)
      · exact (hbi.2 ⟨rfl, fun k _ => raOk_none HNF.out k⟩).symm
    subst hbt
    clear hbi HLT
    have HR10 := Lib.hid (show a6 = true → r10 = l from fun h => by
      subst h
      rw [if_pos rfl, ra_none HNF.out, wys_whole HWH.out] at hr; exact hr)
    obtain ⟨m10, hm10⟩ : ∃ m, m = r10.length := ⟨_, rfl⟩
    have HM10 := Lib.hid hm10
    have HW10 := Lib.hid (show V10.ownsRow 0 52 2 (.slice A10 m10 c10) m10 (r10.flatMap kiC) from by rw [hm10]; exact own_base ho (Nat.zero_le _))
    rw [← hm10]
    replace HST := Lib.hid hb
    clear hr ho hb hm10
    replace HX := Lib.hid (HX.out.below HST.out HX.out.lt)
    replace HQ6 := Lib.hid (HQ6.out.below HST.out HQ6.out.lt)
    replace HW8 := Lib.hid (own_below HW8.out HST.out)
    replace HO6 := Lib.hid (HO6.out.below HST.out)
    replace HB := Lib.hid (chain HB.out HST.out)
    go_upto_region 7 with fail
    have x0 := HX.out.cell 0 _ rfl
    have x1 := HX.out.cell 1 _ rfl
    go_wp2_with fail
    refine (crlower_any (g := []) _ (HPZ.out _ HB.out) (ints_nil _ _) (HKL.out _ HB.out) (Nat.le_refl _) HRP.out (by rw [HIE.out]; exact HRP.out) HN5.out (by simp) HSC.out.jmp).mono ?_
    rintro e V12 ⟨A12, c12, r12, ks, rfl, hks, hr, -, ho, hb⟩
    rw [← HMM.out] at hks
    have hk2 := ris_none HNE.out hks
    subst hk2
    rw [HIE.out, HWH.out] at hr
    rw [HIE.out, HWH.out]
    clear hks x0 x1
    have HR12 := Lib.hid (show a6 = true → r12 = l from fun h => by
      subst h
      rw [if_pos rfl, lo_none (fun x => by unfold ldaK; simp), wys_whole HWH.out] at hr; exact hr)
    obtain ⟨m12, hm12⟩ : ∃ m, m = r12.length := ⟨_, rfl⟩
    have HM12 := Lib.hid hm12
    have HW12 := Lib.hid (show V12.ownsRow 0 52 2 (.slice A12 m12 c12) m12 (r12.flatMap kiC) from by rw [hm12]; exact own_base ho (Nat.zero_le _))
    rw [← hm12]
    replace HST := Lib.hid hb
    clear hr ho hb hm12
    replace HX := Lib.hid (HX.out.below HST.out HX.out.lt)
    replace HQ6 := Lib.hid (HQ6.out.below HST.out HQ6.out.lt)
    replace HW8 := Lib.hid (own_below HW8.out HST.out)
    replace HW10 := Lib.hid (own_below HW10.out HST.out)
    replace HO6 := Lib.hid (HO6.out.below HST.out)
    replace HB := Lib.hid (chain HB.out HST.out)
    go_upto_region 8 with fail
    cases a6
    case false =>
      go_wp2
      go_ret
      exact ⟨rfl, HB.out⟩
    have HA8 := Lib.hid (HR8.out rfl)
    have HA10 := Lib.hid (HR10.out rfl)
    have HA12 := Lib.hid (HR12.out rfl)
    go_wp2_with fail
    refine (kisame_any (ns := l) _ (by have h := HW8.out; rw [HA8.out] at h; have h2 := HM8.out; rw [HA8.out] at h2; exact Rw.own (by rw [← h2]; exact h) (Nat.le_refl _)) (HKL.out _ HB.out) (Nat.le_refl _)).mono ?_
    rintro e V20 ⟨rfl, hb⟩
    replace HST := Lib.hid hb
    clear hb
    replace HX := Lib.hid (HX.out.below HST.out HX.out.lt)
    replace HQ6 := Lib.hid (HQ6.out.below HST.out HQ6.out.lt)
    replace HW8 := Lib.hid (own_below HW8.out HST.out)
    replace HW10 := Lib.hid (own_below HW10.out HST.out)
    replace HW12 := Lib.hid (own_below HW12.out HST.out)
    replace HO6 := Lib.hid (HO6.out.below HST.out)
    replace HB := Lib.hid (chain HB.out HST.out)
    go_wp2_with fail
    refine (kisame_any (ns := l) _ (by have h := HW10.out; rw [HA10.out] at h; have h2 := HM10.out; rw [HA10.out] at h2; exact Rw.own (by rw [← h2]; exact h) (Nat.le_refl _)) (HKL.out _ HB.out) (Nat.le_refl _)).mono ?_
    rintro e V21 ⟨rfl, hb⟩
    replace HST := Lib.hid hb
    clear hb
    replace HX := Lib.hid (HX.out.below HST.out HX.out.lt)
    replace HQ6 := Lib.hid (HQ6.out.below HST.out HQ6.out.lt)
    replace HW8 := Lib.hid (own_below HW8.out HST.out)
    replace HW10 := Lib.hid (own_below HW10.out HST.out)
    replace HW12 := Lib.hid (own_below HW12.out HST.out)
    replace HO6 := Lib.hid (HO6.out.below HST.out)
    replace HB := Lib.hid (chain HB.out HST.out)
    go_wp2_with fail
    refine (kisame_any (ns := l) _ (by have h := HW12.out; rw [HA12.out] at h; have h2 := HM12.out; rw [HA12.out] at h2; exact Rw.own (by rw [← h2]; exact h) (Nat.le_refl _)) (HKL.out _ HB.out) (Nat.le_refl _)).mono ?_
    rintro e V22 ⟨rfl, hb⟩
    replace HST := Lib.hid hb
    clear hb
    replace HX := Lib.hid (HX.out.below HST.out HX.out.lt)
    replace HQ6 := Lib.hid (HQ6.out.below HST.out HQ6.out.lt)
    replace HW8 := Lib.hid (own_below HW8.out HST.out)
    replace HW10 := Lib.hid (own_below HW10.out HST.out)
    replace HW12 := Lib.hid (own_below HW12.out HST.out)
    replace HO6 := Lib.hid (HO6.out.below HST.out)
    replace HB := Lib.hid (chain HB.out HST.out)
    go_wp2
    go_ret
    exact ⟨rfl, HB.out⟩
  have hge : ¬ n < (m : Int) := fun h => hin ⟨h0, h⟩
  go_wp2_with fail
  refine (HMA.out _ HB.out).mono ?_
  rintro e V3 ⟨rfl, hb⟩
  replace HST := Lib.hid hb
  clear hb x0 x1
  replace HX := Lib.hid (HX.out.below HST.out HX.out.lt)
  replace HB := Lib.hid (chain HB.out HST.out)
  go_upto_region 4 with fail
  have x0 := HX.out.cell 0 _ rfl
  have x1 := HX.out.cell 1 _ rfl
  go_wp2_with fail
  refine (rrun13_any (l := l) true _ (HPZ.out _ HB.out) (HKL.out _ HB.out) (Nat.le_refl _) HRP.out HN5.out).mono ?_
  rintro e V6 ⟨vm, vt, ps6, rfl, hos, hb⟩
  obtain ⟨⟨s6, n6, a6⟩, hr6⟩ : ∃ r, r = runS P true (beg P) (l) := ⟨_, rfl⟩
  have HR6 := Lib.hid hr6.symm
  rw [← hr6] at hos ⊢
  clear hr6
  dsimp only at hos ⊢
  obtain ⟨A6, c6, rfl⟩ := own_slice hos.mem
  obtain ⟨B6, e6, rfl⟩ := own_slice hos.ths
  obtain ⟨m6, hm6⟩ : ∃ m, m = s6.mem.length := ⟨_, rfl⟩
  obtain ⟨k6, hk6⟩ : ∃ m, m = s6.ths.length := ⟨_, rfl⟩
  have HM6 := Lib.hid hm6
  have HK6 := Lib.hid hk6
  rw [← hm6, ← hk6] at hos ⊢
  have HO6 := Lib.hid (show OwnSt 0 V6 (.slice A6 m6 c6) (.slice B6 k6 e6) s6 ps6 from hos.base (Nat.zero_le _))
  replace HST := Lib.hid hb
  clear hos hb hm6 hk6 x0 x1
  replace HX := Lib.hid (HX.out.below HST.out HX.out.lt)
  replace HB := Lib.hid (chain HB.out HST.out)
  go_upto_region 5 with fail
  obtain ⟨Z6, hZ⟩ : ∃ W, W = V6.alloc (.cells #[.slice A6 m6 c6, .slice B6 k6 e6] 33) := ⟨_, rfl⟩
  obtain ⟨g6, hg⟩ : ∃ g, g = V6.heap.size := ⟨_, rfl⟩
  have HQ6 := Lib.hid (show BoxC Z6 g6 33 #[.slice A6 m6 c6, .slice B6 k6 e6] from by rw [hZ, hg]; exact BoxC.new V6 _ _)
  replace HST := Lib.hid (show Below V6.heap.size V6 Z6 from by rw [hZ]; exact below_al (Below.refl _ _) _)
  rw [← hZ]
  (try rw [← hg])
  clear hZ hg
  replace HX := Lib.hid (HX.out.below HST.out HX.out.lt)
  replace HO6 := Lib.hid (HO6.out.below HST.out)
  replace HB := Lib.hid (chain HB.out HST.out)
  have HWH := Lib.hid (show (runS P true (beg P) l).2.2 = a6 from by rw [HR6.out])
  have x0 := HX.out.cell 0 _ rfl
  have x1 := HX.out.cell 1 _ rfl
  go_wp2_with fail
  obtain ⟨Y8, hY8⟩ : ∃ W, W = Z6.alloc (.cells #[.int .i64 n] 3) := ⟨_, rfl⟩
  replace HST := Lib.hid (show Below Z6.heap.size Z6 Y8 from by rw [hY8]; exact below_al (Below.refl _ _) _)
  have HLT := Lib.hid (show BoxC Y8 Z6.heap.size 3 #[.int .i64 n] from by rw [hY8]; exact BoxC.new Z6 _ _)
  rw [← hY8]
  clear hY8 x0 x1
  replace HX := Lib.hid (HX.out.below HST.out HX.out.lt)
  replace HQ6 := Lib.hid (HQ6.out.below HST.out HQ6.out.lt)
  replace HO6 := Lib.hid (HO6.out.below HST.out)
  replace HB := Lib.hid (chain HB.out HST.out)
  refine (crlower_any (g := [n]) _ (HPZ.out _ HB.out) (ints_one HLT.out) (HKL.out _ HB.out) (Nat.le_refl _) HRP.out (by rw [HIP.out]; exact HRP.out) HN5.out (by simp) HSC.out.jmp).mono ?_
  rintro e V8 ⟨A8, c8, r8, ks, rfl, hks, hr, -, ho, hb⟩
  rw [← HMM.out] at hks
  have hk2 := ris_none HNF.out hks
  subst hk2
  rw [HIP.out, HWH.out] at hr
  rw [HIP.out, HWH.out]
  clear hks HLT
  have HR8 := Lib.hid (show a6 = true → r8 = l from fun h => by
    subst h
    rw [if_pos rfl, lo_none (fun x => by unfold ldaK; simp), wys_whole HWH.out] at hr; exact hr)
  obtain ⟨m8, hm8⟩ : ∃ m, m = r8.length := ⟨_, rfl⟩
  have HM8 := Lib.hid hm8
  have HW8 := Lib.hid (show V8.ownsRow 0 52 2 (.slice A8 m8 c8) m8 (r8.flatMap kiC) from by rw [hm8]; exact own_base ho (Nat.zero_le _))
  rw [← hm8]
  replace HST := Lib.hid hb
  clear hr ho hb hm8
  replace HX := Lib.hid (HX.out.below HST.out HX.out.lt)
  replace HQ6 := Lib.hid (HQ6.out.below HST.out HQ6.out.lt)
  replace HO6 := Lib.hid (HO6.out.below HST.out)
  replace HB := Lib.hid (chain HB.out HST.out)
  go_upto_region 6 with fail
  have x0 := HX.out.cell 0 _ rfl
  have x1 := HX.out.cell 1 _ rfl
  go_wp2_with fail
  obtain ⟨Y10, hY10⟩ : ∃ W, W = V8.alloc (.cells #[.int .i64 n] 3) := ⟨_, rfl⟩
  replace HST := Lib.hid (show Below V8.heap.size V8 Y10 from by rw [hY10]; exact below_al (Below.refl _ _) _)
  have HLT := Lib.hid (show BoxC Y10 V8.heap.size 3 #[.int .i64 n] from by rw [hY10]; exact BoxC.new V8 _ _)
  rw [← hY10]
  clear hY10 x0 x1
  replace HX := Lib.hid (HX.out.below HST.out HX.out.lt)
  replace HQ6 := Lib.hid (HQ6.out.below HST.out HQ6.out.lt)
  replace HW8 := Lib.hid (own_below HW8.out HST.out)
  replace HO6 := Lib.hid (HO6.out.below HST.out)
  replace HB := Lib.hid (chain HB.out HST.out)
  refine (crraise_any (g := [n]) _ (HPZ.out _ HB.out) (ints_one HLT.out) (HKL.out _ HB.out) (Nat.le_refl _) HRP.out HN5.out (by simp)).mono ?_
  rintro e V10 ⟨A10, c10, r10, b10, rfl, hbi, hr, -, ho, hb⟩
  rw [← HMM.out] at hbi hr
  have hbt : a6 = b10 := by
    rw [HWH.out] at hbi
    cases a6
    · cases b10
      · rfl
      · exact absurd (hbi.1 rfl).1 (by decide)
    · exact (hbi.2 ⟨rfl, fun k _ => raOk_none HNF.out k⟩).symm
  subst hbt
  clear hbi HLT
  have HR10 := Lib.hid (show a6 = true → r10 = l from fun h => by
    subst h
    rw [if_pos rfl, ra_none HNF.out, wys_whole HWH.out] at hr; exact hr)
  obtain ⟨m10, hm10⟩ : ∃ m, m = r10.length := ⟨_, rfl⟩
  have HM10 := Lib.hid hm10
  have HW10 := Lib.hid (show V10.ownsRow 0 52 2 (.slice A10 m10 c10) m10 (r10.flatMap kiC) from by rw [hm10]; exact own_base ho (Nat.zero_le _))
  rw [← hm10]
  replace HST := Lib.hid hb
  clear hr ho hb hm10
  replace HX := Lib.hid (HX.out.below HST.out HX.out.lt)
  replace HQ6 := Lib.hid (HQ6.out.below HST.out HQ6.out.lt)
  replace HW8 := Lib.hid (own_below HW8.out HST.out)
  replace HO6 := Lib.hid (HO6.out.below HST.out)
  replace HB := Lib.hid (chain HB.out HST.out)
  go_upto_region 7 with fail
  have x0 := HX.out.cell 0 _ rfl
  have x1 := HX.out.cell 1 _ rfl
  go_wp2_with fail
  refine (crlower_any (g := []) _ (HPZ.out _ HB.out) (ints_nil _ _) (HKL.out _ HB.out) (Nat.le_refl _) HRP.out (by rw [HIE.out]; exact HRP.out) HN5.out (by simp) HSC.out.jmp).mono ?_
  rintro e V12 ⟨A12, c12, r12, ks, rfl, hks, hr, -, ho, hb⟩
  rw [← HMM.out] at hks
  have hk2 := ris_none HNE.out hks
  subst hk2
  rw [HIE.out, HWH.out] at hr
  rw [HIE.out, HWH.out]
  clear hks x0 x1
  have HR12 := Lib.hid (show a6 = true → r12 = l from fun h => by
    subst h
    rw [if_pos rfl, lo_none (fun x => by unfold ldaK; simp), wys_whole HWH.out] at hr; exact hr)
  obtain ⟨m12, hm12⟩ : ∃ m, m = r12.length := ⟨_, rfl⟩
  have HM12 := Lib.hid hm12
  have HW12 := Lib.hid (show V12.ownsRow 0 52 2 (.slice A12 m12 c12) m12 (r12.flatMap kiC) from by rw [hm12]; exact own_base ho (Nat.zero_le _))
  rw [← hm12]
  replace HST := Lib.hid hb
  clear hr ho hb hm12
  replace HX := Lib.hid (HX.out.below HST.out HX.out.lt)
  replace HQ6 := Lib.hid (HQ6.out.below HST.out HQ6.out.lt)
  replace HW8 := Lib.hid (own_below HW8.out HST.out)
  replace HW10 := Lib.hid (own_below HW10.out HST.out)
  replace HO6 := Lib.hid (HO6.out.below HST.out)
  replace HB := Lib.hid (chain HB.out HST.out)
  go_upto_region 8 with fail
  cases a6
  case false =>
    go_wp2
    go_ret
    exact ⟨rfl, HB.out⟩
  have HA8 := Lib.hid (HR8.out rfl)
  have HA10 := Lib.hid (HR10.out rfl)
  have HA12 := Lib.hid (HR12.out rfl)
  go_wp2_with fail
  refine (kisame_any (ns := l) _ (by have h := HW8.out; rw [HA8.out] at h; have h2 := HM8.out; rw [HA8.out] at h2; exact Rw.own (by rw [← h2]; exact h) (Nat.le_refl _)) (HKL.out _ HB.out) (Nat.le_refl _)).mono ?_
  rintro e V20 ⟨rfl, hb⟩
  replace HST := Lib.hid hb
  clear hb
  replace HX := Lib.hid (HX.out.below HST.out HX.out.lt)
  replace HQ6 := Lib.hid (HQ6.out.below HST.out HQ6.out.lt)
  replace HW8 := Lib.hid (own_below HW8.out HST.out)
  replace HW10 := Lib.hid (own_below HW10.out HST.out)
  replace HW12 := Lib.hid (own_below HW12.out HST.out)
  replace HO6 := Lib.hid (HO6.out.below HST.out)
  replace HB := Lib.hid (chain HB.out HST.out)
  go_wp2_with fail
  refine (kisame_any (ns := l) _ (by have h := HW10.out; rw [HA10.out] at h; have h2 := HM10.out; rw [HA10.out] at h2; exact Rw.own (by rw [← h2]; exact h) (Nat.le_refl _)) (HKL.out _ HB.out) (Nat.le_refl _)).mono ?_
  rintro e V21 ⟨rfl, hb⟩
  replace HST := Lib.hid hb
  clear hb
  replace HX := Lib.hid (HX.out.below HST.out HX.out.lt)
  replace HQ6 := Lib.hid (HQ6.out.below HST.out HQ6.out.lt)
  replace HW8 := Lib.hid (own_below HW8.out HST.out)
  replace HW10 := Lib.hid (own_below HW10.out HST.out)
  replace HW12 := Lib.hid (own_below HW12.out HST.out)
  replace HO6 := Lib.hid (HO6.out.below HST.out)
  replace HB := Lib.hid (chain HB.out HST.out)
  go_wp2_with fail
  refine (kisame_any (ns := l) _ (by have h := HW12.out; rw [HA12.out] at h; have h2 := HM12.out; rw [HA12.out] at h2; exact Rw.own (by rw [← h2]; exact h) (Nat.le_refl _)) (HKL.out _ HB.out) (Nat.le_refl _)).mono ?_
  rintro e V22 ⟨rfl, hb⟩
  replace HST := Lib.hid hb
  clear hb
  replace HX := Lib.hid (HX.out.below HST.out HX.out.lt)
  replace HQ6 := Lib.hid (HQ6.out.below HST.out HQ6.out.lt)
  replace HW8 := Lib.hid (own_below HW8.out HST.out)
  replace HW10 := Lib.hid (own_below HW10.out HST.out)
  replace HW12 := Lib.hid (own_below HW12.out HST.out)
  replace HO6 := Lib.hid (HO6.out.below HST.out)
  replace HB := Lib.hid (chain HB.out HST.out)
  go_wp2
  go_ret
  exact ⟨rfl, HB.out⟩
end Go.Proofs.Ytlpjgaeelnlipaa
