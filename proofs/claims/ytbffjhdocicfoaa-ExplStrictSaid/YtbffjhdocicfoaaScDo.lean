/-
  sc.do: a thread does its step, through pointers into the state.
-/
import Derived.Test.YtbffjhdocicfoaaK15
import Derived.Test.YtbffjhdocicfoaaScAt
import Derived.Deep.RegionHeld3
import Derived.Deep.DeepCutAuto
namespace Go.Proofs.Ytbffjhdocicfoaa
open Go.RowKit
set_option linter.unusedVariables false
set_option linter.unusedSimpArgs false
open CodM (St Pg rightP hReg hLoc)
open BfM (Wr plc)
open ScM

/-- All boxes stay that are neither numbers' nor threads'. -/
def KeepB (w w' : World) : Prop := ∀ g T cs, (3 : TypeId) ≠ T → (94 : TypeId) ≠ T → BoxC w g T cs → BoxC w' g T cs
theorem KeepB.refl (w : World) : KeepB w w := fun _ _ _ _ _ h => h
theorem KeepB.below {w w1 w2 : World} (h : KeepB w w1) (hb : Below w1.heap.size w1 w2) : KeepB w w2 := fun g T cs h1 h2 hx => (h g T cs h1 h2 hx).below hb (h g T cs h1 h2 hx).lt
theorem KeepB.int {w w1 : World} {g i : Nat} {cur : Array Value} (h : KeepB w w1) (hv : BoxC w1 g 3 cur) (x : Value) : KeepB w (w1.setCell ⟨g, i, none⟩ x) := fun b T cs h1 h2 hx => (h b T cs h1 h2 hx).other ((h b T cs h1 h2 hx).unlike hv h1.symm) _ _
theorem KeepB.th {w w1 : World} {g i : Nat} {cur : Array Value} (h : KeepB w w1) (hv : BoxC w1 g 94 cur) (x : Value) : KeepB w (w1.setCell ⟨g, i, none⟩ x) := fun b T cs h1 h2 hx => (h b T cs h1 h2 hx).other ((h b T cs h1 h2 hx).unlike hv h2.symm) _ _
/-- What a step that is done leaves behind. -/
def DoQ (base : Nat) (vm vt : Value) (s' : Sta) (w : World) (e : Ending) (w' : World) : Prop := e = .returned (.tuple #[]) ∧ (∃ ps', OwnSt base w' vm vt s' ps') ∧ Below base w w' ∧ KeepB w w'
theorem own_setR' {base gv cv k : Nat} {X : World} {vm vt vb : Value} {s : Sta} {h : Th} {ps : List TV} {j : Nat} {z : Int} (ho : OwnSt base X vm vt s ps) (hk : ps[k]? = some ⟨h, .slice (some ⟨gv, 0, none⟩) h.regs.length cv, vb⟩) :
    OwnSt base (X.setCell ⟨gv, j, none⟩ (.int .i64 z)) vm vt ⟨s.mem, s.ths.set k ⟨h.at', h.regs.set j z, h.eq, h.buf⟩⟩ (ps.set k ⟨⟨h.at', h.regs.set j z, h.eq, h.buf⟩, .slice (some ⟨gv, 0, none⟩) h.regs.length cv, vb⟩) := own_setR ho hk
theorem own_setM' {base gm cm j : Nat} {X : World} {vt : Value} {m : List Int} {ts : List Th} {ps : List TV} {z : Int} (ho : OwnSt base X (.slice (some ⟨gm, 0, none⟩) m.length cm) vt ⟨m, ts⟩ ps) :
    OwnSt base (X.setCell ⟨gm, j, none⟩ (.int .i64 z)) (.slice (some ⟨gm, 0, none⟩) m.length cm) vt ⟨m.set j z, ts⟩ ps := OwnSt.setM (s := ⟨m, ts⟩) ho j z
/-- A store into one cell of a thread that was put before. -/
theorem OwnSt.set1' {base g n c k i : Nat} {w : World} {vm vr vb x : Value} {m : List Int} {l : List Th} {a b : Th} {ps : List TV} (h : OwnSt base w vm (.slice (some ⟨g, 0, none⟩) n c) ⟨m, l.set k a⟩ ps) (hk : ps[k]? = some ⟨a, vr, vb⟩) (hi : i < 4) (hx : thC ⟨b, vr, vb⟩ = (thC ⟨a, vr, vb⟩).set i x)
    (h3 : b.regs = a.regs) (h4 : b.buf = a.buf) : OwnSt base (w.setCell ⟨g, k * 4 + i, none⟩ x) vm (.slice (some ⟨g, 0, none⟩) n c) ⟨m, l.set k b⟩ (ps.set k ⟨b, vr, vb⟩) := by
  obtain ⟨hkp, e⟩ := List.getElem?_eq_some_iff.1 hk
  refine (h.set1 hkp ⟨b, vr, vb⟩ hi (by rw [e]; exact hx) (by rw [e]) (by rw [e]) (by rw [e]; exact h3) (by rw [e]; exact h4)).cast ?_
  show (⟨m, (l.set k a).set k b⟩ : Sta) = _
  rw [List.set_set]
set_option maxHeartbeats 8000000 in
set_option maxRecDepth 100000 in
theorem sdo_any {base gv n c k len : Nat} {vm : Value} {s : Sta} {ps : List TV} (x : St) (w : World) (ho : OwnSt base w vm (.slice (some ⟨gv, 0, none⟩) n c) s ps) (hk : k < s.ths.length) (hpx : StP s.mem.length len s.ths[k].at'.toNat x) (hx0 : 0 ≤ s.ths[k].at') (hx1 : s.ths[k].at' < 80) (hx4 : s.ths[k].regs.length = 4) (hbw : base ≤ w.heap.size) :
    Calls Try.prog 68 #[stV x, .pointer (some ⟨gv, k * 4, none⟩), vm] w (DoQ base vm (.slice (some ⟨gv, 0, none⟩) n c) ⟨stM x s.mem s.ths[k].regs, s.ths.set k (stT x s.mem s.ths[k])⟩ w) := by
  have hkp : k < ps.length := by rw [ho.len]; exact hk
  have HPX := Lib.hid hpx
  have HPK := Lib.hid (show ps[k]? = some ⟨s.ths[k], ps[k].vr, ps[k].vb⟩ from by rw [List.getElem?_eq_getElem hkp, ← ho.at hkp hk])
  have HSE := Lib.hid (show s.ths.set k s.ths[k] = s.ths from List.set_getElem_self hk)
  have HOE0 := Lib.hid (ho.each _ (List.getElem_mem hkp))
  have HPT := Lib.hid (ho.at hkp hk)
  obtain ⟨W1, hW1⟩ : ∃ W, W = w.alloc (.cells #[.int .i64 x.op, .int .i64 x.reg, .int .i64 x.loc, .int .i64 x.n, .int .i64 x.to] 70) := ⟨_, rfl⟩
  obtain ⟨g0, hg0⟩ : ∃ g, g = w.heap.size := ⟨_, rfl⟩
  have HL1 := Lib.hid (show Below w.heap.size w W1 from by rw [hW1]; exact below_al (Below.refl _ _) _)
  have HQ0 := Lib.hid (show BoxC W1 g0 70 #[.int .i64 x.op, .int .i64 x.reg, .int .i64 x.loc, .int .i64 x.n, .int .i64 x.to] from by rw [hW1, hg0]; exact BoxC.new w _ _)
  have HO0 := Lib.hid (ho.below HL1.out)
  have HRW := Lib.hid (HO0.out.row hkp)
  rw [HPT.out] at HOE0 HRW
  generalize ps[k] = pk at *
  generalize s.ths[k] = h at *
  clear hkp HPT ho hpx
  obtain ⟨pt, vr, vb⟩ := pk
  dsimp only at HOE0 HRW HPK
  obtain ⟨xa, xr, xe, xb⟩ := h
  have HXR := Lib.hid (show xr.length = 4 from hx4)
  obtain ⟨m, rfl⟩ : ∃ m : Nat, xa = m := ⟨xa.toNat, by have h : 0 ≤ xa := hx0; omega⟩
  have hn80 : m < 80 := by have h : (m : Int) < 80 := hx1; omega
  obtain ⟨Ar, cr, rfl⟩ := own_slice HOE0.out.1
  obtain ⟨Ab, cb, rfl⟩ := own_slice HOE0.out.2.1
  obtain ⟨Am, cm, rfl⟩ := own_slice HO0.out.mem
  dsimp only at HOE0 HRW HPK
  obtain ⟨op, rg, lc, nn, tn⟩ := x
  dsimp only at HQ0 hW1
  obtain ⟨gv', cv', cur, hev, hgv, hbv, z0, z1, z2, z3⟩ := HRW.out
  injection hev with hev1 hev3 hev2
  clear hev3
  injection hev1 with hev1
  injection hev1 with hev1
  subst hev1 hev2
  have HBV := Lib.hid hbv
  have HGV := Lib.hid hgv
  clear hx0 hx1 hx4 hbv hgv HRW
  have f0 := HBV.out.frozen (k * 4)
  have hwr : IntKind.i64.wrap ((m : Int) + 1) = (m : Int) + 1 := IntWalk.i64_in _ (by omega)
  unfold stV
  dsimp only
  go_enter Try.func68, Try.ntmps68
  go_upto_region 1 with fail
  rw [← hW1]
  (try rw [← hg0])
  clear hW1 hg0
  go_upto_region 3 with fail
  obtain ⟨h1, hh1⟩ : ∃ h : Th, h = ⟨(m : Int) + 1, xr, xe, xb⟩ := ⟨_, rfl⟩
  obtain ⟨X, hX⟩ : ∃ W, W = W1.setCell ⟨gv, k * 4, none⟩ (.int .i64 ((m : Int) + 1)) := ⟨_, rfl⟩
  have HO1 := Lib.hid (show OwnSt base X (.slice Am s.mem.length cm) (.slice (some ⟨gv, 0, none⟩) n c) ⟨s.mem, s.ths.set k ⟨(m : Int) + 1, xr, xe, xb⟩⟩ (ps.set k ⟨⟨(m : Int) + 1, xr, xe, xb⟩, .slice Ar xr.length cr, .slice Ab xb.length cb⟩) from by
    have e : OwnSt base W1 (.slice Am s.mem.length cm) (.slice (some ⟨gv, 0, none⟩) n c) ⟨s.mem, s.ths.set k ⟨(m : Int), xr, xe, xb⟩⟩ ps := HO0.out.cast (by rw [HSE.out])
    rw [hX]
    exact e.set1' (i := 0) (b := ⟨(m : Int) + 1, xr, xe, xb⟩) HPK.out (by decide) rfl rfl rfl)
  have HK1 := Lib.hid (show (ps.set k ⟨⟨(m : Int) + 1, xr, xe, xb⟩, .slice Ar xr.length cr, .slice Ab xb.length cb⟩)[k]? = some ⟨⟨(m : Int) + 1, xr, xe, xb⟩, .slice Ar xr.length cr, .slice Ab xb.length cb⟩ from List.getElem?_set_self (List.getElem?_eq_some_iff.1 HPK.out).1)
  have HKB := Lib.hid (show KeepB w X from by rw [hX]; exact ((KeepB.refl w).below HL1.out).th HBV.out _)
  have HBL := Lib.hid (show Below base w X from by rw [hX]; exact (HL1.out.mono hbw).setCell (p := ⟨gv, k * 4, none⟩) HGV.out _)
  have HQ1 := Lib.hid (show BoxC X g0 70 #[.int .i64 op, .int .i64 rg, .int .i64 lc, .int .i64 nn, .int .i64 tn] from by rw [hX]; exact HQ0.out.other (HQ0.out.unlike HBV.out (by decide)) _ _)
  have HBV1 := Lib.hid (show BoxC X gv 94 (cur.setIfInBounds (k * 4) (.int .i64 ((m : Int) + 1))) from by rw [hX]; exact HBV.out.set _ _)
  have HT0 := Lib.hid (show X.cell? ⟨gv, k * 4, none⟩ = some (.int .i64 ((m : Int) + 1)) from by rw [hX]; exact World.cell?_setCell_same _ _ _ z0)
  have HT2 := Lib.hid (show X.cell? ⟨gv, k * 4 + 2, none⟩ = some (.bool xe) from by rw [hX]; exact st_oth (by omega) z2)
  have HOE := Lib.hid (HO1.out.each _ (List.mem_of_getElem? HK1.out))
  dsimp only at HOE
  rw [← hX]
  clear hX z0 z1 z2 z3 f0 hwr HOE0 HO0 HQ0 HBV h1 hh1
  have q3 := HQ1.out.cell 3 _ rfl
  have t2 := HT2.out
  refine wp_region_held_drew (S := (fun w' => w'.cell? ⟨g0, 3, none⟩ = some (.int .i64 nn) ∧ w'.cell? ⟨gv, k * 4 + 2, none⟩ = some (.bool xe) ∧ True)) (by kernel_rfl) ⟨q3, t2, trivial⟩ (fun hHeld => ?_)
  refine wpAnyH_take (i := 0) (v := ?_) rfl (by kernel_rfl) (by kernel_rfl) (by kernel_rfl) (fun _ _ _ h => h) (Or.inl ⟨by rfl, ?_⟩) (by assumption) ?_
  rotate_left
  · intro w hSw; (try dsimp only at hSw); go_simp; (try with_reducible rfl)
  (try simp only [Act.put, pt8])
  refine wpAnyH_take (i := 1) (v := ?_) rfl (by kernel_rfl) (by kernel_rfl) (by kernel_rfl) (fun _ _ _ h => h) (Or.inl ⟨by rfl, ?_⟩) (by assumption) ?_
  rotate_left
  · intro w hSw; (try dsimp only at hSw); go_simp; (try with_reducible rfl)
  (try simp only [Act.put, pt8])
  refine wpAnyH_take (i := 2) (v := ?_) rfl (by kernel_rfl) (by kernel_rfl) (by kernel_rfl) (fun _ _ _ h => h) (Or.inl ⟨by rfl, ?_⟩) (by assumption) ?_
  rotate_left
  · intro w hSw; (try dsimp only at hSw); go_simp; (try with_reducible rfl)
  (try simp only [Act.put, pt8])
  refine wpAnyH_take (i := 3) (v := ?_) rfl (by kernel_rfl) (by kernel_rfl) (by kernel_rfl) (fun _ _ _ h => h) (Or.inl ⟨by rfl, ?_⟩) (by assumption) ?_
  rotate_left
  · intro w hSw; (try dsimp only at hSw); go_simp; (try with_reducible rfl)
  (try simp only [Act.put, pt8])
  refine wpAnyH_take (i := 4) (v := ?_) rfl (by kernel_rfl) (by kernel_rfl) (by kernel_rfl) (fun _ _ _ h => h) (Or.inl ⟨by rfl, ?_⟩) (by assumption) ?_
  rotate_left
  · intro w hSw; (try dsimp only at hSw); go_simp; (try with_reducible rfl)
  (try simp only [Act.put, pt8])
  refine wpAnyH_take (i := 5) (v := ?_) rfl (by kernel_rfl) (by kernel_rfl) (by kernel_rfl) (fun _ _ _ h => h) (Or.inl ⟨by rfl, ?_⟩) (by assumption) ?_
  rotate_left
  · intro w hSw; (try dsimp only at hSw); go_simp; (try with_reducible rfl)
  (try simp only [Act.put, pt8])
  refine wpAnyH_ready (rs := [6]) (by kernel_rfl) (by simp) ?_
  refine AllReadyH.cons rfl (fun K hK => ?_) AllReadyH.nil
  go_simp
  refine hK.out _ _ hHeld (fun hHeld => ?_)
  clear hK K
  (try simp only [Act.put, pt8])
  refine wpAnyH_ready (rs := [7]) (by kernel_rfl) (by simp) ?_
  refine AllReadyH.cons rfl (fun K hK => ?_) AllReadyH.nil
  go_simp
  refine hK.out _ _ hHeld (fun hHeld => ?_)
  clear hK K
  (try simp only [Act.put, pt8])
  refine wpAnyH_done (by kernel_rfl) ?_ _
  clear hHeld
  obtain ⟨Xd, hXd⟩ : ∃ W, W = X.drew := ⟨_, rfl⟩
  have HST := Lib.hid (show Below X.heap.size X Xd from by rw [hXd]; exact below_drewN (Below.refl _ _) 1)
  replace HO1 := Lib.hid (HO1.out.below HST.out)
  replace HKB := Lib.hid (HKB.out.below HST.out)
  replace HBL := Lib.hid (HBL.out.trans (HST.out.mono (Nat.le_trans hbw HBL.out.size)))
  replace HQ1 := Lib.hid (HQ1.out.below HST.out HQ1.out.lt)
  replace HBV1 := Lib.hid (HBV1.out.below HST.out HBV1.out.lt)
  replace HT0 := Lib.hid (kc HST.out HT0.out)
  replace HT2 := Lib.hid (kc HST.out HT2.out)
  replace HOE := Lib.hid (HO1.out.each _ (List.mem_of_getElem? HK1.out))
  dsimp only at HOE
  rw [← hXd]
  clear hXd HST q3 t2
  rename World => X9
  by_cases o1 : op = 1
  · subst o1
    obtain ⟨ra, rb⟩ := HPX.out.reg rfl
    dsimp only at ra rb
    obtain ⟨r, rfl⟩ : ∃ r : Nat, rg = r := ⟨rg.toNat, by omega⟩
    have hr4 : r < xr.length := by rw [HXR.out]; omega
    obtain ⟨g, c, cu, e, hg, hbg, cell⟩ := own_nu HOE.out.1 hr4
    injection e with e1 e3 e2
    clear e3
    subst e1 e2
    obtain ⟨zr, hzr⟩ : ∃ z, z = xr[r] := ⟨_, rfl⟩
    rw [← hzr] at cell
    have HZR := Lib.hid (show nth xr (r : Int) = zr from by unfold nth; rw [hzr]; simp [hr4])
    clear hzr
    have HBG := Lib.hid hbg
    have HCL := Lib.hid cell
    have HG := Lib.hid hg
    have fg := HBG.out.frozen r
    have HAR := Lib.hid (fun W => rat_row (g := g) (n := xr.length) (c := cr) (k := r) W hr4)
    clear hbg cell hg
    have q0 := HQ1.out.cell 0 _ rfl
    have q1 := HQ1.out.cell 1 _ rfl
    have q2 := HQ1.out.cell 2 _ rfl
    have q4 := HQ1.out.cell 4 _ rfl
    have gg := HCL.out
    go_wp2_with fail
    refine (HAR.out _).mono ?_
    rintro e w1 ⟨rfl, rfl⟩
    go_wp2
    refine bodyPost_end (v := .tuple #[]) (by simp [results, Try.results68, go_sem]) rfl ?_
    exact ⟨rfl, ⟨_, (own_setR' HO1.out HK1.out).cast (by rw [List.set_set]; rfl)⟩, HBL.out.setCell (p := ⟨g, r, none⟩) HG.out _, HKB.out.int HBG.out _⟩
  by_cases o2 : op = 2
  · subst o2
    clear o1
    obtain ⟨ra, rb⟩ := HPX.out.reg rfl
    dsimp only at ra rb
    obtain ⟨r, rfl⟩ : ∃ r : Nat, rg = r := ⟨rg.toNat, by omega⟩
    have hr4 : r < xr.length := by rw [HXR.out]; omega
    obtain ⟨g, c, cu, e, hg, hbg, cell⟩ := own_nu HOE.out.1 hr4
    injection e with e1 e3 e2
    clear e3
    subst e1 e2
    obtain ⟨zr, hzr⟩ : ∃ z, z = xr[r] := ⟨_, rfl⟩
    rw [← hzr] at cell
    have HZR := Lib.hid (show nth xr (r : Int) = zr from by unfold nth; rw [hzr]; simp [hr4])
    clear hzr
    have HBG := Lib.hid hbg
    have HCL := Lib.hid cell
    have HG := Lib.hid hg
    have fg := HBG.out.frozen r
    have HAR := Lib.hid (fun W => rat_row (g := g) (n := xr.length) (c := cr) (k := r) W hr4)
    clear hbg cell hg
    obtain ⟨la, lb⟩ := HPX.out.loc rfl
    dsimp only at la lb
    obtain ⟨l, rfl⟩ : ∃ l : Nat, lc = l := ⟨lc.toNat, by omega⟩
    have hlm : l < s.mem.length := by omega
    obtain ⟨gm, c, cum, e, hgm, hbm, cell⟩ := own_nu HO1.out.mem hlm
    injection e with e1 e3 e2
    clear e3
    subst e1 e2
    obtain ⟨zm, hzm⟩ : ∃ z, z = s.mem[l] := ⟨_, rfl⟩
    rw [← hzm] at cell
    have HZM := Lib.hid (show nth s.mem (l : Int) = zm from by unfold nth; rw [hzm]; simp [hlm])
    clear hzm
    have HBM := Lib.hid hbm
    have HCM := Lib.hid cell
    have HGM := Lib.hid hgm
    have fm := HBM.out.frozen l
    have HAM := Lib.hid (fun W => rat_row (g := gm) (n := s.mem.length) (c := cm) (k := l) W hlm)
    clear hbm cell hgm la lb
    have q0 := HQ1.out.cell 0 _ rfl
    have q1 := HQ1.out.cell 1 _ rfl
    have q2 := HQ1.out.cell 2 _ rfl
    have q4 := HQ1.out.cell 4 _ rfl
    have gg := HCL.out
    have mm := HCM.out
    go_wp2_with fail
    refine (HAM.out _).mono ?_
    rintro e w1 ⟨rfl, rfl⟩
    go_wp2_with fail
    refine (HAR.out _).mono ?_
    rintro e w1 ⟨rfl, rfl⟩
    go_wp2
    refine bodyPost_end (v := .tuple #[]) (by simp [results, Try.results68, go_sem]) rfl ?_
    exact ⟨rfl, ⟨_, (own_setR' HO1.out HK1.out).cast (by rw [List.set_set]; show _ = (⟨s.mem, s.ths.set k ⟨(m : Int) + 1, xr.set r (nth s.mem (l : Int)), xe, xb⟩⟩ : Sta); rw [HZM.out])⟩, HBL.out.setCell (p := ⟨g, r, none⟩) HG.out _, HKB.out.int HBG.out _⟩
  by_cases o3 : op = 3
  · subst o3
    clear o1 o2
    obtain ⟨ra, rb⟩ := HPX.out.reg rfl
    dsimp only at ra rb
    obtain ⟨r, rfl⟩ : ∃ r : Nat, rg = r := ⟨rg.toNat, by omega⟩
    have hr4 : r < xr.length := by rw [HXR.out]; omega
    obtain ⟨g, c, cu, e, hg, hbg, cell⟩ := own_nu HOE.out.1 hr4
    injection e with e1 e3 e2
    clear e3
    subst e1 e2
    obtain ⟨zr, hzr⟩ : ∃ z, z = xr[r] := ⟨_, rfl⟩
    rw [← hzr] at cell
    have HZR := Lib.hid (show nth xr (r : Int) = zr from by unfold nth; rw [hzr]; simp [hr4])
    clear hzr
    have HBG := Lib.hid hbg
    have HCL := Lib.hid cell
    have HG := Lib.hid hg
    have fg := HBG.out.frozen r
    have HAR := Lib.hid (fun W => rat_row (g := g) (n := xr.length) (c := cr) (k := r) W hr4)
    clear hbg cell hg
    obtain ⟨la, lb⟩ := HPX.out.loc rfl
    dsimp only at la lb
    obtain ⟨l, rfl⟩ : ∃ l : Nat, lc = l := ⟨lc.toNat, by omega⟩
    have hlm : l < s.mem.length := by omega
    obtain ⟨gm, c, cum, e, hgm, hbm, cell⟩ := own_nu HO1.out.mem hlm
    injection e with e1 e3 e2
    clear e3
    subst e1 e2
    obtain ⟨zm, hzm⟩ : ∃ z, z = s.mem[l] := ⟨_, rfl⟩
    rw [← hzm] at cell
    have HZM := Lib.hid (show nth s.mem (l : Int) = zm from by unfold nth; rw [hzm]; simp [hlm])
    clear hzm
    have HBM := Lib.hid hbm
    have HCM := Lib.hid cell
    have HGM := Lib.hid hgm
    have fm := HBM.out.frozen l
    have HAM := Lib.hid (fun W => rat_row (g := gm) (n := s.mem.length) (c := cm) (k := l) W hlm)
    clear hbm cell hgm la lb
    have q0 := HQ1.out.cell 0 _ rfl
    have q1 := HQ1.out.cell 1 _ rfl
    have q2 := HQ1.out.cell 2 _ rfl
    have q4 := HQ1.out.cell 4 _ rfl
    have gg := HCL.out
    have mm := HCM.out
    go_wp2_with fail
    refine (HAR.out _).mono ?_
    rintro e w1 ⟨rfl, rfl⟩
    go_wp2_with fail
    refine (HAM.out _).mono ?_
    rintro e w1 ⟨rfl, rfl⟩
    go_wp2
    refine bodyPost_end (v := .tuple #[]) (by simp [results, Try.results68, go_sem]) rfl ?_
    exact ⟨rfl, ⟨_, (own_setM' (j := l) (z := zr) HO1.out).cast (by show _ = (⟨s.mem.set l (nth xr (r : Int)), s.ths.set k ⟨(m : Int) + 1, xr, xe, xb⟩⟩ : Sta); rw [HZR.out])⟩, HBL.out.setCell (p := ⟨gm, l, none⟩) HGM.out _, HKB.out.int HBM.out _⟩
  by_cases o4 : op = 4
  · subst o4
    clear o1 o2 o3
    obtain ⟨la, lb⟩ := HPX.out.loc rfl
    dsimp only at la lb
    obtain ⟨l, rfl⟩ : ∃ l : Nat, lc = l := ⟨lc.toNat, by omega⟩
    have hlm : l < s.mem.length := by omega
    obtain ⟨gm, c, cum, e, hgm, hbm, cell⟩ := own_nu HO1.out.mem hlm
    injection e with e1 e3 e2
    clear e3
    subst e1 e2
    obtain ⟨zm, hzm⟩ : ∃ z, z = s.mem[l] := ⟨_, rfl⟩
    rw [← hzm] at cell
    have HZM := Lib.hid (show nth s.mem (l : Int) = zm from by unfold nth; rw [hzm]; simp [hlm])
    clear hzm
    have HBM := Lib.hid hbm
    have HCM := Lib.hid cell
    have HGM := Lib.hid hgm
    have fm := HBM.out.frozen l
    have HAM := Lib.hid (fun W => rat_row (g := gm) (n := s.mem.length) (c := cm) (k := l) W hlm)
    clear hbm cell hgm la lb
    have q0 := HQ1.out.cell 0 _ rfl
    have q1 := HQ1.out.cell 1 _ rfl
    have q2 := HQ1.out.cell 2 _ rfl
    have q4 := HQ1.out.cell 4 _ rfl
    have mm := HCM.out
    go_wp2_with fail
    refine (HAM.out _).mono ?_
    rintro e w1 ⟨rfl, rfl⟩
    go_wp2
    refine bodyPost_end (v := .tuple #[]) (by simp [results, Try.results68, go_sem]) rfl ?_
    exact ⟨rfl, ⟨_, (own_setM' (j := l) (z := nn) HO1.out).cast rfl⟩, HBL.out.setCell (p := ⟨gm, l, none⟩) HGM.out _, HKB.out.int HBM.out _⟩
  by_cases o5 : op = 5
  · subst o5
    clear o1 o2 o3 o4
    obtain ⟨ra, rb⟩ := HPX.out.reg rfl
    dsimp only at ra rb
    obtain ⟨r, rfl⟩ : ∃ r : Nat, rg = r := ⟨rg.toNat, by omega⟩
    have hr4 : r < xr.length := by rw [HXR.out]; omega
    obtain ⟨g, c, cu, e, hg, hbg, cell⟩ := own_nu HOE.out.1 hr4
    injection e with e1 e3 e2
    clear e3
    subst e1 e2
    obtain ⟨zr, hzr⟩ : ∃ z, z = xr[r] := ⟨_, rfl⟩
    rw [← hzr] at cell
    have HZR := Lib.hid (show nth xr (r : Int) = zr from by unfold nth; rw [hzr]; simp [hr4])
    clear hzr
    have HBG := Lib.hid hbg
    have HCL := Lib.hid cell
    have HG := Lib.hid hg
    have fg := HBG.out.frozen r
    have HAR := Lib.hid (fun W => rat_row (g := g) (n := xr.length) (c := cr) (k := r) W hr4)
    clear hbg cell hg
    obtain ⟨la, lb⟩ := HPX.out.loc rfl
    dsimp only at la lb
    obtain ⟨l, rfl⟩ : ∃ l : Nat, lc = l := ⟨lc.toNat, by omega⟩
    have hlm : l < s.mem.length := by omega
    obtain ⟨gm, c, cum, e, hgm, hbm, cell⟩ := own_nu HO1.out.mem hlm
    injection e with e1 e3 e2
    clear e3
    subst e1 e2
    obtain ⟨zm, hzm⟩ : ∃ z, z = s.mem[l] := ⟨_, rfl⟩
    rw [← hzm] at cell
    have HZM := Lib.hid (show nth s.mem (l : Int) = zm from by unfold nth; rw [hzm]; simp [hlm])
    clear hzm
    have HBM := Lib.hid hbm
    have HCM := Lib.hid cell
    have HGM := Lib.hid hgm
    have fm := HBM.out.frozen l
    have HAM := Lib.hid (fun W => rat_row (g := gm) (n := s.mem.length) (c := cm) (k := l) W hlm)
    clear hbm cell hgm la lb
    have q0 := HQ1.out.cell 0 _ rfl
    have q1 := HQ1.out.cell 1 _ rfl
    have q2 := HQ1.out.cell 2 _ rfl
    have q4 := HQ1.out.cell 4 _ rfl
    have hgr : g ≠ gm := fun e => HOE.out.2.2 gm rfl (by rw [← e]; rfl)
    go_upto_region 19 with fail
    refine wp_region_held_drew (S := (fun w' => w'.cell? ⟨g0, 1, none⟩ = some (.int .i64 (r : Int)) ∧ w'.cell? ⟨g0, 2, none⟩ = some (.int .i64 (l : Int)) ∧ True)) (by kernel_rfl) ⟨q1, q2, trivial⟩ (fun hHeld => ?_)
    refine wpAnyH_take (i := 0) (v := ?_) rfl (by kernel_rfl) (by kernel_rfl) (by kernel_rfl) (fun _ _ _ h => h) (Or.inl ⟨by rfl, ?_⟩) (by assumption) ?_
    rotate_left
    · intro w hSw; (try dsimp only at hSw); go_simp; (try with_reducible rfl)
    (try simp only [Act.put, pt8])
    refine wpAnyH_take (i := 1) (v := ?_) rfl (by kernel_rfl) (by kernel_rfl) (by kernel_rfl) (fun _ _ _ h => h) (Or.inl ⟨by rfl, ?_⟩) (by assumption) ?_
    rotate_left
    · intro w hSw; (try dsimp only at hSw); go_simp; (try with_reducible rfl)
    (try simp only [Act.put, pt8])
    refine wpAnyH_take (i := 2) (v := ?_) rfl (by kernel_rfl) (by kernel_rfl) (by kernel_rfl) (fun _ _ _ h => h) (Or.inl ⟨by rfl, ?_⟩) (by assumption) ?_
    rotate_left
    · intro w hSw; (try dsimp only at hSw); go_simp; (try with_reducible rfl)
    (try simp only [Act.put, pt8])
    refine wpAnyH_take (i := 4) (v := ?_) rfl (by kernel_rfl) (by kernel_rfl) (by kernel_rfl) (fun _ _ _ h => h) (Or.inl ⟨by rfl, ?_⟩) (by assumption) ?_
    rotate_left
    · intro w hSw; (try dsimp only at hSw); go_simp; (try with_reducible rfl)
    (try simp only [Act.put, pt8])
    refine wpAnyH_take (i := 5) (v := ?_) rfl (by kernel_rfl) (by kernel_rfl) (by kernel_rfl) (fun _ _ _ h => h) (Or.inl ⟨by rfl, ?_⟩) (by assumption) ?_
    rotate_left
    · intro w hSw; (try dsimp only at hSw); go_simp; (try with_reducible rfl)
    (try simp only [Act.put, pt8])
    refine wpAnyH_take (i := 6) (v := ?_) rfl (by kernel_rfl) (by kernel_rfl) (by kernel_rfl) (fun _ _ _ h => h) (Or.inl ⟨by rfl, ?_⟩) (by assumption) ?_
    rotate_left
    · intro w hSw; (try dsimp only at hSw); go_simp; (try with_reducible rfl)
    (try simp only [Act.put, pt8])
    refine wpAnyH_ready (rs := [3]) (by kernel_rfl) (by simp) ?_
    refine AllReadyH.cons rfl (fun K hK => ?_) AllReadyH.nil
    go_simp
    refine (HAR.out _).mono ?_
    rintro e wz ⟨rfl, rfl⟩
    refine hK.out _ _ hHeld (fun hHeld => ?_)
    clear hK K
    (try simp only [Act.put, pt8])
    refine wpAnyH_ready (rs := [7]) (by kernel_rfl) (by simp) ?_
    refine AllReadyH.cons rfl (fun K hK => ?_) AllReadyH.nil
    go_simp
    refine (HAM.out _).mono ?_
    rintro e wz ⟨rfl, rfl⟩
    refine hK.out _ _ hHeld (fun hHeld => ?_)
    clear hK K
    (try simp only [Act.put, pt8])
    refine wpAnyH_ready (rs := [8]) (by kernel_rfl) (by simp) ?_
    refine AllReadyH.cons rfl (fun K hK => ?_) AllReadyH.nil
    go_simp
    refine hK.out _ _ hHeld (fun hHeld => ?_)
    clear hK K
    (try simp only [Act.put, pt8])
    refine wpAnyH_ready (rs := [9]) (by kernel_rfl) (by simp) ?_
    refine AllReadyH.cons rfl (fun K hK => ?_) AllReadyH.nil
    go_simp
    refine hK.out _ _ hHeld (fun hHeld => ?_)
    clear hK K
    (try simp only [Act.put, pt8])
    refine wpAnyH_done (by kernel_rfl) ?_ _
    clear hHeld fg fm q0 q1 q2 q4
    obtain ⟨Xe, hXe⟩ : ∃ W, W = X9.drew := ⟨_, rfl⟩
    have HST := Lib.hid (show Below X9.heap.size X9 Xe from by rw [hXe]; exact below_drewN (Below.refl _ _) 1)
    replace HO1 := Lib.hid (HO1.out.below HST.out)
    replace HKB := Lib.hid (HKB.out.below HST.out)
    replace HBL := Lib.hid (HBL.out.trans (HST.out.mono (Nat.le_trans hbw HBL.out.size)))
    replace HBV1 := Lib.hid (HBV1.out.below HST.out HBV1.out.lt)
    replace HBG := Lib.hid (HBG.out.below HST.out HBG.out.lt)
    replace HBM := Lib.hid (HBM.out.below HST.out HBM.out.lt)
    replace HCL := Lib.hid (kc HST.out HCL.out)
    replace HCM := Lib.hid (kc HST.out HCM.out)
    rw [← hXe]
    clear hXe HST
    go_upto_region 20 with fail
    refine wp_region_held_drew (S := (fun w' => True)) (by kernel_rfl) trivial (fun hHeld => ?_)
    obtain ⟨Xf, hXe⟩ : ∃ W, W = Xe.drew := ⟨_, rfl⟩
    have HST := Lib.hid (show Below Xe.heap.size Xe Xf from by rw [hXe]; exact below_drewN (Below.refl _ _) 1)
    replace HO1 := Lib.hid (HO1.out.below HST.out)
    replace HKB := Lib.hid (HKB.out.below HST.out)
    replace HBL := Lib.hid (HBL.out.trans (HST.out.mono (Nat.le_trans hbw HBL.out.size)))
    replace HBV1 := Lib.hid (HBV1.out.below HST.out HBV1.out.lt)
    replace HBG := Lib.hid (HBG.out.below HST.out HBG.out.lt)
    replace HBM := Lib.hid (HBM.out.below HST.out HBM.out.lt)
    replace HCL := Lib.hid (kc HST.out HCL.out)
    replace HCM := Lib.hid (kc HST.out HCM.out)
    rw [← hXe]
    clear hXe HST
    refine wpAnyH_take (i := 0) (v := ?_) rfl (by kernel_rfl) (by kernel_rfl) (by kernel_rfl) (fun _ _ _ h => h) (Or.inl ⟨by rfl, ?_⟩) (by assumption) ?_
    rotate_left
    · intro w hSw; (try dsimp only at hSw); go_simp; (try with_reducible rfl)
    (try simp only [Act.put, pt8])
    refine wpAnyH_take (i := 1) (v := ?_) rfl (by kernel_rfl) (by kernel_rfl) (by kernel_rfl) (fun _ _ _ h => h) (Or.inl ⟨by rfl, ?_⟩) (by assumption) ?_
    rotate_left
    · intro w hSw; (try dsimp only at hSw); go_simp; (try with_reducible rfl)
    (try simp only [Act.put, pt8])
    refine wpAnyH_take (i := 2) (v := ?_) rfl (by kernel_rfl) (by kernel_rfl) (by kernel_rfl) (fun _ _ _ h => h) (Or.inl ⟨by rfl, ?_⟩) (by assumption) ?_
    rotate_left
    · intro w hSw; (try dsimp only at hSw); go_simp; (try with_reducible rfl)
    (try simp only [Act.put, pt8])
    refine wpAnyH_take (i := 3) (v := ?_) rfl (by kernel_rfl) (by kernel_rfl) (by kernel_rfl) (fun _ _ _ h => h) (Or.inl ⟨by rfl, ?_⟩) (by assumption) ?_
    rotate_left
    · intro w hSw; (try dsimp only at hSw); go_simp; (try with_reducible rfl)
    (try simp only [Act.put, pt8])
    refine wpAnyH_take (i := 5) (v := ?_) rfl (by kernel_rfl) (by kernel_rfl) (by kernel_rfl) (fun _ _ _ h => h) (Or.inl ⟨by rfl, ?_⟩) (by assumption) ?_
    rotate_left
    · intro w hSw; (try dsimp only at hSw); go_simp; (try with_reducible rfl)
    (try simp only [Act.put, pt8])
    refine wpAnyH_take (i := 6) (v := ?_) rfl (by kernel_rfl) (by kernel_rfl) (by kernel_rfl) (fun _ _ _ h => h) (Or.inl ⟨by rfl, ?_⟩) (by assumption) ?_
    rotate_left
    · intro w hSw; (try dsimp only at hSw); go_simp; (try with_reducible rfl)
    (try simp only [Act.put, pt8])
    refine wpAnyH_ready (rs := [4, 7]) (by kernel_rfl) (by simp) ?_
    refine AllReadyH.cons rfl (fun K hK => ?_) (AllReadyH.cons rfl (fun K hK => ?_) (AllReadyH.nil))
    · -- 4 first
      have gg := HCL.out
      have mm := HCM.out
      go_simp
      refine hK.out _ _ trivial (fun hHeld => ?_)
      clear hK K
      (try simp only [Act.put, pt8])
      clear gg mm
      refine wpAnyH_ready (rs := [7]) (by kernel_rfl) (by simp) ?_
      refine AllReadyH.cons rfl (fun K hK => ?_) AllReadyH.nil
      have gg := HCL.out
      have mm := HCM.out
      go_simp
      refine hK.out _ _ trivial (fun hHeld => ?_)
      clear hK K
      (try simp only [Act.put, pt8])
      clear gg mm
      refine wpAnyH_take (i := 8) (v := ?_) rfl (by kernel_rfl) (by kernel_rfl) (by kernel_rfl) (fun _ _ _ h => h) (Or.inl ⟨by rfl, ?_⟩) (by assumption) ?_
      rotate_left
      · intro w hSw; (try dsimp only at hSw); go_simp; (try with_reducible rfl)
      (try simp only [Act.put, pt8])
      refine wpAnyH_ready (rs := [9]) (by kernel_rfl) (by simp) ?_
      refine AllReadyH.cons rfl (fun K hK => ?_) AllReadyH.nil
      have gg := HCL.out
      have fg := HBG.out.frozen r
      go_simp
      refine hK.out _ _ trivial (fun hHeld => ?_)
      clear hK K
      (try simp only [Act.put, pt8])
      clear gg fg
      obtain ⟨Y1, hY1⟩ : ∃ W, W = Xf.setCell ⟨g, r, none⟩ (.int .i64 zm) := ⟨_, rfl⟩
      have mm : Y1.cell? ⟨gm, l, none⟩ = some (.int .i64 zm) := by rw [hY1]; exact st_ne hgr.symm HCM.out
      have fm : Y1.frozen? ⟨gm, l, none⟩ = false := by rw [hY1]; exact (HBM.out.other hgr.symm _ _).frozen l
      have HY1 := Lib.hid hY1
      rw [← hY1]
      clear hY1
      refine wpAnyH_take (i := 10) (v := ?_) rfl (by kernel_rfl) (by kernel_rfl) (by kernel_rfl) (fun _ _ _ h => h) (Or.inl ⟨by rfl, ?_⟩) (by assumption) ?_
      rotate_left
      · intro w hSw; (try dsimp only at hSw); go_simp; (try with_reducible rfl)
      (try simp only [Act.put, pt8])
      refine wpAnyH_ready (rs := [11]) (by kernel_rfl) (by simp) ?_
      refine AllReadyH.cons rfl (fun K hK => ?_) AllReadyH.nil
      go_simp
      refine hK.out _ _ trivial (fun hHeld => ?_)
      clear hK K
      (try simp only [Act.put, pt8])
      refine wpAnyH_done (by kernel_rfl) ?_ _
      clear hHeld mm fm
      go_wp2
      rw [HY1.out]
      refine bodyPost_end (v := .tuple #[]) (by simp [results, Try.results68, go_sem]) rfl ?_
      have e1 := own_setR' (j := r) (z := zm) HO1.out HK1.out
      exact ⟨rfl, ⟨_, (own_setM' (j := l) (z := zr) e1).cast (by rw [List.set_set]; show _ = (⟨s.mem.set l (nth xr (r : Int)), s.ths.set k ⟨(m : Int) + 1, xr.set r (nth s.mem (l : Int)), xe, xb⟩⟩ : Sta); rw [HZM.out, HZR.out])⟩, (HBL.out.setCell (p := ⟨g, r, none⟩) HG.out _).setCell (p := ⟨gm, l, none⟩) HGM.out _, (HKB.out.int HBG.out _).int (HBM.out.other hgr.symm _ _) _⟩
    · -- 7 first
      have gg := HCL.out
      have mm := HCM.out
      go_simp
      refine hK.out _ _ trivial (fun hHeld => ?_)
      clear hK K
      (try simp only [Act.put, pt8])
      clear gg mm
      refine wpAnyH_ready (rs := [4]) (by kernel_rfl) (by simp) ?_
      refine AllReadyH.cons rfl (fun K hK => ?_) AllReadyH.nil
      have gg := HCL.out
      have mm := HCM.out
      go_simp
      refine hK.out _ _ trivial (fun hHeld => ?_)
      clear hK K
      (try simp only [Act.put, pt8])
      clear gg mm
      refine wpAnyH_take (i := 8) (v := ?_) rfl (by kernel_rfl) (by kernel_rfl) (by kernel_rfl) (fun _ _ _ h => h) (Or.inl ⟨by rfl, ?_⟩) (by assumption) ?_
      rotate_left
      · intro w hSw; (try dsimp only at hSw); go_simp; (try with_reducible rfl)
      (try simp only [Act.put, pt8])
      refine wpAnyH_ready (rs := [9]) (by kernel_rfl) (by simp) ?_
      refine AllReadyH.cons rfl (fun K hK => ?_) AllReadyH.nil
      have gg := HCL.out
      have fg := HBG.out.frozen r
      go_simp
      refine hK.out _ _ trivial (fun hHeld => ?_)
      clear hK K
      (try simp only [Act.put, pt8])
      clear gg fg
      obtain ⟨Y1, hY1⟩ : ∃ W, W = Xf.setCell ⟨g, r, none⟩ (.int .i64 zm) := ⟨_, rfl⟩
      have mm : Y1.cell? ⟨gm, l, none⟩ = some (.int .i64 zm) := by rw [hY1]; exact st_ne hgr.symm HCM.out
      have fm : Y1.frozen? ⟨gm, l, none⟩ = false := by rw [hY1]; exact (HBM.out.other hgr.symm _ _).frozen l
      have HY1 := Lib.hid hY1
      rw [← hY1]
      clear hY1
      refine wpAnyH_take (i := 10) (v := ?_) rfl (by kernel_rfl) (by kernel_rfl) (by kernel_rfl) (fun _ _ _ h => h) (Or.inl ⟨by rfl, ?_⟩) (by assumption) ?_
      rotate_left
      · intro w hSw; (try dsimp only at hSw); go_simp; (try with_reducible rfl)
      (try simp only [Act.put, pt8])
      refine wpAnyH_ready (rs := [11]) (by kernel_rfl) (by simp) ?_
      refine AllReadyH.cons rfl (fun K hK => ?_) AllReadyH.nil
      go_simp
      refine hK.out _ _ trivial (fun hHeld => ?_)
      clear hK K
      (try simp only [Act.put, pt8])
      refine wpAnyH_done (by kernel_rfl) ?_ _
      clear hHeld mm fm
      go_wp2
      rw [HY1.out]
      refine bodyPost_end (v := .tuple #[]) (by simp [results, Try.results68, go_sem]) rfl ?_
      have e1 := own_setR' (j := r) (z := zm) HO1.out HK1.out
      exact ⟨rfl, ⟨_, (own_setM' (j := l) (z := zr) e1).cast (by rw [List.set_set]; show _ = (⟨s.mem.set l (nth xr (r : Int)), s.ths.set k ⟨(m : Int) + 1, xr.set r (nth s.mem (l : Int)), xe, xb⟩⟩ : Sta); rw [HZM.out, HZR.out])⟩, (HBL.out.setCell (p := ⟨g, r, none⟩) HG.out _).setCell (p := ⟨gm, l, none⟩) HGM.out _, (HKB.out.int HBG.out _).int (HBM.out.other hgr.symm _ _) _⟩
  by_cases o6 : op = 6
  · subst o6
    clear o1 o2 o3 o4 o5
    have q0 := HQ1.out.cell 0 _ rfl
    have q1 := HQ1.out.cell 1 _ rfl
    have q2 := HQ1.out.cell 2 _ rfl
    have q4 := HQ1.out.cell 4 _ rfl
    go_wp2
    refine bodyPost_end (v := .tuple #[]) (by simp [results, Try.results68, go_sem]) rfl ?_
    exact ⟨rfl, ⟨_, HO1.out.cast rfl⟩, HBL.out, HKB.out⟩
  by_cases o7 : op = 7
  · subst o7
    clear o1 o2 o3 o4 o5 o6
    obtain ⟨ra, rb⟩ := HPX.out.reg rfl
    dsimp only at ra rb
    obtain ⟨r, rfl⟩ : ∃ r : Nat, rg = r := ⟨rg.toNat, by omega⟩
    have hr4 : r < xr.length := by rw [HXR.out]; omega
    obtain ⟨g, c, cu, e, hg, hbg, cell⟩ := own_nu HOE.out.1 hr4
    injection e with e1 e3 e2
    clear e3
    subst e1 e2
    obtain ⟨zr, hzr⟩ : ∃ z, z = xr[r] := ⟨_, rfl⟩
    rw [← hzr] at cell
    have HZR := Lib.hid (show nth xr (r : Int) = zr from by unfold nth; rw [hzr]; simp [hr4])
    clear hzr
    have HBG := Lib.hid hbg
    have HCL := Lib.hid cell
    have HG := Lib.hid hg
    have fg := HBG.out.frozen r
    have HAR := Lib.hid (fun W => rat_row (g := g) (n := xr.length) (c := cr) (k := r) W hr4)
    clear hbg cell hg
    have q0 := HQ1.out.cell 0 _ rfl
    have q1 := HQ1.out.cell 1 _ rfl
    have q2 := HQ1.out.cell 2 _ rfl
    have q4 := HQ1.out.cell 4 _ rfl
    have gg := HCL.out
    have t2 := HT2.out
    have f2 := HBV1.out.frozen (k * 4 + 2)
    go_wp2_with fail
    refine (HAR.out _).mono ?_
    rintro e w1 ⟨rfl, rfl⟩
    go_wp2
    refine bodyPost_end (v := .tuple #[]) (by simp [results, Try.results68, go_sem]) rfl ?_
    exact ⟨rfl, ⟨_, (HO1.out.set1' (i := 2) (b := ⟨(m : Int) + 1, xr, zr == nn, xb⟩) HK1.out (by decide) rfl rfl rfl).cast (by show _ = (⟨s.mem, s.ths.set k ⟨(m : Int) + 1, xr, decide (nth xr (r : Int) = nn), xb⟩⟩ : Sta); rw [HZR.out, show (zr == nn) = decide (zr = nn) from by by_cases c : zr = nn <;> simp [c]])⟩, HBL.out.setCell (p := ⟨gv, k * 4 + 2, none⟩) HGV.out _, HKB.out.th HBV1.out _⟩
  by_cases o8 : op = 8
  · subst o8
    clear o1 o2 o3 o4 o5 o6 o7
    have q0 := HQ1.out.cell 0 _ rfl
    have q1 := HQ1.out.cell 1 _ rfl
    have q2 := HQ1.out.cell 2 _ rfl
    have q4 := HQ1.out.cell 4 _ rfl
    have t0 := HT0.out
    have f0 := HBV1.out.frozen (k * 4)
    go_wp2
    refine bodyPost_end (v := .tuple #[]) (by simp [results, Try.results68, go_sem]) rfl ?_
    exact ⟨rfl, ⟨_, (HO1.out.set1' (i := 0) (b := ⟨tn, xr, xe, xb⟩) HK1.out (by decide) rfl rfl rfl).cast rfl⟩, HBL.out.setCell (p := ⟨gv, k * 4, none⟩) HGV.out _, HKB.out.th HBV1.out _⟩
  by_cases o9 : op = 9
  · subst o9
    clear o1 o2 o3 o4 o5 o6 o7 o8
    have q0 := HQ1.out.cell 0 _ rfl
    have q1 := HQ1.out.cell 1 _ rfl
    have q2 := HQ1.out.cell 2 _ rfl
    have q4 := HQ1.out.cell 4 _ rfl
    cases xe
    · have t0 := HT0.out
      have f0 := HBV1.out.frozen (k * 4)
      go_wp2
      refine bodyPost_end (v := .tuple #[]) (by simp [results, Try.results68, go_sem]) rfl ?_
      exact ⟨rfl, ⟨_, HO1.out.cast rfl⟩, HBL.out, HKB.out⟩
    · have t0 := HT0.out
      have f0 := HBV1.out.frozen (k * 4)
      go_wp2
      refine bodyPost_end (v := .tuple #[]) (by simp [results, Try.results68, go_sem]) rfl ?_
      exact ⟨rfl, ⟨_, (HO1.out.set1' (i := 0) (b := ⟨tn, xr, true, xb⟩) HK1.out (by decide) rfl rfl rfl).cast rfl⟩, HBL.out.setCell (p := ⟨gv, k * 4, none⟩) HGV.out _, HKB.out.th HBV1.out _⟩
  by_cases o10 : op = 10
  · subst o10
    clear o1 o2 o3 o4 o5 o6 o7 o8 o9
    have q0 := HQ1.out.cell 0 _ rfl
    have q1 := HQ1.out.cell 1 _ rfl
    have q2 := HQ1.out.cell 2 _ rfl
    have q4 := HQ1.out.cell 4 _ rfl
    cases xe
    · have t0 := HT0.out
      have f0 := HBV1.out.frozen (k * 4)
      go_wp2
      refine bodyPost_end (v := .tuple #[]) (by simp [results, Try.results68, go_sem]) rfl ?_
      exact ⟨rfl, ⟨_, (HO1.out.set1' (i := 0) (b := ⟨tn, xr, false, xb⟩) HK1.out (by decide) rfl rfl rfl).cast rfl⟩, HBL.out.setCell (p := ⟨gv, k * 4, none⟩) HGV.out _, HKB.out.th HBV1.out _⟩
    · have t0 := HT0.out
      have f0 := HBV1.out.frozen (k * 4)
      go_wp2
      refine bodyPost_end (v := .tuple #[]) (by simp [results, Try.results68, go_sem]) rfl ?_
      exact ⟨rfl, ⟨_, HO1.out.cast rfl⟩, HBL.out, HKB.out⟩
  exfalso
  have h := HPX.out.op
  dsimp only at h
  omega
end Go.Proofs.Ytbffjhdocicfoaa
