/-
  LAYER 16: what the laws' head says: true.
-/
import Derived.Test.YtbffjhdocicfoaaK46
import Derived.Test.YtbffjhdocicfoaaK36
import Derived.Test.YtbffjhdocicfoaaK10
import Derived.Test.YtbffjhdocicfoaaRowP
import Derived.Test.YtbffjhdocicfoaaScW
namespace Go.Proofs.Ytbffjhdocicfoaa
open Go.RowKit Go.WideMaps
set_option linter.unusedVariables false
set_option linter.unusedSimpArgs false
open CodM (St Pg rightP hReg hLoc)
open BfM (Wr plc)
open ScM EnM ExM ExN ExP EyP EyM ExR

theorem inP_b : InP exB := ⟨by intro n hn; simp [exB] at hn; rw [hn]; exact in0, by
  intro ss hs x hx
  simp [exB] at hs
  rcases hs with rfl | rfl <;> (simp at hx; rcases hx with rfl | rfl <;> (show NumM.inR _; unfold NumM.inR; simp))⟩
theorem inP_n : InP exN := ⟨by intro n hn; simp [exN] at hn, by
  intro ss hs x hx
  simp [exN] at hs
  rw [hs] at hx; cases hx⟩
theorem rp_b : rightP exB = true := by decide
theorem rp_n : rightP exN = true := by decide
theorem exh_n1 : (expS exN true 1).2 = (1, true) := by rw [exh_n]
theorem exh_w2 : (expS exB true 100).2 = (34, true) := by rw [exh_w]
theorem exh_52 : (expS exB true 5).2 = (0, false) := by rw [exh_5]
theorem exh_02 : (expS exN false 0).2 = (0, false) := by rw [exh_0]
/-- What Explore hands back, its numbers known. -/
theorem xp_num {P : Pg} {wk : Bool} {fuel : Int} {w w' : World} {e : Ending} {n : Nat} {b : Bool} (h : XpRet P wk fuel w e w') (he : (expS P wk fuel).2 = (n, b)) : ∃ A c fs, e = .returned (.tuple #[.slice A fs.length c, .int .i64 (n : Int), .bool b]) ∧ OwnF w.heap.size w' (.slice A fs.length c) fs ∧ fs.map fvP = (expS P wk fuel).1 ∧ Below w.heap.size w w' := by
  obtain ⟨A, c, fs, h1, h2⟩ := h
  rw [he] at h1
  exact ⟨A, c, fs, h1, h2⟩
theorem fs_len {fs : List FV} {l : List FdE} {n : Nat} (h : fs.map fvP = l) (hn : l.length = n) : fs.length = n := by rw [← hn, ← h, List.length_map]
set_option maxHeartbeats 16000000 in
set_option maxRecDepth 100000 in
theorem head16_any (w : World) : Calls Try.prog 8 #[] w fun e w' => e = .returned (.bool true) ∧ Below w.heap.size w w' := by
  go_enter Try.func8, Try.ntmps8
  go_wp2_with fail
  refine (buf7_any _).mono ?_
  rintro e Y0 ⟨vi, vt, rfl, hpm, hnz, hb⟩
  have HL0 := Lib.hid hb
  have HPZ := Lib.hid (show PgZ Y0.heap.size Y0 (.agg #[vi, vt]) exB from PgV.z ⟨_, _, rfl, hpm⟩ (fun a b e => by injection e with e; injection e with e; injection e with e1 _; subst e1; exact hnz))
  clear hb hnz
  obtain ⟨⟨P0, d0, rfl, -⟩, ⟨P1, d1, rfl, -⟩⟩ := hpm
  obtain ⟨n0, hn0⟩ : ∃ n, n = bufP.init.length := ⟨_, rfl⟩
  obtain ⟨n1, hn1⟩ : ∃ n, n = bufP.ths.length := ⟨_, rfl⟩
  rw [← hn0, ← hn1] at HPZ ⊢
  clear hn0 hn1
  obtain ⟨Y1, hY1⟩ : ∃ W, W = Y0.alloc (.cells #[.slice P0 n0 d0, .slice P1 n1 d1] 25) := ⟨_, rfl⟩
  obtain ⟨gp, hgp⟩ : ∃ x, x = Y0.heap.size := ⟨_, rfl⟩
  have HX := Lib.hid (show BoxC Y1 gp 25 #[.slice P0 n0 d0, .slice P1 n1 d1] from by rw [hY1, hgp]; exact BoxC.new Y0 _ _)
  have HB1 := Lib.hid (show Below Y0.heap.size Y0 Y1 from by rw [hY1]; exact below_al (Below.refl _ _) _)
  have HBw := Lib.hid (chain HL0.out HB1.out)
  have HEX := Lib.hid (fun (wk : Bool) (fuel : Int) (W : World) (hW : Below Y0.heap.size Y0 W) => xexplore_any wk fuel W (HPZ.out.below hW) hW.size rp_b inP_b)
  go_upto_region 2 with fail
  rw [← hY1]
  (try rw [← hgp])
  clear hY1 hgp
  have x0 := HX.out.cell 0 (.slice P0 n0 d0) rfl
  have x1 := HX.out.cell 1 (.slice P1 n1 d1) rfl
  go_wp2_with fail
  refine (HEX.out false 100 _ HB1.out).mono ?_
  rintro e Y2 hxp
  obtain ⟨Aa, ca, fsa, rfl, hoa, hea, hb2⟩ := xp_num hxp exh_s2
  rw [fs_len hea exh_s1] at hoa ⊢
  have HB2 := Lib.hid (chain HB1.out hb2)
  have HBw2 := Lib.hid (chain HBw.out hb2)
  have HX2 := Lib.hid (HX.out.below hb2 HX.out.lt)
  clear hxp hoa hea hb2 x0 x1
  have x0 := HX2.out.cell 0 (.slice P0 n0 d0) rfl
  have x1 := HX2.out.cell 1 (.slice P1 n1 d1) rfl
  go_wp2_with fail
  refine (HEX.out true 100 _ HB2.out).mono ?_
  rintro e Y3 hxp
  obtain ⟨Ab, cb, fsb, rfl, hob, heb, hb2⟩ := xp_num hxp exh_w2
  rw [fs_len heb (n := 4) (by rw [exh_w]; rfl)] at hob ⊢
  have HB3 := Lib.hid (chain HB2.out hb2)
  have HBw3 := Lib.hid (chain HBw2.out hb2)
  have HX3 := Lib.hid (HX2.out.below hb2 HX2.out.lt)
  have HEB := Lib.hid (heb.trans (congrArg Prod.fst exh_w))
  have HOB3 := Lib.hid hob
  clear hxp hob heb hb2 x0 x1
  have x0 := HX3.out.cell 0 (.slice P0 n0 d0) rfl
  have x1 := HX3.out.cell 1 (.slice P1 n1 d1) rfl
  go_wp2_with fail
  refine (HEX.out true 5 _ HB3.out).mono ?_
  rintro e Y4 hxp
  obtain ⟨Ak, ck, fsk, rfl, hok, hek, hb2⟩ := xp_num hxp exh_52
  rw [fs_len hek (n := 0) (by rw [exh_5]; rfl)] at hok ⊢
  have HB4 := Lib.hid (chain HB3.out hb2)
  have HBw4 := Lib.hid (chain HBw3.out hb2)
  have HX4 := Lib.hid (HX3.out.below hb2 HX3.out.lt)
  have HOB4 := Lib.hid (HOB3.out.grow hb2)
  clear hxp hok hek hb2 x0 x1
  go_upto_region 6 with fail
  obtain ⟨Z1, hZ1⟩ : ∃ W, W = ((Y4.alloc (.cells #[] 70)).alloc (.cells #[.slice (some ⟨Y4.heap.size, 0, none⟩) 0 0] 50)).alloc (.cells #[.slice none 0 0, .slice (some ⟨Y4.heap.size + 1, 0, none⟩) 1 1] 25) := ⟨_, rfl⟩
  obtain ⟨g5, hg5⟩ : ∃ x, x = Y4.heap.size := ⟨_, rfl⟩
  obtain ⟨g6, hg6⟩ : ∃ x, x = Y4.heap.size + 1 := ⟨_, rfl⟩
  obtain ⟨g7, hg7⟩ : ∃ x, x = Y4.heap.size + 1 + 1 := ⟨_, rfl⟩
  have H6 := Lib.hid (show BoxC Z1 g6 50 #[.slice (some ⟨g5, 0, none⟩) 0 0] from by rw [hZ1, hg6, hg5]; have := BoxC.new (Y4.alloc (.cells #[] 70)) 50 #[.slice (some ⟨Y4.heap.size, 0, none⟩) 0 0]; rw [World.size_alloc] at this; exact this.alloc _)
  have H7 := Lib.hid (show BoxC Z1 g7 25 #[.slice none 0 0, .slice (some ⟨g6, 0, none⟩) 1 1] from by rw [hZ1, hg7, hg6]; have := BoxC.new ((Y4.alloc (.cells #[] 70)).alloc (.cells #[.slice (some ⟨Y4.heap.size, 0, none⟩) 0 0] 50)) 25 #[.slice none 0 0, .slice (some ⟨Y4.heap.size + 1, 0, none⟩) 1 1]; rw [World.size_alloc, World.size_alloc] at this; exact this)
  have HBZ := Lib.hid (show Below Y4.heap.size Y4 Z1 from by rw [hZ1]; exact below_al (below_al (below_al (Below.refl _ _) _) _) _)
  have HSZ := Lib.hid (show g5 < Z1.heap.size ∧ g6 < Z1.heap.size from ⟨by have := H6.out.lt; omega, H6.out.lt⟩)
  have HPN := Lib.hid (show PgZ Z1.heap.size Z1 (.agg #[.slice none 0 0, .slice (some ⟨g6, 0, none⟩) 1 1]) exN from by
    refine ⟨_, _, rfl, ⟨⟨none, 0, rfl, Nat.le_refl _, by unfold maxLen; omega, fun h => absurd h (by decide)⟩, sss_lit (ts := [[]]) HSZ.out.2 (by decide) (fun j hj => ?_)⟩, ⟨none, 0, rfl, by decide, by unfold maxLen; decide, fun _ => ⟨rfl, rfl⟩, fun h => absurd h (by decide)⟩⟩
    have : j = 0 := by simpa using hj
    subst this
    exact ⟨_, H6.out.cell 0 _ rfl, sts_lit (ss := []) HSZ.out.1 (by decide) (fun j hj => absurd hj (by simp))⟩)
  rw [← hZ1]
  (try rw [← hg7])
  (try rw [← hg6])
  (try rw [← hg5])
  clear hZ1 hg5 hg6 hg7
  have HBwZ := Lib.hid (chain HBw4.out HBZ.out)
  have HOBZ := Lib.hid (HOB4.out.grow HBZ.out)
  have HEN := Lib.hid (fun (wk : Bool) (fuel : Int) (W : World) (hW : Below Z1.heap.size Z1 W) => xexplore_any wk fuel W (HPN.out.below hW) hW.size rp_n inP_n)
  have x0 := H7.out.cell 0 (.slice none 0 0) rfl
  have x1 := H7.out.cell 1 (.slice (some ⟨g6, 0, none⟩) 1 1) rfl
  go_wp2_with fail
  refine (HEN.out true 1 _ (Below.refl _ _)).mono ?_
  rintro e Z2 hxp
  obtain ⟨Ac, cc, fsc, rfl, hoc, hec, hb2⟩ := xp_num hxp exh_n1
  rw [fs_len hec (n := 1) (by rw [exh_n]; rfl)] at hoc ⊢
  rw [exh_n] at hec
  have HBZ2 := Lib.hid hb2
  have HBwZ2 := Lib.hid (chain HBwZ.out hb2)
  have HOBZ2 := Lib.hid (HOBZ.out.grow hb2)
  have HOC2 := Lib.hid hoc
  have HEC := Lib.hid hec
  have H7b := Lib.hid (H7.out.below hb2 H7.out.lt)
  clear hxp hoc hec hb2 x0 x1
  have x0 := H7b.out.cell 0 (.slice none 0 0) rfl
  have x1 := H7b.out.cell 1 (.slice (some ⟨g6, 0, none⟩) 1 1) rfl
  go_wp2_with fail
  refine (HEN.out false 0 _ HBZ2.out).mono ?_
  rintro e Z3 hxp
  obtain ⟨Ad, cd, fsd, rfl, hod, hed, hb2⟩ := xp_num hxp exh_02
  rw [fs_len hed (n := 0) (by rw [exh_0]; rfl)]
  have HBwZ3 := Lib.hid (chain HBwZ2.out hb2)
  have HOB := Lib.hid (HOBZ2.out.grow hb2)
  have HOC := Lib.hid (HOC2.out.grow hb2)
  clear hxp hod hed hb2 x0 x1
  go_upto_region 10 with fail
  have HLB := Lib.hid (fs_len HEB.out (n := 4) rfl)
  have HLC := Lib.hid (fs_len HEC.out (n := 1) rfl)
  obtain ⟨gb, rfl, -, b1, b2⟩ := fd_at HOB.out (k := 0) (by rw [HLB.out]; decide)
  obtain ⟨gc, rfl, -, -, c2⟩ := fd_at HOC.out (k := 0) (by rw [HLC.out]; decide)
  have hfb := HOB.out.ok _ (List.getElem_mem (show 0 < fsb.length from by rw [HLB.out]; decide))
  have hfc := HOC.out.ok _ (List.getElem_mem (show 0 < fsc.length from by rw [HLC.out]; decide))
  have hb0 : fvP (fsb[0]'(by rw [HLB.out]; decide)) = (([1, 1], [0, 0, 0, 0, 0, 0, 0, 0]), [(0, false), (0, false), (1, false), (1, false), (0, true), (1, true)]) := by
    have := congrArg (fun l => l[0]?) HEB.out
    simp only [List.getElem?_map] at this
    rw [List.getElem?_eq_getElem (by rw [HLB.out]; decide)] at this
    exact Option.some.inj this
  have hc0 : fvP (fsc[0]'(by rw [HLC.out]; decide)) = (([], [0, 0, 0, 0]), []) := by
    have := congrArg (fun l => l[0]?) HEC.out
    simp only [List.getElem?_map] at this
    rw [List.getElem?_eq_getElem (by rw [HLC.out]; decide)] at this
    exact Option.some.inj this
  have HOS := Lib.hid (show ∀ f ∈ fsb, f.o.1.length ≤ 1000000 ∧ f.o.2.length ≤ 1000000 from fun f hf => by
    have : fvP f ∈ exBw := by rw [← HEB.out]; exact List.mem_map.2 ⟨f, hf, rfl⟩
    simp only [exBw, List.mem_cons, List.not_mem_nil, or_false] at this
    rcases this with e | e | e | e <;> (have e1 := congrArg Prod.fst e; change f.o = _ at e1; rw [e1]; decide))
  obtain ⟨xb, hxb⟩ : ∃ z, z = fsb[0]'(by rw [HLB.out]; decide) := ⟨_, rfl⟩
  obtain ⟨xc, hxc⟩ : ∃ z, z = fsc[0]'(by rw [HLC.out]; decide) := ⟨_, rfl⟩
  rw [← hxb] at b1 b2 hfb hb0
  rw [← hxc] at c2 hfc hc0
  obtain ⟨bm, br, bp, bo, bk⟩ := xb
  obtain ⟨cm, cr, cp, co, ck⟩ := xc
  injection hb0 with hb0 hb1
  injection hc0 with hc0 hc1
  change bo = _ at hb0
  change bk = _ at hb1
  change co = _ at hc0
  change ck = _ at hc1
  subst hb0 hb1 hc0 hc1
  dsimp only at b1 b2 c2 hfb hfc
  clear hxb hxc
  have hsb := hfb.sl
  have hsc := hfc.sl
  dsimp only at hsb hsc
  obtain ⟨-, ⟨B1, k1, rfl⟩, B2, k2, rfl⟩ := hsb
  obtain ⟨-, -, C2, k3, rfl⟩ := hsc
  have HIR := Lib.hid hfb.2.1
  clear hfb hfc
  simp only [List.length_cons, List.length_nil, Nat.zero_mul, Nat.zero_add, Nat.reduceAdd] at b1 b2 c2 HIR
  have HSI := Lib.hid (fun (W : World) (hW : Below Z3.heap.size Z3 W) (u : Value) (hu : IntR W.heap.size W u [0, 0, 0, 0, 0, 0, 0, 0]) => nsame_dec W (Rw.own (own_below HIR.out hW) (Nat.le_refl _)) hu (Nat.le_refl _))
  have HEN2 := Lib.hid (fun (W : World) (hW : Below Z3.heap.size Z3 W) => xens_any W (HOB.out.grow hW) HLB.out.symm (by decide) HOS.out)
  go_wp2_with fail
  have HZL := Lib.hid (show OwnI Z3.heap.size (Z3.alloc (.cells #[.int .i64 0, .int .i64 0, .int .i64 0, .int .i64 0, .int .i64 0, .int .i64 0, .int .i64 0, .int .i64 0] 3)) (.slice (some ⟨Z3.heap.size, 0, none⟩) 8 8) [0, 0, 0, 0, 0, 0, 0, 0] from World.ownsRow_lit (base := Z3.heap.size) (e := 3) (size := 1) Z3 #[.int .i64 0, .int .i64 0, .int .i64 0, .int .i64 0, .int .i64 0, .int .i64 0, .int .i64 0, .int .i64 0] 8 (Nat.le_refl _) (by decide) rfl)
  have HBL := Lib.hid (below_al (Below.refl Z3.heap.size Z3) (.cells #[.int .i64 0, .int .i64 0, .int .i64 0, .int .i64 0, .int .i64 0, .int .i64 0, .int .i64 0, .int .i64 0] 3))
  refine (HSI.out _ HBL.out _ (Rw.own HZL.out (Nat.le_refl _))).mono ?_
  rintro e Z5 ⟨bq, rfl, hbq, hb5⟩
  obtain rfl : bq = true := hbq.2 rfl
  have HB5 := Lib.hid (chain HBL.out hb5)
  have c2' := kc HB5.out c2
  have b2' := kc HB5.out b2
  clear hbq hb5 c2 b1 b2
  have c2 := c2'
  have b2 := b2'
  clear c2' b2'
  go_wp2_with fail
  refine (HEN2.out _ HB5.out).mono ?_
  rintro e Z6 ⟨A6, c6, zs, rfl, hk6⟩
  rw [HLB.out]
  have HB6 := Lib.hid (show Below w.heap.size w Z6 from chain (chain HBwZ3.out HB5.out) hk6.below)
  clear hk6 c2 b2
  go_wp2
  go_ret
  exact ⟨rfl, HB6.out⟩
end Go.Proofs.Ytbffjhdocicfoaa
