/-
  OpsTells, as a walk over any world that holds the registers: it returns true.
-/
import Derived.Test.YtlfngcekbffngaaDoorLawL
import Derived.Test.YtlfngcekbffngaaDoorRefK
import Derived.Test.YtlfngcekbffngaaDoorRefB
import Derived.Deep.DeepCutAuto
import Derived.Deep.RegionHeld3
namespace Go.Proofs.YtlfngcekbffngaaDoor
open Go.RowKit
set_option linter.unusedVariables false
set_option linter.unusedSimpArgs false
open WordM (L)

theorem keep_t {w W w' : World} {gl ga gx gy gb gc : Nat} {v0 v1 v2 v3 v4 v5 v6 v7 v8 v9 v10 v11 v12 v13 v14 v15 v16 v17 v18 v19 v20 v21 v22 v23 : Value} (hb : Below W.heap.size W w')
    (h : W.cell? ⟨gl, 0, none⟩ = some v0 ∧ W.cell? ⟨gl, 1, none⟩ = some v1 ∧ W.cell? ⟨gl, 2, none⟩ = some v2 ∧ W.cell? ⟨gl, 3, none⟩ = some v3 ∧ W.cell? ⟨gl, 4, none⟩ = some v4 ∧ W.cell? ⟨ga, 0, none⟩ = some v5 ∧ W.cell? ⟨ga, 1, none⟩ = some v6 ∧ W.cell? ⟨ga, 2, none⟩ = some v7 ∧ W.cell? ⟨gx, 0, none⟩ = some v8 ∧ W.cell? ⟨gx, 1, none⟩ = some v9 ∧ W.cell? ⟨gx, 2, none⟩ = some v10 ∧ W.cell? ⟨gx, 3, none⟩ = some v11 ∧ W.cell? ⟨gx, 4, none⟩ = some v12 ∧ W.cell? ⟨gy, 0, none⟩ = some v13 ∧ W.cell? ⟨gy, 1, none⟩ = some v14 ∧ W.cell? ⟨gy, 2, none⟩ = some v15 ∧ W.cell? ⟨gy, 3, none⟩ = some v16 ∧ W.cell? ⟨gy, 4, none⟩ = some v17 ∧ W.cell? ⟨gb, 0, none⟩ = some v18 ∧ W.cell? ⟨gb, 1, none⟩ = some v19 ∧ W.cell? ⟨gb, 2, none⟩ = some v20 ∧ W.cell? ⟨gc, 0, none⟩ = some v21 ∧ W.cell? ⟨gc, 1, none⟩ = some v22 ∧ W.cell? ⟨gc, 2, none⟩ = some v23 ∧ Regs W ∧ Below w.heap.size w W) :
    w'.cell? ⟨gl, 0, none⟩ = some v0 ∧ w'.cell? ⟨gl, 1, none⟩ = some v1 ∧ w'.cell? ⟨gl, 2, none⟩ = some v2 ∧ w'.cell? ⟨gl, 3, none⟩ = some v3 ∧ w'.cell? ⟨gl, 4, none⟩ = some v4 ∧ w'.cell? ⟨ga, 0, none⟩ = some v5 ∧ w'.cell? ⟨ga, 1, none⟩ = some v6 ∧ w'.cell? ⟨ga, 2, none⟩ = some v7 ∧ w'.cell? ⟨gx, 0, none⟩ = some v8 ∧ w'.cell? ⟨gx, 1, none⟩ = some v9 ∧ w'.cell? ⟨gx, 2, none⟩ = some v10 ∧ w'.cell? ⟨gx, 3, none⟩ = some v11 ∧ w'.cell? ⟨gx, 4, none⟩ = some v12 ∧ w'.cell? ⟨gy, 0, none⟩ = some v13 ∧ w'.cell? ⟨gy, 1, none⟩ = some v14 ∧ w'.cell? ⟨gy, 2, none⟩ = some v15 ∧ w'.cell? ⟨gy, 3, none⟩ = some v16 ∧ w'.cell? ⟨gy, 4, none⟩ = some v17 ∧ w'.cell? ⟨gb, 0, none⟩ = some v18 ∧ w'.cell? ⟨gb, 1, none⟩ = some v19 ∧ w'.cell? ⟨gb, 2, none⟩ = some v20 ∧ w'.cell? ⟨gc, 0, none⟩ = some v21 ∧ w'.cell? ⟨gc, 1, none⟩ = some v22 ∧ w'.cell? ⟨gc, 2, none⟩ = some v23 ∧ Regs w' ∧ Below w.heap.size w w' := by
  obtain ⟨h0, h1, h2, h3, h4, h5, h6, h7, h8, h9, h10, h11, h12, h13, h14, h15, h16, h17, h18, h19, h20, h21, h22, h23, hr, hB⟩ := h
  exact ⟨kc hb h0, kc hb h1, kc hb h2, kc hb h3, kc hb h4, kc hb h5, kc hb h6, kc hb h7, kc hb h8, kc hb h9, kc hb h10, kc hb h11, kc hb h12, kc hb h13, kc hb h14, kc hb h15, kc hb h16, kc hb h17, kc hb h18, kc hb h19, kc hb h20, kc hb h21, kc hb h22, kc hb h23, hr.below hb, chain hB hb⟩
theorem regs_t {w W : World} {a0 a1 a2 a3 a4 a5 a6 a7 a8 a9 a10 a11 a12 a13 a14 a15 a16 a17 a18 a19 a20 a21 a22 a23 : Prop} (h : a0 ∧ a1 ∧ a2 ∧ a3 ∧ a4 ∧ a5 ∧ a6 ∧ a7 ∧ a8 ∧ a9 ∧ a10 ∧ a11 ∧ a12 ∧ a13 ∧ a14 ∧ a15 ∧ a16 ∧ a17 ∧ a18 ∧ a19 ∧ a20 ∧ a21 ∧ a22 ∧ a23 ∧ Regs W ∧ Below w.heap.size w W) : Regs W := h.2.2.2.2.2.2.2.2.2.2.2.2.2.2.2.2.2.2.2.2.2.2.2.2.1
theorem belo_t {w W : World} {a0 a1 a2 a3 a4 a5 a6 a7 a8 a9 a10 a11 a12 a13 a14 a15 a16 a17 a18 a19 a20 a21 a22 a23 : Prop} (h : a0 ∧ a1 ∧ a2 ∧ a3 ∧ a4 ∧ a5 ∧ a6 ∧ a7 ∧ a8 ∧ a9 ∧ a10 ∧ a11 ∧ a12 ∧ a13 ∧ a14 ∧ a15 ∧ a16 ∧ a17 ∧ a18 ∧ a19 ∧ a20 ∧ a21 ∧ a22 ∧ a23 ∧ Regs W ∧ Below w.heap.size w W) : Below w.heap.size w W := h.2.2.2.2.2.2.2.2.2.2.2.2.2.2.2.2.2.2.2.2.2.2.2.2.2
set_option maxHeartbeats 8000000 in
set_option maxRecDepth 100000 in
theorem tells_main {B : Nat} {v : Value} {ls : List L} (op n t m : Int) (r o b nm s : ByteArray) (w : World) (hr : Regs w) (hn : NumM.inR n) (hm : NumM.inR m) (h : Strs B w v ls) (hBB : B ≤ w.heap.size)
    (hgl : (decide (1000 < r.size) || (decide (1000 < o.size) || decide (1000 < b.size))) = false) (hgw : greatB ls = false) (hs1 : nm.size ≤ 1000) (hs2 : s.size ≤ 1000) :
    Calls Tryd.prog 3 #[lnv op r o b n, v, atv t nm m, .string s] w fun e w' => e = .returned (.bool true) ∧ Below w.heap.size w w' := by
  have HR := Lib.hid hr
  have HS := Lib.hid (strs_more h hBB)
  have HH := Lib.hid (fun W h => head_any W h)
  have HL := Lib.hid (fun W => greatline_any op n r o b W)
  have HG := Lib.hid (fun W (h : Strs W.heap.size W v ls) => great_any W h)
  have hB := Below.refl w.heap.size w
  clear hr h
  have z := great_line_no hgl
  rw [hgl] at HL
  have hgs := greatB_no hgw
  rw [hgw] at HG
  have q1 : decide ((1000 : Int) < (nm.size : Int)) = false := decide_eq_false (by omega)
  have q2 : decide ((1000 : Int) < (s.size : Int)) = false := decide_eq_false (by omega)
  have HG0 := fun W (hr : Regs W) (h : Strs W.heap.size W v ls) => opget_any W hr h (Nat.le_refl _) (fun l hl => Nat.le_trans (hgs.2 l hl) (by omega))
  have HG1 := fun W (h : Strs W.heap.size W v ls) => rget3_any W h (Nat.le_refl _) (fun l hl => Nat.le_trans (hgs.2 l hl) (by omega))
  have HA0 := fun W h => atom_any s W h (by omega)
  have HA1 := fun W => ratom_any s W (by omega)
  rw [AtomM.ratom_eq] at HA1
  generalize OpsM.get ls = gx at *
  generalize AtomM.atom s.data.toList = ga at *
  obtain ⟨x, is⟩ := gx
  obtain ⟨c, on⟩ := ga
  have HR1 := Lib.hid (fun W h => right_any op n r o b W h)
  have HR2 := Lib.hid (fun W => rright_any op n r o b W (by omega) (by omega) (by omega))
  have HW1 := Lib.hid (fun W h => lwords_any op n r o b W h hn (by omega) (by omega))
  have HW2 := Lib.hid (fun W => rlwords_any op n r o b W hn (by omega) (by omega) (by omega))
  have HK1 := Lib.hid (fun W h => asked_any t m nm W h)
  have HK2 := Lib.hid (fun W => rasked_any t m nm W (by omega))
  have HV1 := Lib.hid (fun W h => aword_any t m nm W h hm (by omega))
  have HV2 := Lib.hid (fun W => raword_any t m nm W hm (by omega))
  clear hgl hgw hs1 hs2 z hgs
  unfold lnw lnv at HG0 HG1
  unfold lnv at HL
  unfold atw atv at HA0 HA1
  have X0 := Lib.hid HG0
  have X1 := Lib.hid HG1
  have X2 := Lib.hid HA0
  have X3 := Lib.hid HA1
  clear HG0 HG1 HA0 HA1
  show Calls Tryd.prog 3 #[.agg #[.int .i64 op, .string r, .string o, .string b, .int .i64 n], v, .agg #[.int .i64 t, .string nm, .int .i64 m], .string s] w _
  go_enter Tryd.func3, Tryd.ntmps3
  go_wp2_with fail
  refine (HH.out _ (HR.out.below (below_al (below_al hB _) _))).mono ?_
  rintro e wk1 ⟨rfl, hb⟩
  have Hl := Lib.hid (((LnBox.at (g := w.heap.size) (by first | rfl | simp) op n r o b 23).alloc _).below hb)
  have Ha := Lib.hid ((AtBox.at (g := w.heap.size + 1) (by first | rfl | simp) t m nm 26).below hb)
  replace hB := chain (below_al (below_al hB _) _) hb
  obtain ⟨l0, l1, l2, l3, l4⟩ := Hl.out
  have zl := lt_of_cell l0
  obtain ⟨a0, a1, a2⟩ := Ha.out
  have za := lt_of_cell a0
  go_wp2_with fail
  refine (HL.out _).mono ?_
  rintro e wk2 ⟨rfl, hb⟩
  clear zl l0 l1 l2 l3 l4
  clear za a0 a1 a2
  replace Hl := Lib.hid (Hl.out.below hb)
  replace Ha := Lib.hid (Ha.out.below hb)
  replace hB := chain hB hb
  obtain ⟨l0, l1, l2, l3, l4⟩ := Hl.out
  have zl := lt_of_cell l0
  obtain ⟨a0, a1, a2⟩ := Ha.out
  have za := lt_of_cell a0
  go_wp2_with fail
  refine (HG.out _ (strs_up HS.out (Nat.le_refl _) hB)).mono ?_
  rintro e wq ⟨rfl, rfl⟩
  go_wp2_with fail
  refine (X0.out _ (HR.out.below hB) (strs_up HS.out (Nat.le_refl _) hB)).mono ?_
  rintro e wk3 ⟨rfl, hb⟩
  clear zl l0 l1 l2 l3 l4
  clear za a0 a1 a2
  replace Hl := Lib.hid (Hl.out.below hb)
  replace Ha := Lib.hid (Ha.out.below hb)
  replace hB := chain hB hb
  obtain ⟨l0, l1, l2, l3, l4⟩ := Hl.out
  have zl := lt_of_cell l0
  obtain ⟨a0, a1, a2⟩ := Ha.out
  have za := lt_of_cell a0
  go_wp2_with fail
  refine (X1.out _ (strs_up HS.out (Nat.le_refl _) (below_al hB _))).mono ?_
  rintro e wk4 ⟨rfl, hb⟩
  clear zl l0 l1 l2 l3 l4
  clear za a0 a1 a2
  replace Hl := Lib.hid ((Hl.out.alloc _).below hb)
  replace Ha := Lib.hid ((Ha.out.alloc _).below hb)
  have Hx := Lib.hid ((LnBox.at (g := wk3.heap.size) (by first | rfl | simp) x.op x.n ⟨x.reg.toArray⟩ ⟨x.loc.toArray⟩ ⟨x.label.toArray⟩ 23).below hb)
  replace hB := chain (below_al hB _) hb
  obtain ⟨l0, l1, l2, l3, l4⟩ := Hl.out
  have zl := lt_of_cell l0
  obtain ⟨a0, a1, a2⟩ := Ha.out
  have za := lt_of_cell a0
  obtain ⟨x0, x1, x2, x3, x4⟩ := Hx.out
  have zx := lt_of_cell x0
  go_wp2_with fail
  refine (X2.out _ (HR.out.below (below_al hB _))).mono ?_
  rintro e wk5 ⟨rfl, hb⟩
  clear zl l0 l1 l2 l3 l4
  clear za a0 a1 a2
  clear zx x0 x1 x2 x3 x4
  replace Hl := Lib.hid ((Hl.out.alloc _).below hb)
  replace Ha := Lib.hid ((Ha.out.alloc _).below hb)
  replace Hx := Lib.hid ((Hx.out.alloc _).below hb)
  have Hy := Lib.hid ((LnBox.at (g := wk4.heap.size) (by first | rfl | simp) x.op x.n ⟨x.reg.toArray⟩ ⟨x.loc.toArray⟩ ⟨x.label.toArray⟩ 23).below hb)
  replace hB := chain (below_al hB _) hb
  obtain ⟨l0, l1, l2, l3, l4⟩ := Hl.out
  have zl := lt_of_cell l0
  obtain ⟨a0, a1, a2⟩ := Ha.out
  have za := lt_of_cell a0
  obtain ⟨x0, x1, x2, x3, x4⟩ := Hx.out
  have zx := lt_of_cell x0
  obtain ⟨y0, y1, y2, y3, y4⟩ := Hy.out
  have zy := lt_of_cell y0
  go_wp2_with fail
  refine (X3.out _).mono ?_
  rintro e wk6 ⟨rfl, hb⟩
  clear zl l0 l1 l2 l3 l4
  clear za a0 a1 a2
  clear zx x0 x1 x2 x3 x4
  clear zy y0 y1 y2 y3 y4
  replace Hl := Lib.hid ((Hl.out.alloc _).below hb)
  replace Ha := Lib.hid ((Ha.out.alloc _).below hb)
  replace Hx := Lib.hid ((Hx.out.alloc _).below hb)
  replace Hy := Lib.hid ((Hy.out.alloc _).below hb)
  have Hb := Lib.hid ((AtBox.at (g := wk5.heap.size) (by first | rfl | simp) c.t c.n ⟨c.nm.toArray⟩ 26).below hb)
  replace hB := chain (below_al hB _) hb
  obtain ⟨l0, l1, l2, l3, l4⟩ := Hl.out
  have zl := lt_of_cell l0
  obtain ⟨a0, a1, a2⟩ := Ha.out
  have za := lt_of_cell a0
  obtain ⟨x0, x1, x2, x3, x4⟩ := Hx.out
  have zx := lt_of_cell x0
  obtain ⟨y0, y1, y2, y3, y4⟩ := Hy.out
  have zy := lt_of_cell y0
  obtain ⟨b0, b1, b2⟩ := Hb.out
  have zb := lt_of_cell b0
  go_upto_region 8 with (fail)
  have HC := AtBox.new wk6 c.t c.n ⟨c.nm.toArray⟩ 26
  obtain ⟨c0, c1, c2⟩ := HC
  have hRR := HR.out.below (below_al hB (.cells #[.int .i64 c.t, .string ⟨c.nm.toArray⟩, .int .i64 c.n] 26))
  generalize OpsM.right op r.data.toList o.data.toList b.data.toList n = rb at *
  generalize OpsM.words op r.data.toList o.data.toList b.data.toList n = ws at *
  generalize AtomM.asked t nm.data.toList = kb at *
  generalize (⟨(AtomM.word t nm.data.toList m).toArray⟩ : ByteArray) = ww at *
  have hsame : sameB ws ws = true := decide_eq_true rfl
  unfold lnv at HR1 HR2 HW1 HW2
  unfold atv at HK1 HK2 HV1 HV2
  go_region_held3 (fun w' => w'.cell? ⟨w.heap.size, 0, none⟩ = some (.int .i64 op) ∧ w'.cell? ⟨w.heap.size, 1, none⟩ = some (.string r) ∧ w'.cell? ⟨w.heap.size, 2, none⟩ = some (.string o) ∧ w'.cell? ⟨w.heap.size, 3, none⟩ = some (.string b) ∧ w'.cell? ⟨w.heap.size, 4, none⟩ = some (.int .i64 n) ∧ w'.cell? ⟨w.heap.size + 1, 0, none⟩ = some (.int .i64 t) ∧ w'.cell? ⟨w.heap.size + 1, 1, none⟩ = some (.string nm) ∧ w'.cell? ⟨w.heap.size + 1, 2, none⟩ = some (.int .i64 m) ∧ w'.cell? ⟨wk3.heap.size, 0, none⟩ = some (.int .i64 x.op) ∧ w'.cell? ⟨wk3.heap.size, 1, none⟩ = some (.string ⟨x.reg.toArray⟩) ∧ w'.cell? ⟨wk3.heap.size, 2, none⟩ = some (.string ⟨x.loc.toArray⟩) ∧ w'.cell? ⟨wk3.heap.size, 3, none⟩ = some (.string ⟨x.label.toArray⟩) ∧ w'.cell? ⟨wk3.heap.size, 4, none⟩ = some (.int .i64 x.n) ∧ w'.cell? ⟨wk4.heap.size, 0, none⟩ = some (.int .i64 x.op) ∧ w'.cell? ⟨wk4.heap.size, 1, none⟩ = some (.string ⟨x.reg.toArray⟩) ∧ w'.cell? ⟨wk4.heap.size, 2, none⟩ = some (.string ⟨x.loc.toArray⟩) ∧ w'.cell? ⟨wk4.heap.size, 3, none⟩ = some (.string ⟨x.label.toArray⟩) ∧ w'.cell? ⟨wk4.heap.size, 4, none⟩ = some (.int .i64 x.n) ∧ w'.cell? ⟨wk5.heap.size, 0, none⟩ = some (.int .i64 c.t) ∧ w'.cell? ⟨wk5.heap.size, 1, none⟩ = some (.string ⟨c.nm.toArray⟩) ∧ w'.cell? ⟨wk5.heap.size, 2, none⟩ = some (.int .i64 c.n) ∧ w'.cell? ⟨wk6.heap.size, 0, none⟩ = some (.int .i64 c.t) ∧ w'.cell? ⟨wk6.heap.size, 1, none⟩ = some (.string ⟨c.nm.toArray⟩) ∧ w'.cell? ⟨wk6.heap.size, 2, none⟩ = some (.int .i64 c.n) ∧ Regs w' ∧ Below w.heap.size w w') (first | (exact ⟨kc (W := wk6) (below_drewN (below_al (Below.refl _ _) _) 1) l0, kc (W := wk6) (below_drewN (below_al (Below.refl _ _) _) 1) l1, kc (W := wk6) (below_drewN (below_al (Below.refl _ _) _) 1) l2, kc (W := wk6) (below_drewN (below_al (Below.refl _ _) _) 1) l3, kc (W := wk6) (below_drewN (below_al (Below.refl _ _) _) 1) l4, kc (W := wk6) (below_drewN (below_al (Below.refl _ _) _) 1) a0, kc (W := wk6) (below_drewN (below_al (Below.refl _ _) _) 1) a1, kc (W := wk6) (below_drewN (below_al (Below.refl _ _) _) 1) a2, kc (W := wk6) (below_drewN (below_al (Below.refl _ _) _) 1) x0, kc (W := wk6) (below_drewN (below_al (Below.refl _ _) _) 1) x1, kc (W := wk6) (below_drewN (below_al (Below.refl _ _) _) 1) x2, kc (W := wk6) (below_drewN (below_al (Below.refl _ _) _) 1) x3, kc (W := wk6) (below_drewN (below_al (Below.refl _ _) _) 1) x4, kc (W := wk6) (below_drewN (below_al (Below.refl _ _) _) 1) y0, kc (W := wk6) (below_drewN (below_al (Below.refl _ _) _) 1) y1, kc (W := wk6) (below_drewN (below_al (Below.refl _ _) _) 1) y2, kc (W := wk6) (below_drewN (below_al (Below.refl _ _) _) 1) y3, kc (W := wk6) (below_drewN (below_al (Below.refl _ _) _) 1) y4, kc (W := wk6) (below_drewN (below_al (Below.refl _ _) _) 1) b0, kc (W := wk6) (below_drewN (below_al (Below.refl _ _) _) 1) b1, kc (W := wk6) (below_drewN (below_al (Below.refl _ _) _) 1) b2, c0, c1, c2, hRR, below_drewN (below_al hB _) 1⟩) | (exact keep_t hb (by assumption))) (first | (go_at_call 16; (with_reducible refine (HR1.out _ (regs_t (by assumption))).mono ?_); rintro e w' ⟨rfl, hb⟩) | (go_at_call 17; (with_reducible refine (HR2.out _).mono ?_); rintro e w' ⟨rfl, hb⟩) | (go_at_call 19; (with_reducible refine (HW1.out _ (regs_t (by assumption))).mono ?_); rintro e w' ⟨u1, rfl, how, hb⟩; have S1 := strs_own how; clear how) | (go_at_call 20; (with_reducible refine (HW2.out _).mono ?_); rintro e w' ⟨u2, rfl, how, hb⟩; have S2 := strs_own how; clear how; have S1' := strs_up S1 (Nat.le_refl _) hb; clear S1) | (go_at_call 18; refine (same_below _ S1' S2).mono ?_; rintro e w' ⟨rfl, hb⟩) | (go_at_call 21; (with_reducible refine (HK1.out _ (regs_t (by assumption))).mono ?_); rintro e w' ⟨rfl, hb⟩) | (go_at_call 22; (with_reducible refine (HK2.out _).mono ?_); rintro e w' ⟨rfl, hb⟩) | (go_at_call 23; (with_reducible refine (HV1.out _ (regs_t (by assumption))).mono ?_); rintro e w' ⟨rfl, hb⟩) | (go_at_call 24; (with_reducible refine (HV2.out _).mono ?_); rintro e w' ⟨rfl, hb⟩))
  all_goals
    rename_i hHeld
    go_wp2
    go_ret
    exact ⟨rfl, belo_t hHeld⟩
end Go.Proofs.YtlfngcekbffngaaDoor
