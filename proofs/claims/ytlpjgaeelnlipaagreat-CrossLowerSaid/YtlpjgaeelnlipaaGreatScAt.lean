/-
  THE DOCUMENT's At of layer 10: the step at which a thread is.
-/
import Derived.Test.YtlpjgaeelnlipaaGreatK02
import Derived.Test.YtlpjgaeelnlipaaGreatScW
import Derived.Test.YtlpjgaeelnlipaaGreatScX
import Derived.Deep.RegionHeld3
import Derived.Deep.DeepCutAuto
namespace Go.Proofs.YtlpjgaeelnlipaaGreat
open Go.RowKit
set_option linter.unusedVariables false
set_option linter.unusedSimpArgs false
open CodM (St Pg rightP)
open BfM (Wr plc)
open ScM

def stV (x : St) : Value := .agg #[.int .i64 x.op, .int .i64 x.reg, .int .i64 x.loc, .int .i64 x.n, .int .i64 x.to]
/-- What At hands back. -/
def atV (P : Pg) (s : Sta) (t : Int) : Value := match atS P s t with
  | some x => .tuple #[stV x, .bool true]
  | none => .tuple #[stV ⟨0, 0, 0, 0, 0⟩, .bool false]
theorem box5 (w : World) (a b c d e : Value) (T : TypeId) : ∀ i v, (#[a, b, c, d, e] : Array Value)[i]? = some v → (w.alloc (.cells #[a, b, c, d, e] T)).cell? ⟨w.heap.size, i, none⟩ = some v ∧ (w.alloc (.cells #[a, b, c, d, e] T)).frozen? ⟨w.heap.size, i, none⟩ = false := fun i v h => by
  constructor
  · rw [World.cell?_alloc_at _ _ _ _ rfl]; exact h
  · rw [World.frozen?_alloc_at _ _ _ _ rfl]
theorem st_oth {w : World} {x i y j : Nat} {u v : Value} (h : i ≠ j) (hc : w.cell? ⟨y, j, none⟩ = some u) : (w.setCell ⟨x, i, none⟩ v).cell? ⟨y, j, none⟩ = some u := by
  rw [World.cell?_setCell_other _ _ _ _ (by simp; try omega)]; exact hc
/-- Five stores into a box of five cells. -/
theorem set5 {w : World} {g : Nat} {a b c d e z0 z1 z2 z3 z4 : Value} (h0 : w.cell? ⟨g, 0, none⟩ = some z0) (h1 : w.cell? ⟨g, 1, none⟩ = some z1) (h2 : w.cell? ⟨g, 2, none⟩ = some z2) (h3 : w.cell? ⟨g, 3, none⟩ = some z3) (h4 : w.cell? ⟨g, 4, none⟩ = some z4) :
    let W := ((((w.setCell ⟨g, 0, none⟩ a).setCell ⟨g, 1, none⟩ b).setCell ⟨g, 2, none⟩ c).setCell ⟨g, 3, none⟩ d).setCell ⟨g, 4, none⟩ e
    W.cell? ⟨g, 0, none⟩ = some a ∧ W.cell? ⟨g, 1, none⟩ = some b ∧ W.cell? ⟨g, 2, none⟩ = some c ∧ W.cell? ⟨g, 3, none⟩ = some d ∧ W.cell? ⟨g, 4, none⟩ = some e := by
  intro W
  have e0 := World.cell?_setCell_same w ⟨g, 0, none⟩ a h0
  have e1 := World.cell?_setCell_same (w.setCell ⟨g, 0, none⟩ a) ⟨g, 1, none⟩ b (st_oth (by decide) h1)
  have e2 := World.cell?_setCell_same ((w.setCell ⟨g, 0, none⟩ a).setCell ⟨g, 1, none⟩ b) ⟨g, 2, none⟩ c (st_oth (by decide) (st_oth (by decide) h2))
  have e3 := World.cell?_setCell_same (((w.setCell ⟨g, 0, none⟩ a).setCell ⟨g, 1, none⟩ b).setCell ⟨g, 2, none⟩ c) ⟨g, 3, none⟩ d (st_oth (by decide) (st_oth (by decide) (st_oth (by decide) h3)))
  have e4 := World.cell?_setCell_same ((((w.setCell ⟨g, 0, none⟩ a).setCell ⟨g, 1, none⟩ b).setCell ⟨g, 2, none⟩ c).setCell ⟨g, 3, none⟩ d) ⟨g, 4, none⟩ e (st_oth (by decide) (st_oth (by decide) (st_oth (by decide) (st_oth (by decide) h4))))
  exact ⟨st_oth (by decide) (st_oth (by decide) (st_oth (by decide) (st_oth (by decide) e0))), st_oth (by decide) (st_oth (by decide) (st_oth (by decide) e1)), st_oth (by decide) (st_oth (by decide) e2), st_oth (by decide) e3, e4⟩
theorem drew5 {X : World} {g : Nat} {a b c d e : Value} (h : X.cell? ⟨g, 0, none⟩ = some a ∧ X.cell? ⟨g, 1, none⟩ = some b ∧ X.cell? ⟨g, 2, none⟩ = some c ∧ X.cell? ⟨g, 3, none⟩ = some d ∧ X.cell? ⟨g, 4, none⟩ = some e) :
    X.drew.cell? ⟨g, 0, none⟩ = some a ∧ X.drew.cell? ⟨g, 1, none⟩ = some b ∧ X.drew.cell? ⟨g, 2, none⟩ = some c ∧ X.drew.cell? ⟨g, 3, none⟩ = some d ∧ X.drew.cell? ⟨g, 4, none⟩ = some e := h
theorem below_set5 {B g : Nat} {w0 w : World} {a b c d e : Value} (h : Below B w0 w) (hg : B ≤ g) : Below B w0 (((((w.setCell ⟨g, 0, none⟩ a).setCell ⟨g, 1, none⟩ b).setCell ⟨g, 2, none⟩ c).setCell ⟨g, 3, none⟩ d).setCell ⟨g, 4, none⟩ e) :=
  ((((h.setCell (p := ⟨g, 0, none⟩) hg a).setCell (p := ⟨g, 1, none⟩) hg b).setCell (p := ⟨g, 2, none⟩) hg c).setCell (p := ⟨g, 3, none⟩) hg d).setCell (p := ⟨g, 4, none⟩) hg e
theorem drewc {X : World} {p : Addr} {v : Value} (h : X.cell? p = some v) : X.drew.drew.cell? p = some v := h
theorem atS_past {P : Pg} {s : Sta} {k : Nat} {h1 : k < s.ths.length} {h2 : k < P.ths.length} (h : ¬ s.ths[k].at'.toNat < P.ths[k].length) : atS P s k = none :=
  atS_none (fun ⟨j, e, i1, i2, i3⟩ => by
    have : j = k := by omega
    subst this
    exact h i3)
theorem keep5 {w : World} {g b i : Nat} {v a0 a1 a2 a3 a4 : Value} (h : b ≠ g) (hc : w.cell? ⟨b, i, none⟩ = some v) :
    (((((w.setCell ⟨g, 0, none⟩ a0).setCell ⟨g, 1, none⟩ a1).setCell ⟨g, 2, none⟩ a2).setCell ⟨g, 3, none⟩ a3).setCell ⟨g, 4, none⟩ a4).cell? ⟨b, i, none⟩ = some v := by
  have e : ∀ (W : World) (j : Nat) (u : Value), W.cell? ⟨b, i, none⟩ = some v → (W.setCell ⟨g, j, none⟩ u).cell? ⟨b, i, none⟩ = some v := fun W j u hW => (World.cell?_setCell_other _ _ _ _ (fun e => by injection e with e1 _; exact h e1.symm)).trans hW
  exact e _ _ _ (e _ _ _ (e _ _ _ (e _ _ _ (e _ _ _ hc))))
set_option maxHeartbeats 8000000 in
set_option maxRecDepth 100000 in
theorem rat_any {B : Nat} {v u : Value} {P : Pg} {s : Sta} (t : Int) (w : World) (hv : PgV B w v P) (hu : StaV B w u s) (hBB : B ≤ w.heap.size) (ho : OkSt P s) :
    Calls Tryz.prog 51 #[v, u, .int .i64 t] w fun e w' => e = .returned (atV P s t) ∧ Below w.heap.size w w' := by
  obtain ⟨pi, pt, rfl, hpi, hpt⟩ := hv
  obtain ⟨vm, vt, rfl, hvm, hvt⟩ := hu
  obtain ⟨P0, d0, rfl, -⟩ := hpi
  obtain ⟨P1, d1, rfl, l1, l2, l3⟩ := hpt
  obtain ⟨A7, c7, rfl, -⟩ := hvm
  obtain ⟨A1, c1, rfl, g1, g2, -, g3⟩ := hvt
  unfold maxLen at l2 g2
  have HO := Lib.hid ho
  have HCO := Lib.hid (show Tryz.prog.cellsOf 75 = 5 from by kernel_rfl)
  have hB1 := below_al (Below.refl w.heap.size w) (.cells #[.slice P0 P.init.length d0, .slice P1 P.ths.length d1] 25)
  have hB2 := below_al hB1 (.cells #[.slice A7 s.mem.length c7, .slice A1 s.ths.length c1] 39)
  have hB3 := below_al hB2 (.cells #[.int .i64 0, .int .i64 0, .int .i64 0, .int .i64 0, .int .i64 0] 75)
  have hs1 : (w.alloc (.cells #[.slice P0 P.init.length d0, .slice P1 P.ths.length d1] 25)).heap.size = w.heap.size + 1 := by simp
  have hs2 : ((w.alloc (.cells #[.slice P0 P.init.length d0, .slice P1 P.ths.length d1] 25)).alloc (.cells #[.slice A7 s.mem.length c7, .slice A1 s.ths.length c1] 39)).heap.size = w.heap.size + 1 + 1 := by simp
  have HX := Lib.hid (((PgBox.at (w := w) rfl (.slice P0 P.init.length d0) (.slice P1 P.ths.length d1) 25).below (below_al (Below.refl _ _) (.cells #[.slice A7 s.mem.length c7, .slice A1 s.ths.length c1] 39))).below (below_al (Below.refl _ _) (.cells #[.int .i64 0, .int .i64 0, .int .i64 0, .int .i64 0, .int .i64 0] 75)))
  have HY := Lib.hid ((PgBox.at (w := w.alloc (.cells #[.slice P0 P.init.length d0, .slice P1 P.ths.length d1] 25)) hs1.symm (.slice A7 s.mem.length c7) (.slice A1 s.ths.length c1) 39).below (below_al (Below.refl _ _) (.cells #[.int .i64 0, .int .i64 0, .int .i64 0, .int .i64 0, .int .i64 0] 75)))
  have hb5 := box5 ((w.alloc (.cells #[.slice P0 P.init.length d0, .slice P1 P.ths.length d1] 25)).alloc (.cells #[.slice A7 s.mem.length c7, .slice A1 s.ths.length c1] 39)) (.int .i64 0) (.int .i64 0) (.int .i64 0) (.int .i64 0) (.int .i64 0) 75
  rw [hs2] at hb5
  obtain ⟨W3, hW3⟩ : ∃ W, W = (((w.alloc (.cells #[.slice P0 P.init.length d0, .slice P1 P.ths.length d1] 25)).alloc (.cells #[.slice A7 s.mem.length c7, .slice A1 s.ths.length c1] 39)).alloc (.cells #[.int .i64 0, .int .i64 0, .int .i64 0, .int .i64 0, .int .i64 0] 75)) := ⟨_, rfl⟩
  obtain ⟨gr, hgr⟩ : ∃ g, g = w.heap.size + 1 + 1 := ⟨_, rfl⟩
  rw [← hW3, ← hgr] at hb5
  have HZ := Lib.hid (show (W3.cell? ⟨gr, 0, none⟩ = some (.int .i64 0) ∧ W3.cell? ⟨gr, 1, none⟩ = some (.int .i64 0) ∧ W3.cell? ⟨gr, 2, none⟩ = some (.int .i64 0) ∧ W3.cell? ⟨gr, 3, none⟩ = some (.int .i64 0) ∧ W3.cell? ⟨gr, 4, none⟩ = some (.int .i64 0)) ∧ W3.frozen? ⟨gr, 0, none⟩ = false ∧ W3.frozen? ⟨gr, 1, none⟩ = false ∧ W3.frozen? ⟨gr, 2, none⟩ = false ∧ W3.frozen? ⟨gr, 3, none⟩ = false ∧ W3.frozen? ⟨gr, 4, none⟩ = false from
    ⟨⟨(hb5 0 _ rfl).1, (hb5 1 _ rfl).1, (hb5 2 _ rfl).1, (hb5 3 _ rfl).1, (hb5 4 _ rfl).1⟩, (hb5 0 _ rfl).2, (hb5 1 _ rfl).2, (hb5 2 _ rfl).2, (hb5 3 _ rfl).2, (hb5 4 _ rfl).2⟩)
  obtain ⟨gp, hgp⟩ : ∃ g, g = w.heap.size := ⟨_, rfl⟩
  obtain ⟨gs, hgs⟩ : ∃ g, g = w.heap.size + 1 := ⟨_, rfl⟩
  have HXY := Lib.hid (show PgBox W3 gp (.slice P0 P.init.length d0) (.slice P1 P.ths.length d1) ∧ PgBox W3 gs (.slice A7 s.mem.length c7) (.slice A1 s.ths.length c1) from by rw [hW3, hgp, hgs]; exact ⟨HX.out, HY.out⟩)
  have HB3 := Lib.hid (show Below w.heap.size w W3 from by rw [hW3]; exact hB3)
  have HGR := Lib.hid (show w.heap.size ≤ gr from by omega)
  obtain ⟨⟨x0, x1⟩, y0, y1⟩ := HXY.out
  clear hB1 hB2 hB3 hs1 hs2 HX HY hb5 ho
  by_cases h1 : t < 0
  · have HV := Lib.hid (show atV P s t = .tuple #[stV ⟨0, 0, 0, 0, 0⟩, .bool false] from by unfold atV; rw [atS_none (fun ⟨k, e, _⟩ => by omega)])
    go_enter Tryz.func51, Tryz.ntmps51
    go_upto_region 1 with fail
    rw [← hW3]
    (try rw [← hgr])
    (try rw [← hgs])
    (try rw [← hgp])
    clear hW3 hgr hgs hgp
    refine wp_region_held_drew (S := (fun w' => (w'.cell? ⟨gs, 1, none⟩ = some (.slice A1 s.ths.length c1) ∧ True) ∧ Below W3.heap.size W3 w')) (by kernel_rfl) ⟨⟨y1, trivial⟩, below_drewN (Below.refl _ _) 1⟩ (fun hHeld => ?_)
    refine wtk 0 ?_ ?_ ?_
    rotate_left
    · intro w hSw; (try dsimp only at hSw); go_simp; (try with_reducible rfl)
    (try simp only [Act.put, pt8])
    refine wtk 1 ?_ ?_ ?_
    rotate_left
    · intro w hSw; (try dsimp only at hSw); go_simp; (try with_reducible rfl)
    (try simp only [Act.put, pt8])
    refine wtk 2 ?_ ?_ ?_
    rotate_left
    · intro w hSw; (try dsimp only at hSw); go_simp; (try with_reducible rfl)
    (try simp only [Act.put, pt8])
    refine wpAnyH_take (i := 3) (v := undef) rfl (by kernel_rfl) (by kernel_rfl) (by kernel_rfl) (fun _ _ _ h => h) (Or.inr ⟨by rfl, rfl⟩) (by assumption) ?_
    (try simp only [Act.put, pt8])
    refine wpAnyH_take (i := 4) (v := undef) rfl (by kernel_rfl) (by kernel_rfl) (by kernel_rfl) (fun _ _ _ h => h) (Or.inr ⟨by rfl, rfl⟩) (by assumption) ?_
    (try simp only [Act.put, pt8])
    refine wpAnyH_take (i := 5) (v := undef) rfl (by kernel_rfl) (by kernel_rfl) (by kernel_rfl) (fun _ _ _ h => h) (Or.inr ⟨by rfl, rfl⟩) (by assumption) ?_
    (try simp only [Act.put, pt8])
    refine wpAnyH_take (i := 6) (v := undef) rfl (by kernel_rfl) (by kernel_rfl) (by kernel_rfl) (fun _ _ _ h => h) (Or.inr ⟨by rfl, rfl⟩) (by assumption) ?_
    (try simp only [Act.put, pt8])
    refine wpAnyH_take (i := 7) (v := undef) rfl (by kernel_rfl) (by kernel_rfl) (by kernel_rfl) (fun _ _ _ h => h) (Or.inr ⟨by rfl, rfl⟩) (by assumption) ?_
    (try simp only [Act.put, pt8])
    refine wtk 8 ?_ ?_ ?_
    rotate_left
    · intro w hSw; (try dsimp only at hSw); go_simp; (try with_reducible rfl)
    (try simp only [Act.put, pt8])
    refine wtk 9 ?_ ?_ ?_
    rotate_left
    · intro w hSw; (try dsimp only at hSw); go_simp; (try with_reducible rfl)
    (try simp only [Act.put, pt8])
    refine wpAnyH_take (i := 10) (v := undef) rfl (by kernel_rfl) (by kernel_rfl) (by kernel_rfl) (fun _ _ _ h => h) (Or.inr ⟨by rfl, rfl⟩) (by assumption) ?_
    (try simp only [Act.put, pt8])
    refine wpAnyH_take (i := 11) (v := undef) rfl (by kernel_rfl) (by kernel_rfl) (by kernel_rfl) (fun _ _ _ h => h) (Or.inr ⟨by rfl, rfl⟩) (by assumption) ?_
    (try simp only [Act.put, pt8])
    refine wpAnyH_take (i := 12) (v := undef) rfl (by kernel_rfl) (by kernel_rfl) (by kernel_rfl) (fun _ _ _ h => h) (Or.inr ⟨by rfl, rfl⟩) (by assumption) ?_
    (try simp only [Act.put, pt8])
    refine wpAnyH_take (i := 13) (v := undef) rfl (by kernel_rfl) (by kernel_rfl) (by kernel_rfl) (fun _ _ _ h => h) (Or.inr ⟨by rfl, rfl⟩) (by assumption) ?_
    (try simp only [Act.put, pt8])
    refine wpAnyH_take (i := 14) (v := undef) rfl (by kernel_rfl) (by kernel_rfl) (by kernel_rfl) (fun _ _ _ h => h) (Or.inr ⟨by rfl, rfl⟩) (by assumption) ?_
    (try simp only [Act.put, pt8])
    refine wpAnyH_take (i := 15) (v := undef) rfl (by kernel_rfl) (by kernel_rfl) (by kernel_rfl) (fun _ _ _ h => h) (Or.inr ⟨by rfl, rfl⟩) (by assumption) ?_
    (try simp only [Act.put, pt8])
    refine wpAnyH_take (i := 16) (v := undef) rfl (by kernel_rfl) (by kernel_rfl) (by kernel_rfl) (fun _ _ _ h => h) (Or.inr ⟨by rfl, rfl⟩) (by assumption) ?_
    (try simp only [Act.put, pt8])
    refine wpAnyH_take (i := 17) (v := undef) rfl (by kernel_rfl) (by kernel_rfl) (by kernel_rfl) (fun _ _ _ h => h) (Or.inr ⟨by rfl, rfl⟩) (by assumption) ?_
    (try simp only [Act.put, pt8])
    refine wpAnyH_take (i := 18) (v := undef) rfl (by kernel_rfl) (by kernel_rfl) (by kernel_rfl) (fun _ _ _ h => h) (Or.inr ⟨by rfl, rfl⟩) (by assumption) ?_
    (try simp only [Act.put, pt8])
    refine wpAnyH_take (i := 19) (v := undef) rfl (by kernel_rfl) (by kernel_rfl) (by kernel_rfl) (fun _ _ _ h => h) (Or.inr ⟨by rfl, rfl⟩) (by assumption) ?_
    (try simp only [Act.put, pt8])
    refine wpAnyH_take (i := 20) (v := undef) rfl (by kernel_rfl) (by kernel_rfl) (by kernel_rfl) (fun _ _ _ h => h) (Or.inr ⟨by rfl, rfl⟩) (by assumption) ?_
    (try simp only [Act.put, pt8])
    refine wpAnyH_take (i := 21) (v := undef) rfl (by kernel_rfl) (by kernel_rfl) (by kernel_rfl) (fun _ _ _ h => h) (Or.inr ⟨by rfl, rfl⟩) (by assumption) ?_
    (try simp only [Act.put, pt8])
    refine wpAnyH_take (i := 22) (v := undef) rfl (by kernel_rfl) (by kernel_rfl) (by kernel_rfl) (fun _ _ _ h => h) (Or.inr ⟨by rfl, rfl⟩) (by assumption) ?_
    (try simp only [Act.put, pt8])
    refine wtk 23 ?_ ?_ ?_
    rotate_left
    · intro w hSw; (try dsimp only at hSw); go_simp; (try with_reducible rfl)
    (try simp only [Act.put, pt8])
    refine wpAnyH_done (by kernel_rfl) ?_ _
    obtain ⟨⟨q0, q1, q2, q3, q4⟩, u0, u1, u2, u3, u4⟩ := HZ.out
    obtain ⟨W9, hW9⟩ : ∃ W, W = (((((W3.setCell ⟨gr, 0, none⟩ (.int .i64 0)).setCell ⟨gr, 1, none⟩ (.int .i64 0)).setCell ⟨gr, 2, none⟩ (.int .i64 0)).setCell ⟨gr, 3, none⟩ (.int .i64 0)).setCell ⟨gr, 4, none⟩ (.int .i64 0)).drew := ⟨_, rfl⟩
    have HR := Lib.hid (show W9.cell? ⟨gr, 0, none⟩ = some (.int .i64 0) ∧ W9.cell? ⟨gr, 1, none⟩ = some (.int .i64 0) ∧ W9.cell? ⟨gr, 2, none⟩ = some (.int .i64 0) ∧ W9.cell? ⟨gr, 3, none⟩ = some (.int .i64 0) ∧ W9.cell? ⟨gr, 4, none⟩ = some (.int .i64 0) from by rw [hW9]; exact drew5 (set5 (w := W3) q0 q1 q2 q3 q4))
    have HBR := Lib.hid (show Below w.heap.size w W9 from by rw [hW9]; exact (below_set5 HB3.out HGR.out).drew)
    have HW9 := Lib.hid hW9
    clear hHeld hW9
    go_wp2_with fail
    rw [← HW9.out]
    clear q0 q1 q2 q3 q4 u0 u1 u2 u3 u4
    obtain ⟨r0, r1, r2, r3, r4⟩ := HR.out
    have hz := HCO.out
    refine bodyPost_ret (v := .tuple #[stV ⟨0, 0, 0, 0, 0⟩, .bool false]) (by simp [results, Tryz.results51, go_sem, r0, r1, r2, r3, r4, hz, stV]) rfl ⟨by rw [HV.out], HBR.out⟩
  by_cases h2 : (s.ths.length : Int) ≤ t
  · have HV := Lib.hid (show atV P s t = .tuple #[stV ⟨0, 0, 0, 0, 0⟩, .bool false] from by unfold atV; rw [atS_none (fun ⟨k, e, h, _⟩ => by omega)])
    go_enter Tryz.func51, Tryz.ntmps51
    go_upto_region 1 with fail
    rw [← hW3]
    (try rw [← hgr])
    (try rw [← hgs])
    (try rw [← hgp])
    clear hW3 hgr hgs hgp
    refine wp_region_held_drew (S := (fun w' => (w'.cell? ⟨gs, 1, none⟩ = some (.slice A1 s.ths.length c1) ∧ True) ∧ Below W3.heap.size W3 w')) (by kernel_rfl) ⟨⟨y1, trivial⟩, below_drewN (Below.refl _ _) 1⟩ (fun hHeld => ?_)
    refine wtk 0 ?_ ?_ ?_
    rotate_left
    · intro w hSw; (try dsimp only at hSw); go_simp; (try with_reducible rfl)
    (try simp only [Act.put, pt8])
    refine wtk 1 ?_ ?_ ?_
    rotate_left
    · intro w hSw; (try dsimp only at hSw); go_simp; (try with_reducible rfl)
    (try simp only [Act.put, pt8])
    refine wtk 2 ?_ ?_ ?_
    rotate_left
    · intro w hSw; (try dsimp only at hSw); go_simp; (try with_reducible rfl)
    (try simp only [Act.put, pt8])
    refine wtk 3 ?_ ?_ ?_
    rotate_left
    · intro w hSw; (try dsimp only at hSw); go_simp; (try with_reducible rfl)
    (try simp only [Act.put, pt8])
    refine wtk 4 ?_ ?_ ?_
    rotate_left
    · intro w hSw; (try dsimp only at hSw); go_simp; (try with_reducible rfl)
    (try simp only [Act.put, pt8])
    refine wtk 5 ?_ ?_ ?_
    rotate_left
    · intro w hSw; (try dsimp only at hSw); go_simp; (try with_reducible rfl)
    (try simp only [Act.put, pt8])
    refine wtk 6 ?_ ?_ ?_
    rotate_left
    · intro w hSw; (try dsimp only at hSw); go_simp; (try with_reducible rfl)
    (try simp only [Act.put, pt8])
    refine wtk 7 ?_ ?_ ?_
    rotate_left
    · intro w hSw; (try dsimp only at hSw); go_simp; (try with_reducible rfl)
    (try simp only [Act.put, pt8])
    refine wtk 8 ?_ ?_ ?_
    rotate_left
    · intro w hSw; (try dsimp only at hSw); go_simp; (try with_reducible rfl)
    (try simp only [Act.put, pt8])
    refine wtk 9 ?_ ?_ ?_
    rotate_left
    · intro w hSw; (try dsimp only at hSw); go_simp; (try with_reducible rfl)
    (try simp only [Act.put, pt8])
    refine wpAnyH_take (i := 10) (v := undef) rfl (by kernel_rfl) (by kernel_rfl) (by kernel_rfl) (fun _ _ _ h => h) (Or.inr ⟨by rfl, rfl⟩) (by assumption) ?_
    (try simp only [Act.put, pt8])
    refine wpAnyH_take (i := 11) (v := undef) rfl (by kernel_rfl) (by kernel_rfl) (by kernel_rfl) (fun _ _ _ h => h) (Or.inr ⟨by rfl, rfl⟩) (by assumption) ?_
    (try simp only [Act.put, pt8])
    refine wpAnyH_take (i := 12) (v := undef) rfl (by kernel_rfl) (by kernel_rfl) (by kernel_rfl) (fun _ _ _ h => h) (Or.inr ⟨by rfl, rfl⟩) (by assumption) ?_
    (try simp only [Act.put, pt8])
    refine wpAnyH_take (i := 13) (v := undef) rfl (by kernel_rfl) (by kernel_rfl) (by kernel_rfl) (fun _ _ _ h => h) (Or.inr ⟨by rfl, rfl⟩) (by assumption) ?_
    (try simp only [Act.put, pt8])
    refine wpAnyH_take (i := 14) (v := undef) rfl (by kernel_rfl) (by kernel_rfl) (by kernel_rfl) (fun _ _ _ h => h) (Or.inr ⟨by rfl, rfl⟩) (by assumption) ?_
    (try simp only [Act.put, pt8])
    refine wpAnyH_take (i := 15) (v := undef) rfl (by kernel_rfl) (by kernel_rfl) (by kernel_rfl) (fun _ _ _ h => h) (Or.inr ⟨by rfl, rfl⟩) (by assumption) ?_
    (try simp only [Act.put, pt8])
    refine wpAnyH_take (i := 16) (v := undef) rfl (by kernel_rfl) (by kernel_rfl) (by kernel_rfl) (fun _ _ _ h => h) (Or.inr ⟨by rfl, rfl⟩) (by assumption) ?_
    (try simp only [Act.put, pt8])
    refine wpAnyH_take (i := 17) (v := undef) rfl (by kernel_rfl) (by kernel_rfl) (by kernel_rfl) (fun _ _ _ h => h) (Or.inr ⟨by rfl, rfl⟩) (by assumption) ?_
    (try simp only [Act.put, pt8])
    refine wpAnyH_take (i := 18) (v := undef) rfl (by kernel_rfl) (by kernel_rfl) (by kernel_rfl) (fun _ _ _ h => h) (Or.inr ⟨by rfl, rfl⟩) (by assumption) ?_
    (try simp only [Act.put, pt8])
    refine wpAnyH_take (i := 19) (v := undef) rfl (by kernel_rfl) (by kernel_rfl) (by kernel_rfl) (fun _ _ _ h => h) (Or.inr ⟨by rfl, rfl⟩) (by assumption) ?_
    (try simp only [Act.put, pt8])
    refine wpAnyH_take (i := 20) (v := undef) rfl (by kernel_rfl) (by kernel_rfl) (by kernel_rfl) (fun _ _ _ h => h) (Or.inr ⟨by rfl, rfl⟩) (by assumption) ?_
    (try simp only [Act.put, pt8])
    refine wpAnyH_take (i := 21) (v := undef) rfl (by kernel_rfl) (by kernel_rfl) (by kernel_rfl) (fun _ _ _ h => h) (Or.inr ⟨by rfl, rfl⟩) (by assumption) ?_
    (try simp only [Act.put, pt8])
    refine wpAnyH_take (i := 22) (v := undef) rfl (by kernel_rfl) (by kernel_rfl) (by kernel_rfl) (fun _ _ _ h => h) (Or.inr ⟨by rfl, rfl⟩) (by assumption) ?_
    (try simp only [Act.put, pt8])
    refine wtk 23 ?_ ?_ ?_
    rotate_left
    · intro w hSw; (try dsimp only at hSw); go_simp; (try with_reducible rfl)
    (try simp only [Act.put, pt8])
    refine wpAnyH_done (by kernel_rfl) ?_ _
    obtain ⟨⟨q0, q1, q2, q3, q4⟩, u0, u1, u2, u3, u4⟩ := HZ.out
    obtain ⟨W9, hW9⟩ : ∃ W, W = (((((W3.setCell ⟨gr, 0, none⟩ (.int .i64 0)).setCell ⟨gr, 1, none⟩ (.int .i64 0)).setCell ⟨gr, 2, none⟩ (.int .i64 0)).setCell ⟨gr, 3, none⟩ (.int .i64 0)).setCell ⟨gr, 4, none⟩ (.int .i64 0)).drew := ⟨_, rfl⟩
    have HR := Lib.hid (show W9.cell? ⟨gr, 0, none⟩ = some (.int .i64 0) ∧ W9.cell? ⟨gr, 1, none⟩ = some (.int .i64 0) ∧ W9.cell? ⟨gr, 2, none⟩ = some (.int .i64 0) ∧ W9.cell? ⟨gr, 3, none⟩ = some (.int .i64 0) ∧ W9.cell? ⟨gr, 4, none⟩ = some (.int .i64 0) from by rw [hW9]; exact drew5 (set5 (w := W3) q0 q1 q2 q3 q4))
    have HBR := Lib.hid (show Below w.heap.size w W9 from by rw [hW9]; exact (below_set5 HB3.out HGR.out).drew)
    have HW9 := Lib.hid hW9
    clear hHeld hW9
    go_wp2_with fail
    rw [← HW9.out]
    clear q0 q1 q2 q3 q4 u0 u1 u2 u3 u4
    obtain ⟨r0, r1, r2, r3, r4⟩ := HR.out
    have hz := HCO.out
    refine bodyPost_ret (v := .tuple #[stV ⟨0, 0, 0, 0, 0⟩, .bool false]) (by simp [results, Tryz.results51, go_sem, r0, r1, r2, r3, r4, hz, stV]) rfl ⟨by rw [HV.out], HBR.out⟩
  obtain ⟨k, rfl⟩ : ∃ k : Nat, t = k := ⟨t.toNat, by omega⟩
  have hk : k < s.ths.length := by omega
  have hkp : k < P.ths.length := by have := HO.out.ths; omega
  obtain ⟨b1, f1, rfl, hb1, hc1⟩ := g3 (by omega)
  obtain ⟨b2, f2, rfl, hb2, hc2⟩ := l3 (by omega)
  have hBB3 := HB3.out.mono hBB
  obtain ⟨vr, vb, e0, -⟩ := (hc1 k hk).below hBB3 hb1
  obtain ⟨y, z0, hS⟩ := (hc2 k hkp).below hBB3 hb2
  clear hc1 hc2 g3 l3
  have HT := Lib.hid (HO.out.th k hk hkp)
  have HV1 := Lib.hid (fun (h : s.ths[k].at'.toNat < P.ths[k].length) => show atV P s k = .tuple #[stV P.ths[k][s.ths[k].at'.toNat], .bool true] from by unfold atV; rw [atS_at hk hkp h])
  have HV0 := Lib.hid (fun (h : ¬ s.ths[k].at'.toNat < P.ths[k].length) => show atV P s k = .tuple #[stV ⟨0, 0, 0, 0, 0⟩, .bool false] from by unfold atV; rw [atS_past h])
  generalize s.ths[k] = x at *
  generalize P.ths[k] = ss at *
  obtain ⟨xa, xr, xe, xb⟩ := x
  obtain ⟨n, rfl⟩ : ∃ n : Nat, xa = n := ⟨xa.toNat, by have h : 0 ≤ xa := HT.out.lo; omega⟩
  simp only [Int.toNat_natCast] at HV1 HV0 e0
  obtain ⟨A5, c5, rfl, m1, m2, m3⟩ := hS
  have HNE0 := Lib.hid (And.intro hb1 hb2)
  clear HT
  by_cases h3 : (ss.length : Int) ≤ (n : Int)
  · have HV := Lib.hid (HV0.out (by omega))
    clear HV0 HV1 m3
    go_enter Tryz.func51, Tryz.ntmps51
    go_upto_region 1 with fail
    rw [← hW3]
    (try rw [← hgr])
    (try rw [← hgs])
    (try rw [← hgp])
    clear hW3 hgr hgs hgp
    refine wp_region_held_drew (S := (fun w' => (w'.cell? ⟨gp, 1, none⟩ = some (.slice (some ⟨b2, f2, none⟩) P.ths.length d1) ∧ w'.cell? ⟨gs, 1, none⟩ = some (.slice (some ⟨b1, f1, none⟩) s.ths.length c1) ∧ w'.cell? ⟨b1, f1 + k * 4, none⟩ = some (.int .i64 (n : Int)) ∧ w'.cell? ⟨b2, f2 + k, none⟩ = some (.slice A5 ss.length c5) ∧ True) ∧ Below w.heap.size w w')) (by kernel_rfl) ⟨⟨x1, y1, e0, z0, trivial⟩, below_drewN HB3.out 1⟩ (fun hHeld => ?_)
    refine wtk 0 ?_ ?_ ?_
    rotate_left
    · intro w hSw; (try dsimp only at hSw); go_simp; (try with_reducible rfl)
    (try simp only [Act.put, pt8])
    refine wtk 1 ?_ ?_ ?_
    rotate_left
    · intro w hSw; (try dsimp only at hSw); go_simp; (try with_reducible rfl)
    (try simp only [Act.put, pt8])
    refine wtk 2 ?_ ?_ ?_
    rotate_left
    · intro w hSw; (try dsimp only at hSw); go_simp; (try with_reducible rfl)
    (try simp only [Act.put, pt8])
    refine wtk 3 ?_ ?_ ?_
    rotate_left
    · intro w hSw; (try dsimp only at hSw); go_simp; (try with_reducible rfl)
    (try simp only [Act.put, pt8])
    refine wtk 4 ?_ ?_ ?_
    rotate_left
    · intro w hSw; (try dsimp only at hSw); go_simp; (try with_reducible rfl)
    (try simp only [Act.put, pt8])
    refine wtk 5 ?_ ?_ ?_
    rotate_left
    · intro w hSw; (try dsimp only at hSw); go_simp; (try with_reducible rfl)
    (try simp only [Act.put, pt8])
    refine wtk 6 ?_ ?_ ?_
    rotate_left
    · intro w hSw; (try dsimp only at hSw); go_simp; (try with_reducible rfl)
    (try simp only [Act.put, pt8])
    refine wtk 7 ?_ ?_ ?_
    rotate_left
    · intro w hSw; (try dsimp only at hSw); go_simp; (try with_reducible rfl)
    (try simp only [Act.put, pt8])
    refine wtk 8 ?_ ?_ ?_
    rotate_left
    · intro w hSw; (try dsimp only at hSw); go_simp; (try with_reducible rfl)
    (try simp only [Act.put, pt8])
    refine wtk 9 ?_ ?_ ?_
    rotate_left
    · intro w hSw; (try dsimp only at hSw); go_simp; (try with_reducible rfl)
    (try simp only [Act.put, pt8])
    refine wtk 10 ?_ ?_ ?_
    rotate_left
    · intro w hSw; (try dsimp only at hSw); go_simp; (try with_reducible rfl)
    (try simp only [Act.put, pt8])
    refine wtk 11 ?_ ?_ ?_
    rotate_left
    · intro w hSw; (try dsimp only at hSw); go_simp; (try with_reducible rfl)
    (try simp only [Act.put, pt8])
    refine wtk 12 ?_ ?_ ?_
    rotate_left
    · intro w hSw; (try dsimp only at hSw); go_simp; (try with_reducible rfl)
    (try simp only [Act.put, pt8])
    refine wtk 13 ?_ ?_ ?_
    rotate_left
    · intro w hSw; (try dsimp only at hSw); go_simp; (try with_reducible rfl)
    (try simp only [Act.put, pt8])
    refine wtk 14 ?_ ?_ ?_
    rotate_left
    · intro w hSw; (try dsimp only at hSw); go_simp; (try with_reducible rfl)
    (try simp only [Act.put, pt8])
    refine wtk 15 ?_ ?_ ?_
    rotate_left
    · intro w hSw; (try dsimp only at hSw); go_simp; (try with_reducible rfl)
    (try simp only [Act.put, pt8])
    refine wtk 16 ?_ ?_ ?_
    rotate_left
    · intro w hSw; (try dsimp only at hSw); go_simp; (try with_reducible rfl)
    (try simp only [Act.put, pt8])
    refine wtk 17 ?_ ?_ ?_
    rotate_left
    · intro w hSw; (try dsimp only at hSw); go_simp; (try with_reducible rfl)
    (try simp only [Act.put, pt8])
    refine wtk 18 ?_ ?_ ?_
    rotate_left
    · intro w hSw; (try dsimp only at hSw); go_simp; (try with_reducible rfl)
    (try simp only [Act.put, pt8])
    refine wtk 19 ?_ ?_ ?_
    rotate_left
    · intro w hSw; (try dsimp only at hSw); go_simp; (try with_reducible rfl)
    (try simp only [Act.put, pt8])
    refine wtk 20 ?_ ?_ ?_
    rotate_left
    · intro w hSw; (try dsimp only at hSw); go_simp; (try with_reducible rfl)
    (try simp only [Act.put, pt8])
    refine wtk 21 ?_ ?_ ?_
    rotate_left
    · intro w hSw; (try dsimp only at hSw); go_simp; (try with_reducible rfl)
    (try simp only [Act.put, pt8])
    refine wtk 22 ?_ ?_ ?_
    rotate_left
    · intro w hSw; (try dsimp only at hSw); go_simp; (try with_reducible rfl)
    (try simp only [Act.put, pt8])
    refine wtk 23 ?_ ?_ ?_
    rotate_left
    · intro w hSw; (try dsimp only at hSw); go_simp; (try with_reducible rfl)
    (try simp only [Act.put, pt8])
    refine wpAnyH_done (by kernel_rfl) ?_ _
    obtain ⟨⟨q0, q1, q2, q3, q4⟩, u0, u1, u2, u3, u4⟩ := HZ.out
    obtain ⟨W9, hW9⟩ : ∃ W, W = (((((W3.setCell ⟨gr, 0, none⟩ (.int .i64 0)).setCell ⟨gr, 1, none⟩ (.int .i64 0)).setCell ⟨gr, 2, none⟩ (.int .i64 0)).setCell ⟨gr, 3, none⟩ (.int .i64 0)).setCell ⟨gr, 4, none⟩ (.int .i64 0)).drew := ⟨_, rfl⟩
    have HR := Lib.hid (show W9.cell? ⟨gr, 0, none⟩ = some (.int .i64 0) ∧ W9.cell? ⟨gr, 1, none⟩ = some (.int .i64 0) ∧ W9.cell? ⟨gr, 2, none⟩ = some (.int .i64 0) ∧ W9.cell? ⟨gr, 3, none⟩ = some (.int .i64 0) ∧ W9.cell? ⟨gr, 4, none⟩ = some (.int .i64 0) from by rw [hW9]; exact drew5 (set5 (w := W3) q0 q1 q2 q3 q4))
    have HBR := Lib.hid (show Below w.heap.size w W9 from by rw [hW9]; exact (below_set5 HB3.out HGR.out).drew)
    have HW9 := Lib.hid hW9
    clear hHeld hW9
    go_wp2_with fail
    rw [← HW9.out]
    clear q0 q1 q2 q3 q4 u0 u1 u2 u3 u4
    obtain ⟨r0, r1, r2, r3, r4⟩ := HR.out
    have hz := HCO.out
    refine bodyPost_ret (v := .tuple #[stV ⟨0, 0, 0, 0, 0⟩, .bool false]) (by simp [results, Tryz.results51, go_sem, r0, r1, r2, r3, r4, hz, stV]) rfl ⟨by rw [HV.out], HBR.out⟩
  · have hnl : n < ss.length := by omega
    obtain ⟨b5, f5, rfl, hb5, hc5⟩ := m3 (by omega)
    obtain ⟨a0, a1, a2, a3, a4⟩ := hc5 n hnl
    have HV := Lib.hid (HV1.out hnl)
    clear HV1 HV0
    generalize ss[n] = y at *
    have HNE := Lib.hid (show gp ≠ gr ∧ gs ≠ gr ∧ b1 ≠ gr ∧ b2 ≠ gr ∧ b5 ≠ gr from by have := HNE0.out; have := HGR.out; refine ⟨?_, ?_, ?_, ?_, ?_⟩ <;> omega)
    clear m3 hc5
    go_enter Tryz.func51, Tryz.ntmps51
    go_upto_region 1 with fail
    rw [← hW3]
    (try rw [← hgr])
    (try rw [← hgs])
    (try rw [← hgp])
    clear hW3 hgr hgs hgp
    refine wp_region_held_drew (S := (fun w' => (w'.cell? ⟨gp, 1, none⟩ = some (.slice (some ⟨b2, f2, none⟩) P.ths.length d1) ∧ w'.cell? ⟨gs, 1, none⟩ = some (.slice (some ⟨b1, f1, none⟩) s.ths.length c1) ∧ w'.cell? ⟨b1, f1 + k * 4, none⟩ = some (.int .i64 (n : Int)) ∧ w'.cell? ⟨b2, f2 + k, none⟩ = some (.slice (some ⟨b5, f5, none⟩) ss.length c5) ∧ True) ∧ Below w.heap.size w w')) (by kernel_rfl) ⟨⟨x1, y1, e0, z0, trivial⟩, below_drewN HB3.out 1⟩ (fun hHeld => ?_)
    refine wtk 0 ?_ ?_ ?_
    rotate_left
    · intro w hSw; (try dsimp only at hSw); go_simp; (try with_reducible rfl)
    (try simp only [Act.put, pt8])
    refine wtk 1 ?_ ?_ ?_
    rotate_left
    · intro w hSw; (try dsimp only at hSw); go_simp; (try with_reducible rfl)
    (try simp only [Act.put, pt8])
    refine wtk 2 ?_ ?_ ?_
    rotate_left
    · intro w hSw; (try dsimp only at hSw); go_simp; (try with_reducible rfl)
    (try simp only [Act.put, pt8])
    refine wtk 3 ?_ ?_ ?_
    rotate_left
    · intro w hSw; (try dsimp only at hSw); go_simp; (try with_reducible rfl)
    (try simp only [Act.put, pt8])
    refine wtk 4 ?_ ?_ ?_
    rotate_left
    · intro w hSw; (try dsimp only at hSw); go_simp; (try with_reducible rfl)
    (try simp only [Act.put, pt8])
    refine wtk 5 ?_ ?_ ?_
    rotate_left
    · intro w hSw; (try dsimp only at hSw); go_simp; (try with_reducible rfl)
    (try simp only [Act.put, pt8])
    refine wtk 6 ?_ ?_ ?_
    rotate_left
    · intro w hSw; (try dsimp only at hSw); go_simp; (try with_reducible rfl)
    (try simp only [Act.put, pt8])
    refine wtk 7 ?_ ?_ ?_
    rotate_left
    · intro w hSw; (try dsimp only at hSw); go_simp; (try with_reducible rfl)
    (try simp only [Act.put, pt8])
    refine wtk 8 ?_ ?_ ?_
    rotate_left
    · intro w hSw; (try dsimp only at hSw); go_simp; (try with_reducible rfl)
    (try simp only [Act.put, pt8])
    refine wtk 9 ?_ ?_ ?_
    rotate_left
    · intro w hSw; (try dsimp only at hSw); go_simp; (try with_reducible rfl)
    (try simp only [Act.put, pt8])
    refine wtk 10 ?_ ?_ ?_
    rotate_left
    · intro w hSw; (try dsimp only at hSw); go_simp; (try with_reducible rfl)
    (try simp only [Act.put, pt8])
    refine wtk 11 ?_ ?_ ?_
    rotate_left
    · intro w hSw; (try dsimp only at hSw); go_simp; (try with_reducible rfl)
    (try simp only [Act.put, pt8])
    refine wtk 12 ?_ ?_ ?_
    rotate_left
    · intro w hSw; (try dsimp only at hSw); go_simp; (try with_reducible rfl)
    (try simp only [Act.put, pt8])
    refine wtk 13 ?_ ?_ ?_
    rotate_left
    · intro w hSw; (try dsimp only at hSw); go_simp; (try with_reducible rfl)
    (try simp only [Act.put, pt8])
    refine wtk 14 ?_ ?_ ?_
    rotate_left
    · intro w hSw; (try dsimp only at hSw); go_simp; (try with_reducible rfl)
    (try simp only [Act.put, pt8])
    refine wtk 15 ?_ ?_ ?_
    rotate_left
    · intro w hSw; (try dsimp only at hSw); go_simp; (try with_reducible rfl)
    (try simp only [Act.put, pt8])
    refine wtk 16 ?_ ?_ ?_
    rotate_left
    · intro w hSw; (try dsimp only at hSw); go_simp; (try with_reducible rfl)
    (try simp only [Act.put, pt8])
    refine wtk 17 ?_ ?_ ?_
    rotate_left
    · intro w hSw; (try dsimp only at hSw); go_simp; (try with_reducible rfl)
    (try simp only [Act.put, pt8])
    refine wtk 18 ?_ ?_ ?_
    rotate_left
    · intro w hSw; (try dsimp only at hSw); go_simp; (try with_reducible rfl)
    (try simp only [Act.put, pt8])
    refine wtk 19 ?_ ?_ ?_
    rotate_left
    · intro w hSw; (try dsimp only at hSw); go_simp; (try with_reducible rfl)
    (try simp only [Act.put, pt8])
    refine wtk 20 ?_ ?_ ?_
    rotate_left
    · intro w hSw; (try dsimp only at hSw); go_simp; (try with_reducible rfl)
    (try simp only [Act.put, pt8])
    refine wtk 21 ?_ ?_ ?_
    rotate_left
    · intro w hSw; (try dsimp only at hSw); go_simp; (try with_reducible rfl)
    (try simp only [Act.put, pt8])
    refine wtk 22 ?_ ?_ ?_
    rotate_left
    · intro w hSw; (try dsimp only at hSw); go_simp; (try with_reducible rfl)
    (try simp only [Act.put, pt8])
    refine wtk 23 ?_ ?_ ?_
    rotate_left
    · intro w hSw; (try dsimp only at hSw); go_simp; (try with_reducible rfl)
    (try simp only [Act.put, pt8])
    refine wpAnyH_done (by kernel_rfl) ?_ _
    go_upto_region 3 with fail
    refine wp_region_held_drew (S := (fun w' => (w'.cell? ⟨gp, 1, none⟩ = some (.slice (some ⟨b2, f2, none⟩) P.ths.length d1) ∧ w'.cell? ⟨gs, 1, none⟩ = some (.slice (some ⟨b1, f1, none⟩) s.ths.length c1) ∧ w'.cell? ⟨b1, f1 + k * 4, none⟩ = some (.int .i64 (n : Int)) ∧ w'.cell? ⟨b2, f2 + k, none⟩ = some (.slice (some ⟨b5, f5, none⟩) ss.length c5) ∧ w'.cell? ⟨b5, f5 + n * 5, none⟩ = some (.int .i64 y.op) ∧ w'.cell? ⟨b5, f5 + n * 5 + 1, none⟩ = some (.int .i64 y.reg) ∧ w'.cell? ⟨b5, f5 + n * 5 + 2, none⟩ = some (.int .i64 y.loc) ∧ w'.cell? ⟨b5, f5 + n * 5 + 3, none⟩ = some (.int .i64 y.n) ∧ w'.cell? ⟨b5, f5 + n * 5 + 4, none⟩ = some (.int .i64 y.to) ∧ True) ∧ Below w.heap.size w w')) (by kernel_rfl) ⟨⟨x1, y1, e0, z0, a0, a1, a2, a3, a4, trivial⟩, hHeld.2.drew⟩ (fun hHeld => ?_)
    refine wtk 0 ?_ ?_ ?_
    rotate_left
    · intro w hSw; (try dsimp only at hSw); go_simp; (try with_reducible rfl)
    (try simp only [Act.put, pt8])
    refine wtk 1 ?_ ?_ ?_
    rotate_left
    · intro w hSw; (try dsimp only at hSw); go_simp; (try with_reducible rfl)
    (try simp only [Act.put, pt8])
    refine wtk 2 ?_ ?_ ?_
    rotate_left
    · intro w hSw; (try dsimp only at hSw); go_simp; (try with_reducible rfl)
    (try simp only [Act.put, pt8])
    refine wtk 3 ?_ ?_ ?_
    rotate_left
    · intro w hSw; (try dsimp only at hSw); go_simp; (try with_reducible rfl)
    (try simp only [Act.put, pt8])
    refine wtk 4 ?_ ?_ ?_
    rotate_left
    · intro w hSw; (try dsimp only at hSw); go_simp; (try with_reducible rfl)
    (try simp only [Act.put, pt8])
    refine wtk 5 ?_ ?_ ?_
    rotate_left
    · intro w hSw; (try dsimp only at hSw); go_simp; (try with_reducible rfl)
    (try simp only [Act.put, pt8])
    refine wtk 6 ?_ ?_ ?_
    rotate_left
    · intro w hSw; (try dsimp only at hSw); go_simp; (try with_reducible rfl)
    (try simp only [Act.put, pt8])
    refine wtk 7 ?_ ?_ ?_
    rotate_left
    · intro w hSw; (try dsimp only at hSw); go_simp; (try with_reducible rfl)
    (try simp only [Act.put, pt8])
    refine wtk 8 ?_ ?_ ?_
    rotate_left
    · intro w hSw; (try dsimp only at hSw); go_simp; (try with_reducible rfl)
    (try simp only [Act.put, pt8])
    refine wtk 9 ?_ ?_ ?_
    rotate_left
    · intro w hSw; (try dsimp only at hSw); go_simp; (try with_reducible rfl)
    (try simp only [Act.put, pt8])
    refine wtk 10 ?_ ?_ ?_
    rotate_left
    · intro w hSw; (try dsimp only at hSw); go_simp; (try with_reducible rfl)
    (try simp only [Act.put, pt8])
    refine wtk 11 ?_ ?_ ?_
    rotate_left
    · intro w hSw; (try dsimp only at hSw); go_simp; (try with_reducible rfl)
    (try simp only [Act.put, pt8])
    refine wtk 12 ?_ ?_ ?_
    rotate_left
    · intro w hSw; (try dsimp only at hSw); go_simp; (try with_reducible rfl)
    (try simp only [Act.put, pt8])
    refine wpAnyH_ready (rs := [13]) (by kernel_rfl) (by simp) ?_
    refine AllReadyH.cons rfl (fun K hK => ?_) AllReadyH.nil
    obtain ⟨⟨j0, j1, j2, j3, j4⟩, u0, u1, u2, u3, u4⟩ := HZ.out
    go_simp
    refine hK.out _ _ ⟨⟨drewc (keep5 HNE.out.1 x1), drewc (keep5 HNE.out.2.1 y1), drewc (keep5 HNE.out.2.2.1 e0), drewc (keep5 HNE.out.2.2.2.1 z0), drewc (keep5 HNE.out.2.2.2.2 a0), drewc (keep5 HNE.out.2.2.2.2 a1), drewc (keep5 HNE.out.2.2.2.2 a2), drewc (keep5 HNE.out.2.2.2.2 a3), drewc (keep5 HNE.out.2.2.2.2 a4), trivial⟩, (below_set5 HB3.out HGR.out).drew.drew⟩ (fun hHeld => ?_)
    clear hK K
    (try simp only [Act.put, pt8])
    refine wtk 14 ?_ ?_ ?_
    rotate_left
    · intro w hSw; (try dsimp only at hSw); go_simp; (try with_reducible rfl)
    (try simp only [Act.put, pt8])
    refine wpAnyH_done (by kernel_rfl) ?_ _
    obtain ⟨W9, hW9⟩ : ∃ W, W = ((((((W3.setCell ⟨gr, 0, none⟩ (.int .i64 y.op)).setCell ⟨gr, 1, none⟩ (.int .i64 y.reg)).setCell ⟨gr, 2, none⟩ (.int .i64 y.loc)).setCell ⟨gr, 3, none⟩ (.int .i64 y.n)).setCell ⟨gr, 4, none⟩ (.int .i64 y.to)).drew).drew := ⟨_, rfl⟩
    have HR := Lib.hid (show W9.cell? ⟨gr, 0, none⟩ = some (.int .i64 y.op) ∧ W9.cell? ⟨gr, 1, none⟩ = some (.int .i64 y.reg) ∧ W9.cell? ⟨gr, 2, none⟩ = some (.int .i64 y.loc) ∧ W9.cell? ⟨gr, 3, none⟩ = some (.int .i64 y.n) ∧ W9.cell? ⟨gr, 4, none⟩ = some (.int .i64 y.to) from by rw [hW9]; exact drew5 (drew5 (set5 (w := W3) j0 j1 j2 j3 j4)))
    have HBR := Lib.hid (show Below w.heap.size w W9 from by rw [hW9]; exact (below_set5 HB3.out HGR.out).drew.drew)
    rw [← hW9]
    clear hHeld hW9 j0 j1 j2 j3 j4 u0 u1 u2 u3 u4 a0 a1 a2 a3 a4 e0 z0 x0 x1 y0 y1
    go_wp2_with fail
    obtain ⟨r0, r1, r2, r3, r4⟩ := HR.out
    have hz := HCO.out
    refine bodyPost_ret (v := .tuple #[stV y, .bool true]) (by simp [results, Tryz.results51, go_sem, r0, r1, r2, r3, r4, hz, stV]) rfl ⟨by rw [HV.out], HBR.out⟩
end Go.Proofs.YtlpjgaeelnlipaaGreat
