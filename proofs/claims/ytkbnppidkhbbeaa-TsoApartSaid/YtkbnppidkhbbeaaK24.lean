/-
  LAYER 11: Buffering as a code, in memory.
  STATES OF THE CALL's OWN, 6: what lies in their cells.
  THE DOCUMENT's Begin of layer 10.
-/
import Derived.Test.YtkbnppidkhbbeaaK04
import Derived.Deep.RegionHeld3
import Derived.Test.YtkbnppidkhbbeaaK13
import Derived.Test.YtkbnppidkhbbeaaScAt
import Derived.Deep.DeepCutAuto
set_option linter.unusedVariables false
set_option linter.unusedSimpArgs false
namespace Go.Proofs.Ytkbnppidkhbbeaa
open Go.RowKit
set_option linter.unusedVariables false
set_option linter.unusedSimpArgs false
open CodM (St Pg rightP)
open ScM

theorem allocs_cell : ∀ (l : List Obj) (w : World) (j : Nat) (cs : Array Value) (T : TypeId) (i : Nat) (v : Value), l[j]? = some (.cells cs T) → cs[i]? = some v →
    (l.foldl World.alloc w).cell? ⟨w.heap.size + j, i, none⟩ = some v ∧ (l.foldl World.alloc w).frozen? ⟨w.heap.size + j, i, none⟩ = false
  | [], w, j, cs, T, i, v, h, _ => by simp at h
  | o :: r, w, 0, cs, T, i, v, h, hi => by
    obtain rfl : o = .cells cs T := by simpa using h
    have hb : ∀ (r : List Obj) (W : World), Below W.heap.size W (r.foldl World.alloc W) := by
      intro r
      induction r with
      | nil => exact fun W => Below.refl _ _
      | cons o r ih => exact fun W => (below_al (Below.refl W.heap.size W) o).trans ((ih _).mono (by simp))
    exact kept_box (hb r _) i hi
  | o :: r, w, j + 1, cs, T, i, v, h, hi => by
    have := allocs_cell r (w.alloc o) j cs T i v (by simpa using h) hi
    rw [World.size_alloc, show w.heap.size + 1 + j = w.heap.size + (j + 1) by omega] at this
    exact this
def bufP : Pg := ⟨[0, 0], [[⟨4, 0, 0, 1, 0⟩, ⟨2, 0, 1, 0, 0⟩], [⟨4, 0, 1, 1, 0⟩, ⟨2, 0, 0, 0, 0⟩]]⟩
theorem buf_rp : rightP bufP = true := by kernel_rfl
theorem sts_lit {B b : Nat} {W : World} {ss : List St} (hb : b < B) (hn : ss.length ≤ 1000) (h : ∀ j (hj : j < ss.length), StAt W b (j * 5) ss[j]) : Sts B W (.slice (some ⟨b, 0, none⟩) ss.length ss.length) ss :=
  ⟨_, ss.length, rfl, Nat.le_refl _, by unfold maxLen; omega, fun _ => ⟨b, 0, rfl, hb, fun j hj => by rw [Nat.zero_add]; exact h j hj⟩⟩
theorem sss_lit {B b : Nat} {W : World} {ts : List (List St)} (hb : b < B) (hn : ts.length ≤ 1000) (h : ∀ j (hj : j < ts.length), SsAt B W b j ts[j]) : Sss B W (.slice (some ⟨b, 0, none⟩) ts.length ts.length) ts :=
  ⟨_, ts.length, rfl, Nat.le_refl _, by unfold maxLen; omega, fun _ => ⟨b, 0, rfl, hb, fun j hj => by rw [Nat.zero_add]; exact h j hj⟩⟩
theorem ints_lit {B b : Nat} {W : World} {ns : List Int} (hb : b < B) (hn : ns.length ≤ 1000) (h : ∀ j (hj : j < ns.length), IntAt W b j ns[j]) : Ints B W (.slice (some ⟨b, 0, none⟩) ns.length ns.length) ns :=
  ⟨_, ns.length, rfl, Nat.le_refl _, by unfold maxLen; omega, fun _ => ⟨b, 0, rfl, hb, fun j hj => by rw [Nat.zero_add]; exact h j hj⟩⟩
set_option maxHeartbeats 8000000 in
set_option maxRecDepth 100000 in
theorem buf7_any (w : World) : Calls Try.prog 23 #[] w fun e w' => ∃ vi vt, e = .returned (.agg #[vi, vt]) ∧ PgM w'.heap.size w' vi vt bufP ∧ NilZ vi ∧ Below w.heap.size w w' := by
  have hz : Try.prog.cellsOf 25 = 2 := by kernel_rfl
  go_enter Try.func23, Try.ntmps23
  go_wp2
  have hB := (below_al (below_al (below_al (below_al (below_al (Below.refl w.heap.size w) (.cells #[.slice (some ⟨w.heap.size + 1, 0, none⟩) 2 2, .slice (some ⟨w.heap.size + 1 + 1 + 1 + 1, 0, none⟩) 2 2] 25)) (.cells #[.int .i64 0, .int .i64 0] 3)) (.cells #[.int .i64 4, .int .i64 0, .int .i64 0, .int .i64 1, .int .i64 0, .int .i64 2, .int .i64 0, .int .i64 1, .int .i64 0, .int .i64 0] 49)) (.cells #[.int .i64 4, .int .i64 0, .int .i64 1, .int .i64 1, .int .i64 0, .int .i64 2, .int .i64 0, .int .i64 0, .int .i64 0, .int .i64 0] 49)) (.cells #[.slice (some ⟨w.heap.size + 1 + 1, 0, none⟩) 2 2, .slice (some ⟨w.heap.size + 1 + 1 + 1, 0, none⟩) 2 2] 56))
  have HC : ∀ (j i : Nat) (cs : Array Value) (T : TypeId) (v : Value), ([.cells #[.slice (some ⟨w.heap.size + 1, 0, none⟩) 2 2, .slice (some ⟨w.heap.size + 1 + 1 + 1 + 1, 0, none⟩) 2 2] 25, .cells #[.int .i64 0, .int .i64 0] 3, .cells #[.int .i64 4, .int .i64 0, .int .i64 0, .int .i64 1, .int .i64 0, .int .i64 2, .int .i64 0, .int .i64 1, .int .i64 0, .int .i64 0] 49, .cells #[.int .i64 4, .int .i64 0, .int .i64 1, .int .i64 1, .int .i64 0, .int .i64 2, .int .i64 0, .int .i64 0, .int .i64 0, .int .i64 0] 49, .cells #[.slice (some ⟨w.heap.size + 1 + 1, 0, none⟩) 2 2, .slice (some ⟨w.heap.size + 1 + 1 + 1, 0, none⟩) 2 2] 56] : List Obj)[j]? = some (.cells cs T) → cs[i]? = some v → ((World.alloc (World.alloc (World.alloc (World.alloc (World.alloc w (.cells #[.slice (some ⟨w.heap.size + 1, 0, none⟩) 2 2, .slice (some ⟨w.heap.size + 1 + 1 + 1 + 1, 0, none⟩) 2 2] 25)) (.cells #[.int .i64 0, .int .i64 0] 3)) (.cells #[.int .i64 4, .int .i64 0, .int .i64 0, .int .i64 1, .int .i64 0, .int .i64 2, .int .i64 0, .int .i64 1, .int .i64 0, .int .i64 0] 49)) (.cells #[.int .i64 4, .int .i64 0, .int .i64 1, .int .i64 1, .int .i64 0, .int .i64 2, .int .i64 0, .int .i64 0, .int .i64 0, .int .i64 0] 49)) (.cells #[.slice (some ⟨w.heap.size + 1 + 1, 0, none⟩) 2 2, .slice (some ⟨w.heap.size + 1 + 1 + 1, 0, none⟩) 2 2] 56))).cell? ⟨w.heap.size + j, i, none⟩ = some v := fun j i cs T v h1 h2 => (allocs_cell [.cells #[.slice (some ⟨w.heap.size + 1, 0, none⟩) 2 2, .slice (some ⟨w.heap.size + 1 + 1 + 1 + 1, 0, none⟩) 2 2] 25, .cells #[.int .i64 0, .int .i64 0] 3, .cells #[.int .i64 4, .int .i64 0, .int .i64 0, .int .i64 1, .int .i64 0, .int .i64 2, .int .i64 0, .int .i64 1, .int .i64 0, .int .i64 0] 49, .cells #[.int .i64 4, .int .i64 0, .int .i64 1, .int .i64 1, .int .i64 0, .int .i64 2, .int .i64 0, .int .i64 0, .int .i64 0, .int .i64 0] 49, .cells #[.slice (some ⟨w.heap.size + 1 + 1, 0, none⟩) 2 2, .slice (some ⟨w.heap.size + 1 + 1 + 1, 0, none⟩) 2 2] 56] w j cs T i v h1 h2).1
  obtain ⟨W, hW⟩ : ∃ W, W = (World.alloc (World.alloc (World.alloc (World.alloc (World.alloc w (.cells #[.slice (some ⟨w.heap.size + 1, 0, none⟩) 2 2, .slice (some ⟨w.heap.size + 1 + 1 + 1 + 1, 0, none⟩) 2 2] 25)) (.cells #[.int .i64 0, .int .i64 0] 3)) (.cells #[.int .i64 4, .int .i64 0, .int .i64 0, .int .i64 1, .int .i64 0, .int .i64 2, .int .i64 0, .int .i64 1, .int .i64 0, .int .i64 0] 49)) (.cells #[.int .i64 4, .int .i64 0, .int .i64 1, .int .i64 1, .int .i64 0, .int .i64 2, .int .i64 0, .int .i64 0, .int .i64 0, .int .i64 0] 49)) (.cells #[.slice (some ⟨w.heap.size + 1 + 1, 0, none⟩) 2 2, .slice (some ⟨w.heap.size + 1 + 1 + 1, 0, none⟩) 2 2] 56)) := ⟨_, rfl⟩
  rw [← hW] at hB HC ⊢
  have hsz : W.heap.size = w.heap.size + 5 := by rw [hW]; simp only [World.size_alloc]
  clear hW
  have c0 : W.cell? ⟨w.heap.size, 0, none⟩ = some (.slice (some ⟨w.heap.size + 1, 0, none⟩) 2 2) := HC 0 0 _ _ _ rfl rfl
  have c1 : W.cell? ⟨w.heap.size, 1, none⟩ = some (.slice (some ⟨w.heap.size + 1 + 1 + 1 + 1, 0, none⟩) 2 2) := HC 0 1 _ _ _ rfl rfl
  refine bodyPost_ret (v := .agg #[.slice (some ⟨w.heap.size + 1, 0, none⟩) 2 2, .slice (some ⟨w.heap.size + 1 + 1 + 1 + 1, 0, none⟩) 2 2]) (by simp [results, Try.results23, go_sem, c0, c1, hz]) rfl ⟨_, _, rfl, ⟨?_, ?_⟩, (fun n c e => by cases e), hB⟩
  · refine ints_lit (ns := [0, 0]) (by omega) (by decide) (fun j hj => ?_)
    match j, hj with
    | 0, _ => exact HC 1 0 _ _ _ rfl rfl
    | 1, _ => exact HC 1 1 _ _ _ rfl rfl
  · refine sss_lit (ts := bufP.ths) (by omega) (by decide) (fun j hj => ?_)
    match j, hj with
    | 0, _ =>
      refine ⟨_, HC 4 0 _ _ _ rfl rfl, sts_lit (ss := [⟨4, 0, 0, 1, 0⟩, ⟨2, 0, 1, 0, 0⟩]) (by omega) (by decide) (fun j hj => ?_)⟩
      match j, hj with
      | 0, _ => exact ⟨HC 2 0 _ _ _ rfl rfl, HC 2 1 _ _ _ rfl rfl, HC 2 2 _ _ _ rfl rfl, HC 2 3 _ _ _ rfl rfl, HC 2 4 _ _ _ rfl rfl⟩
      | 1, _ => exact ⟨HC 2 5 _ _ _ rfl rfl, HC 2 6 _ _ _ rfl rfl, HC 2 7 _ _ _ rfl rfl, HC 2 8 _ _ _ rfl rfl, HC 2 9 _ _ _ rfl rfl⟩
    | 1, _ =>
      refine ⟨_, HC 4 1 _ _ _ rfl rfl, sts_lit (ss := [⟨4, 0, 1, 1, 0⟩, ⟨2, 0, 0, 0, 0⟩]) (by omega) (by decide) (fun j hj => ?_)⟩
      match j, hj with
      | 0, _ => exact ⟨HC 3 0 _ _ _ rfl rfl, HC 3 1 _ _ _ rfl rfl, HC 3 2 _ _ _ rfl rfl, HC 3 3 _ _ _ rfl rfl, HC 3 4 _ _ _ rfl rfl⟩
      | 1, _ => exact ⟨HC 3 5 _ _ _ rfl rfl, HC 3 6 _ _ _ rfl rfl, HC 3 7 _ _ _ rfl rfl, HC 3 8 _ _ _ rfl rfl, HC 3 9 _ _ _ rfl rfl⟩
end Go.Proofs.Ytkbnppidkhbbeaa
namespace Go.Proofs.Ytkbnppidkhbbeaa
open Go.RowKit
set_option linter.unusedVariables false
set_option linter.unusedSimpArgs false
open CodM (St Pg rightP)
open BfM (Wr plc)
open ScM

/-- A thread's cells. -/
theorem OwnSt.cells {base : Nat} {w : World} {vm vt : Value} {s : Sta} {ps : List TV} (h : OwnSt base w vm vt s ps) {k : Nat} (hk : k < s.ths.length) :
    ∃ g c cur A c1 B c2, vt = .slice (some ⟨g, 0, none⟩) s.ths.length c ∧ base ≤ g ∧ BoxC w g 43 cur ∧ w.cell? ⟨g, k * 4, none⟩ = some (.int .i64 s.ths[k].at') ∧ w.cell? ⟨g, k * 4 + 1, none⟩ = some (.slice A s.ths[k].regs.length c1) ∧
      w.cell? ⟨g, k * 4 + 2, none⟩ = some (.bool s.ths[k].eq) ∧ w.cell? ⟨g, k * 4 + 3, none⟩ = some (.slice B s.ths[k].buf.length c2) ∧ OwnI base w (.slice A s.ths[k].regs.length c1) s.ths[k].regs ∧ OwnW base w (.slice B s.ths[k].buf.length c2) s.ths[k].buf := by
  obtain ⟨vr, vb, hpk⟩ := h.pk hk
  obtain ⟨hkp, hpe⟩ := List.getElem?_eq_some_iff.1 hpk
  obtain ⟨g, c, cur, e, hg, hb, t0, t1, t2, t3⟩ := h.row hkp
  have he := h.each _ (List.getElem_mem hkp)
  rw [hpe] at t0 t1 t2 t3 he
  obtain ⟨A, c1, e1⟩ := own_slice (n := s.ths[k].regs.length) he.1
  obtain ⟨B, c2, e2⟩ := own_slice (n := s.ths[k].buf.length) he.2.1
  dsimp only at he e1 e2 t0 t1 t2 t3
  subst e1 e2
  exact ⟨g, c, cur, A, c1, B, c2, e, hg, hb, t0, t1, t2, t3, he.1, he.2.1⟩
/-- A register's cells. -/
theorem OwnSt.reg {base : Nat} {w : World} {vm vt : Value} {s : Sta} {ps : List TV} (h : OwnSt base w vm vt s ps) {k : Nat} (hk : k < s.ths.length) {j : Nat} (hj : j < s.ths[k].regs.length) :
    ∃ g c g2 c2, vt = .slice (some ⟨g, 0, none⟩) s.ths.length c ∧ w.cell? ⟨g, k * 4 + 1, none⟩ = some (.slice (some ⟨g2, 0, none⟩) s.ths[k].regs.length c2) ∧ w.cell? ⟨g2, j, none⟩ = some (.int .i64 s.ths[k].regs[j]) := by
  obtain ⟨g, c, cur, A, c1, B, c2, e, hg, hb, t0, t1, t2, t3, h1, h2⟩ := h.cells hk
  obtain ⟨g2, c3, cur2, e2, hg2, hb2, hc2⟩ := own_nu h1 hj
  injection e2 with e3 _ e4
  subst e3 e4
  exact ⟨g, c, g2, c1, e, t1, hc2⟩
end Go.Proofs.Ytkbnppidkhbbeaa
namespace Go.Proofs.Ytkbnppidkhbbeaa
open Go.RowKit
set_option linter.unusedVariables false
set_option linter.unusedSimpArgs false
open CodM (St Pg rightP)
open BfM (Wr plc)
open ScM

set_option maxHeartbeats 8000000 in
set_option maxRecDepth 100000 in
theorem rbegin_any {B : Nat} {v : Value} {P : Pg} (w : World) (hv : PgZ B w v P) (hBB : B ≤ w.heap.size) (hp : rightP P = true) :
    Calls Try.prog 24 #[v] w (StRet (beg P) w) := by
  obtain ⟨pi, pt, rfl, hpm, hpi⟩ := hv
  obtain ⟨hi4, ht1, ht3, -⟩ := right_ths hp
  obtain ⟨-, P1, d1, rfl, l1, l2, -⟩ := hpm
  obtain ⟨A0, c0, rfl, a1, a2, a0, a3⟩ := hpi
  unfold maxLen at l2 a2
  obtain ⟨i0, hi0, hz0, hz1, hz2⟩ := info_parts info_nu
  obtain ⟨i1', hi1', hy1, hy2, hy3⟩ := info_parts info_th
  have HCO := Lib.hid (show Try.prog.cellsOf 28 = 2 from by kernel_rfl)
  obtain ⟨W2, hW2⟩ : ∃ W, W = (w.alloc (.cells #[.slice A0 P.init.length c0, .slice P1 P.ths.length d1] 25)).alloc (.cells #[.slice none 0 0, .slice none 0 0] 28) := ⟨_, rfl⟩
  obtain ⟨gp, hgp⟩ : ∃ g, g = w.heap.size := ⟨_, rfl⟩
  obtain ⟨gr, hgr⟩ : ∃ g, g = w.heap.size + 1 := ⟨_, rfl⟩
  have HX := Lib.hid (show BoxC W2 gp 25 #[.slice A0 P.init.length c0, .slice P1 P.ths.length d1] from by rw [hW2, hgp]; exact (BoxC.new w _ _).alloc _)
  have HR := Lib.hid (show BoxC W2 gr 28 #[.slice none 0 0, .slice none 0 0] from by rw [hW2, hgr]; have := BoxC.new (w.alloc (.cells #[.slice A0 P.init.length c0, .slice P1 P.ths.length d1] 25)) 28 #[.slice none 0 0, .slice none 0 0]; rw [World.size_alloc] at this; exact this)
  have HB2 := Lib.hid (show Below w.heap.size w W2 from by rw [hW2]; exact below_al (below_al (Below.refl _ _) _) _)
  have HGR := Lib.hid (show w.heap.size ≤ gr from by omega)
  have HSRC := Lib.hid (fun W (hW : Below W2.heap.size W2 W) => src_rw (W := W) nuC_len a0 a3 ((chain HB2.out hW).mono hBB))
  have HTH := Lib.hid (show (beg P).ths = List.replicate P.ths.length begTh from by unfold beg; simp [List.map_const'])
  have x0 := HX.out.cell 0 _ rfl
  clear a3
  go_enter Try.func24, Try.ntmps24
  go_upto_region 1 with fail
  rw [← hW2]
  (try rw [← hgr])
  (try rw [← hgp])
  clear hW2 hgr hgp
  go_cut [3] (fun s3 wx => ∃ (gs : Nat) (vm : Value), s3 = .pointer (some ⟨gs, 0, none⟩) ∧ BoxC wx gs 28 #[vm, .slice none 0 0] ∧ OwnI W2.heap.size wx vm P.init ∧ Below W2.heap.size W2 wx ∧ W2.heap.size ≤ gs)
  case first =>
    have HE := Lib.hid (below_al (Below.refl W2.heap.size W2) (.cells #[] 3))
    have HO := Lib.hid (show (W2.alloc (.cells #[] 3)).ownsRow W2.heap.size 3 1 (.slice (some ⟨W2.heap.size, 0, none⟩) 0 0) 0 [] from World.ownsRow_lit (base := W2.heap.size) (e := 3) (size := 1) W2 #[] 0 (Nat.le_refl _) (by decide) rfl)
    have l0 := lt_of_cell x0
    have x0 := kc HE.out x0
    go_wp2_with (at_builtin; refine wpList_append_rw _ rfl _ _ 22 rfl W2.heap.size 3 i0 (.int .i64 0) 1 8 Try.underlying22 hi0 hz0 hz1 hz2 rfl (by decide) _ 0 [] rfl HO.out A0 P.init.length c0 (P.init.flatMap nuC) rfl (fl_len nuC_len P.init) a0 (HSRC.out _ HE.out) (one_nu P.init) (by unfold maxLen; omega) (by omega) (by simp) ?_; intro v1 wz hown1 hg1; rw [Nat.zero_add, List.nil_append] at hown1; obtain ⟨A8, c8, rfl⟩ := own_slice hown1)
    go_meet
    have hb1 := below_append HE.out HO.out (Nat.le_refl _) HE.out.size hg1
    have hb2 := below_al (Below.refl wz.heap.size wz) (.cells #[.slice A8 P.init.length c8, .slice none 0 0] 28)
    exact ⟨wz.heap.size, _, rfl, BoxC.new wz _ _, own_below hown1 hb2, chain hb1 hb2, hb1.size⟩
  case rest =>
    obtain ⟨gs, vm, rfl, hbs, hom, hBc, hgs⟩ := hcut
    have HBS := Lib.hid hbs
    have HOM := Lib.hid hom
    have HBC := Lib.hid hBc
    obtain ⟨Am, cm, rfl⟩ := own_slice hom
    clear hbs hom hBc x0
    have hmk := mk4
    go_wp2
    go_loopw [4] (fun i wr => ∃ (k : Nat) (vt : Value) (ps : List TV), k ≤ P.ths.length ∧ i = .int .i64 k ∧ BoxC wr gs 28 #[.slice Am P.init.length cm, vt] ∧ OwnSt W2.heap.size wr (.slice Am P.init.length cm) vt ⟨P.init, List.replicate k begTh⟩ ps ∧ Below W2.heap.size W2 wr) (fun i _ => P.ths.length - (intOf i).toNat)
    case atStart => exact ⟨0, _, [], Nat.zero_le _, rfl, HBS.out, OwnSt.nothing _ HOM.out, HBC.out⟩
    case round =>
      obtain ⟨k, vt, ps, hk, rfl, hbx, hos, hB⟩ := hrel
      have HBX := Lib.hid hbx
      have HOS := Lib.hid hos
      have HB := Lib.hid hB
      have HOT := Lib.hid (show wr.ownsRow W2.heap.size 43 4 vt k (ps.flatMap thC) from by have := hos.ths; rwa [show (⟨P.init, List.replicate k begTh⟩ : Sta).ths.length = k from List.length_replicate] at this)
      obtain ⟨Av, cv, rfl⟩ := own_slice HOT.out
      have HSZ := Lib.hid (show W2.heap.size ≤ wr.heap.size from hB.size)
      have x1 := (HX.out.below hB HX.out.lt).cell 1 _ rfl
      clear hbx hos hB
      by_cases hlt : k < P.ths.length
      · go_wp2
        have y1 := HBX.out.cell 1 _ rfl
        refine wp_region_held_drew (S := (fun w' => True)) (by kernel_rfl) trivial (fun hHeld => ?_)
        obtain ⟨Xa, hXa⟩ : ∃ W, W = wr.drew := ⟨_, rfl⟩
        have HLXa := Lib.hid (show Below wr.heap.size wr Xa from by rw [hXa]; exact below_drewN (Below.refl _ _) 1)
        rw [← hXa]
        clear hXa
        refine wpAnyH_take (i := 0) (v := ?_) rfl (by kernel_rfl) (by kernel_rfl) (by kernel_rfl) (fun _ _ _ h => h) (Or.inl ⟨by rfl, ?_⟩) (by assumption) ?_
        rotate_left
        · intro w hSw; (try dsimp only at hSw); go_simp; (try with_reducible rfl)
        (try simp only [Act.put, List.getElem_toArray, List.getElem_cons_zero, List.getElem_cons_succ, Array.getInternal_eq_getElem, List.setIfInBounds_toArray, List.set_cons_zero, List.set_cons_succ])
        refine wpAnyH_ready (rs := [1, 2]) (by kernel_rfl) (by simp) ?_
        refine AllReadyH.cons rfl (fun K hK => ?_) (AllReadyH.cons rfl (fun K hK => ?_) (AllReadyH.nil))
        · -- 1 first
          have y2 := kc HLXa.out y1
          go_simp
          refine hK.out _ _ trivial (fun hHeld => ?_)
          clear hK K
          (try simp only [Act.put, List.getElem_toArray, List.getElem_cons_zero, List.getElem_cons_succ, Array.getInternal_eq_getElem, List.setIfInBounds_toArray, List.set_cons_zero, List.set_cons_succ])
          clear y2
          refine wpAnyH_ready (rs := [2]) (by kernel_rfl) (by simp) ?_
          refine AllReadyH.cons rfl (fun K hK => ?_) AllReadyH.nil
          go_simp
          refine hK.out _ _ trivial (fun hHeld => ?_)
          clear hK K
          (try simp only [Act.put, List.getElem_toArray, List.getElem_cons_zero, List.getElem_cons_succ, Array.getInternal_eq_getElem, List.setIfInBounds_toArray, List.set_cons_zero, List.set_cons_succ])
          obtain ⟨gn, hgn⟩ : ∃ g, g = Xa.heap.size := ⟨_, rfl⟩
          obtain ⟨X0, hX0⟩ : ∃ W, W = Xa.alloc (.cells #[.int .i64 0, .int .i64 0, .int .i64 0, .int .i64 0] 3) := ⟨_, rfl⟩
          have HLX0 := Lib.hid (show Below wr.heap.size wr X0 from by rw [hX0]; exact below_al HLXa.out _)
          have HON := Lib.hid (show OwnI wr.heap.size X0 (.slice (some ⟨gn, 0, none⟩) 4 4) [0, 0, 0, 0] from by rw [hX0, hgn]; exact World.ownsRow_lit (base := wr.heap.size) (e := 3) (size := 1) Xa #[.int .i64 0, .int .i64 0, .int .i64 0, .int .i64 0] 4 HLXa.out.size (by decide) rfl)
          rw [← hX0]
          rw [← hgn]
          clear hX0 hgn
          refine wpAnyH_take (i := 3) (v := ?_) rfl (by kernel_rfl) (by kernel_rfl) (by kernel_rfl) (fun _ _ _ h => h) (Or.inl ⟨by rfl, ?_⟩) (by assumption) ?_
          rotate_left
          · intro w hSw; (try dsimp only at hSw); go_simp; (try with_reducible rfl)
          (try simp only [Act.put, List.getElem_toArray, List.getElem_cons_zero, List.getElem_cons_succ, Array.getInternal_eq_getElem, List.setIfInBounds_toArray, List.set_cons_zero, List.set_cons_succ])
          refine wpAnyH_ready (rs := [4]) (by kernel_rfl) (by simp) ?_
          refine AllReadyH.cons rfl (fun K hK => ?_) AllReadyH.nil
          go_simp
          refine hK.out _ _ trivial (fun hHeld => ?_)
          clear hK K
          (try simp only [Act.put, List.getElem_toArray, List.getElem_cons_zero, List.getElem_cons_succ, Array.getInternal_eq_getElem, List.setIfInBounds_toArray, List.set_cons_zero, List.set_cons_succ])
          obtain ⟨gb, hgb⟩ : ∃ g, g = X0.heap.size := ⟨_, rfl⟩
          obtain ⟨X1, hX1⟩ : ∃ W, W = X0.alloc (.cells #[.int .i64 0, .slice (some ⟨gn, 0, none⟩) 4 4, .bool false, .slice none 0 0] 43) := ⟨_, rfl⟩
          have HLX1 := Lib.hid (show Below wr.heap.size wr X1 from by rw [hX1]; exact below_al HLX0.out _)
          have HF := Lib.hid (fun (j : Nat) (u : Value) (h : (thC ⟨begTh, .slice (some ⟨gn, 0, none⟩) 4 4, .slice none 0 0⟩)[j]? = some u) => (show X1.cell? ⟨gb, j, none⟩ = some u from by
            have e := World.news_of_block (heap_alloc_new X0 (.cells #[.int .i64 0, .slice (some ⟨gn, 0, none⟩) 4 4, .bool false, .slice none 0 0] 43)) j u h
            rw [Addr.add_lit, Nat.zero_add] at e
            rw [hX1, hgb]; exact e))
          replace HON := Lib.hid (own_below HON.out (show Below X0.heap.size X0 X1 from by rw [hX1]; exact below_al (Below.refl _ _) _))
          rw [← hX1]
          rw [← hgb]
          clear hX1 hgb
          refine wpAnyH_ready (rs := [5]) (by kernel_rfl) (by simp) ?_
          refine AllReadyH.cons rfl (fun K hK => ?_) AllReadyH.nil
          refine step_append_src (by rfl) _ _ _ (by rfl) W2.heap.size 43 i1' (.agg #[.int .i64 0, .slice none 0 0, .bool false, .slice none 0 0]) 4 64 Try.underlying26 hi1' hy1 hy2 hy3 (by rfl) (by decide) _ k (ps.flatMap thC) (by rfl) (own_below HOT.out HLX1.out) (some ⟨gb, 0, none⟩) 1 1 (thC ⟨begTh, .slice (some ⟨gn, 0, none⟩) 4 4, .slice none 0 0⟩) (by rfl) (by rfl) (fun c => (by cases c)) (fun ad e j u h => by injection e with e; rw [← e, Addr.add_lit, Nat.zero_add]; exact HF.out j u h) (one_th _ rfl rfl) (by unfold maxLen; omega) (by omega) (Nat.le_trans HSZ.out HLX1.out.size) (fun v2 w5 hown5 hg5 => ?_)
          have HO5 := Lib.hid ((HOS.out.below HLX1.out).snoc ⟨begTh, .slice (some ⟨gn, 0, none⟩) 4 4, .slice none 0 0⟩ (own_base HON.out HSZ.out) (World.ownsRow_nil _ _ _ _) (HOS.out.new_r HON.out (Nat.le_refl _)).1 (HOS.out.new_r HON.out (Nat.le_refl _)).2 (by simpa using hown5) hg5)
          have HB5 := Lib.hid (below_append (HB.out.trans (HLX1.out.mono HB.out.size)) (own_below HOT.out HLX1.out) (Nat.le_refl _) (Nat.le_trans HB.out.size HLX1.out.size) hg5)
          have HBX5 := Lib.hid ((HBX.out.below HLX1.out HBX.out.lt).grown (by decide) (own_below HOT.out HLX1.out) hg5)
          have HBR5 := Lib.hid (HR.out.below HB5.out HR.out.lt)
          obtain ⟨A5, c5, rfl⟩ := own_slice hown5
          have y5 := HBX5.out.cell 1 _ rfl
          have f5 := HBX5.out.frozen 1
          clear hown5 hg5 HF HON
          refine hK.out _ _ trivial (fun hHeld => ?_)
          clear hK K
          (try simp only [Act.put, List.getElem_toArray, List.getElem_cons_zero, List.getElem_cons_succ, Array.getInternal_eq_getElem, List.setIfInBounds_toArray, List.set_cons_zero, List.set_cons_succ])
          refine wpAnyH_take (i := 6) (v := ?_) rfl (by kernel_rfl) (by kernel_rfl) (by kernel_rfl) (fun _ _ _ h => h) (Or.inl ⟨by rfl, ?_⟩) (by assumption) ?_
          rotate_left
          · intro w hSw; (try dsimp only at hSw); go_simp; (try with_reducible rfl)
          (try simp only [Act.put, List.getElem_toArray, List.getElem_cons_zero, List.getElem_cons_succ, Array.getInternal_eq_getElem, List.setIfInBounds_toArray, List.set_cons_zero, List.set_cons_succ])
          refine wpAnyH_ready (rs := [7]) (by kernel_rfl) (by simp) ?_
          refine AllReadyH.cons rfl (fun K hK => ?_) AllReadyH.nil
          go_simp
          refine hK.out _ _ trivial (fun hHeld => ?_)
          clear hK K
          (try simp only [Act.put, List.getElem_toArray, List.getElem_cons_zero, List.getElem_cons_succ, Array.getInternal_eq_getElem, List.setIfInBounds_toArray, List.set_cons_zero, List.set_cons_succ])
          refine wpAnyH_done (by kernel_rfl) ?_ _
          clear hHeld
          go_wp2_with fail
          clear y5 f5
          go_roundw
          case rel => exact ⟨k + 1, _, _, by omega, by go_num, HBX5.out.set 1 _, by rw [List.replicate_succ']; exact HO5.out.box HBX5.out (by decide) (by decide) (by decide) 1 _, HB5.out.setCell (p := ⟨gs, 1, none⟩) hgs _⟩
          case measure => simp [intOf]; omega
        · -- 2 first
          go_simp
          refine hK.out _ _ trivial (fun hHeld => ?_)
          clear hK K
          (try simp only [Act.put, List.getElem_toArray, List.getElem_cons_zero, List.getElem_cons_succ, Array.getInternal_eq_getElem, List.setIfInBounds_toArray, List.set_cons_zero, List.set_cons_succ])
          obtain ⟨gn, hgn⟩ : ∃ g, g = Xa.heap.size := ⟨_, rfl⟩
          obtain ⟨X0, hX0⟩ : ∃ W, W = Xa.alloc (.cells #[.int .i64 0, .int .i64 0, .int .i64 0, .int .i64 0] 3) := ⟨_, rfl⟩
          have HLX0 := Lib.hid (show Below wr.heap.size wr X0 from by rw [hX0]; exact below_al HLXa.out _)
          have HON := Lib.hid (show OwnI wr.heap.size X0 (.slice (some ⟨gn, 0, none⟩) 4 4) [0, 0, 0, 0] from by rw [hX0, hgn]; exact World.ownsRow_lit (base := wr.heap.size) (e := 3) (size := 1) Xa #[.int .i64 0, .int .i64 0, .int .i64 0, .int .i64 0] 4 HLXa.out.size (by decide) rfl)
          rw [← hX0]
          rw [← hgn]
          clear hX0 hgn
          refine wpAnyH_take (i := 3) (v := ?_) rfl (by kernel_rfl) (by kernel_rfl) (by kernel_rfl) (fun _ _ _ h => h) (Or.inl ⟨by rfl, ?_⟩) (by assumption) ?_
          rotate_left
          · intro w hSw; (try dsimp only at hSw); go_simp; (try with_reducible rfl)
          (try simp only [Act.put, List.getElem_toArray, List.getElem_cons_zero, List.getElem_cons_succ, Array.getInternal_eq_getElem, List.setIfInBounds_toArray, List.set_cons_zero, List.set_cons_succ])
          refine wpAnyH_ready (rs := [1, 4]) (by kernel_rfl) (by simp) ?_
          refine AllReadyH.cons rfl (fun K hK => ?_) (AllReadyH.cons rfl (fun K hK => ?_) (AllReadyH.nil))
          · -- 1 first
            have y2 := kc HLX0.out y1
            go_simp
            refine hK.out _ _ trivial (fun hHeld => ?_)
            clear hK K
            (try simp only [Act.put, List.getElem_toArray, List.getElem_cons_zero, List.getElem_cons_succ, Array.getInternal_eq_getElem, List.setIfInBounds_toArray, List.set_cons_zero, List.set_cons_succ])
            clear y2
            refine wpAnyH_ready (rs := [4]) (by kernel_rfl) (by simp) ?_
            refine AllReadyH.cons rfl (fun K hK => ?_) AllReadyH.nil
            go_simp
            refine hK.out _ _ trivial (fun hHeld => ?_)
            clear hK K
            (try simp only [Act.put, List.getElem_toArray, List.getElem_cons_zero, List.getElem_cons_succ, Array.getInternal_eq_getElem, List.setIfInBounds_toArray, List.set_cons_zero, List.set_cons_succ])
            obtain ⟨gb, hgb⟩ : ∃ g, g = X0.heap.size := ⟨_, rfl⟩
            obtain ⟨X1, hX1⟩ : ∃ W, W = X0.alloc (.cells #[.int .i64 0, .slice (some ⟨gn, 0, none⟩) 4 4, .bool false, .slice none 0 0] 43) := ⟨_, rfl⟩
            have HLX1 := Lib.hid (show Below wr.heap.size wr X1 from by rw [hX1]; exact below_al HLX0.out _)
            have HF := Lib.hid (fun (j : Nat) (u : Value) (h : (thC ⟨begTh, .slice (some ⟨gn, 0, none⟩) 4 4, .slice none 0 0⟩)[j]? = some u) => (show X1.cell? ⟨gb, j, none⟩ = some u from by
              have e := World.news_of_block (heap_alloc_new X0 (.cells #[.int .i64 0, .slice (some ⟨gn, 0, none⟩) 4 4, .bool false, .slice none 0 0] 43)) j u h
              rw [Addr.add_lit, Nat.zero_add] at e
              rw [hX1, hgb]; exact e))
            replace HON := Lib.hid (own_below HON.out (show Below X0.heap.size X0 X1 from by rw [hX1]; exact below_al (Below.refl _ _) _))
            rw [← hX1]
            rw [← hgb]
            clear hX1 hgb
            refine wpAnyH_ready (rs := [5]) (by kernel_rfl) (by simp) ?_
            refine AllReadyH.cons rfl (fun K hK => ?_) AllReadyH.nil
            refine step_append_src (by rfl) _ _ _ (by rfl) W2.heap.size 43 i1' (.agg #[.int .i64 0, .slice none 0 0, .bool false, .slice none 0 0]) 4 64 Try.underlying26 hi1' hy1 hy2 hy3 (by rfl) (by decide) _ k (ps.flatMap thC) (by rfl) (own_below HOT.out HLX1.out) (some ⟨gb, 0, none⟩) 1 1 (thC ⟨begTh, .slice (some ⟨gn, 0, none⟩) 4 4, .slice none 0 0⟩) (by rfl) (by rfl) (fun c => (by cases c)) (fun ad e j u h => by injection e with e; rw [← e, Addr.add_lit, Nat.zero_add]; exact HF.out j u h) (one_th _ rfl rfl) (by unfold maxLen; omega) (by omega) (Nat.le_trans HSZ.out HLX1.out.size) (fun v2 w5 hown5 hg5 => ?_)
            have HO5 := Lib.hid ((HOS.out.below HLX1.out).snoc ⟨begTh, .slice (some ⟨gn, 0, none⟩) 4 4, .slice none 0 0⟩ (own_base HON.out HSZ.out) (World.ownsRow_nil _ _ _ _) (HOS.out.new_r HON.out (Nat.le_refl _)).1 (HOS.out.new_r HON.out (Nat.le_refl _)).2 (by simpa using hown5) hg5)
            have HB5 := Lib.hid (below_append (HB.out.trans (HLX1.out.mono HB.out.size)) (own_below HOT.out HLX1.out) (Nat.le_refl _) (Nat.le_trans HB.out.size HLX1.out.size) hg5)
            have HBX5 := Lib.hid ((HBX.out.below HLX1.out HBX.out.lt).grown (by decide) (own_below HOT.out HLX1.out) hg5)
            have HBR5 := Lib.hid (HR.out.below HB5.out HR.out.lt)
            obtain ⟨A5, c5, rfl⟩ := own_slice hown5
            have y5 := HBX5.out.cell 1 _ rfl
            have f5 := HBX5.out.frozen 1
            clear hown5 hg5 HF HON
            refine hK.out _ _ trivial (fun hHeld => ?_)
            clear hK K
            (try simp only [Act.put, List.getElem_toArray, List.getElem_cons_zero, List.getElem_cons_succ, Array.getInternal_eq_getElem, List.setIfInBounds_toArray, List.set_cons_zero, List.set_cons_succ])
            refine wpAnyH_take (i := 6) (v := ?_) rfl (by kernel_rfl) (by kernel_rfl) (by kernel_rfl) (fun _ _ _ h => h) (Or.inl ⟨by rfl, ?_⟩) (by assumption) ?_
            rotate_left
            · intro w hSw; (try dsimp only at hSw); go_simp; (try with_reducible rfl)
            (try simp only [Act.put, List.getElem_toArray, List.getElem_cons_zero, List.getElem_cons_succ, Array.getInternal_eq_getElem, List.setIfInBounds_toArray, List.set_cons_zero, List.set_cons_succ])
            refine wpAnyH_ready (rs := [7]) (by kernel_rfl) (by simp) ?_
            refine AllReadyH.cons rfl (fun K hK => ?_) AllReadyH.nil
            go_simp
            refine hK.out _ _ trivial (fun hHeld => ?_)
            clear hK K
            (try simp only [Act.put, List.getElem_toArray, List.getElem_cons_zero, List.getElem_cons_succ, Array.getInternal_eq_getElem, List.setIfInBounds_toArray, List.set_cons_zero, List.set_cons_succ])
            refine wpAnyH_done (by kernel_rfl) ?_ _
            clear hHeld
            go_wp2_with fail
            clear y5 f5
            go_roundw
            case rel => exact ⟨k + 1, _, _, by omega, by go_num, HBX5.out.set 1 _, by rw [List.replicate_succ']; exact HO5.out.box HBX5.out (by decide) (by decide) (by decide) 1 _, HB5.out.setCell (p := ⟨gs, 1, none⟩) hgs _⟩
            case measure => simp [intOf]; omega
          · -- 4 first
            go_simp
            refine hK.out _ _ trivial (fun hHeld => ?_)
            clear hK K
            (try simp only [Act.put, List.getElem_toArray, List.getElem_cons_zero, List.getElem_cons_succ, Array.getInternal_eq_getElem, List.setIfInBounds_toArray, List.set_cons_zero, List.set_cons_succ])
            obtain ⟨gb, hgb⟩ : ∃ g, g = X0.heap.size := ⟨_, rfl⟩
            obtain ⟨X1, hX1⟩ : ∃ W, W = X0.alloc (.cells #[.int .i64 0, .slice (some ⟨gn, 0, none⟩) 4 4, .bool false, .slice none 0 0] 43) := ⟨_, rfl⟩
            have HLX1 := Lib.hid (show Below wr.heap.size wr X1 from by rw [hX1]; exact below_al HLX0.out _)
            have HF := Lib.hid (fun (j : Nat) (u : Value) (h : (thC ⟨begTh, .slice (some ⟨gn, 0, none⟩) 4 4, .slice none 0 0⟩)[j]? = some u) => (show X1.cell? ⟨gb, j, none⟩ = some u from by
              have e := World.news_of_block (heap_alloc_new X0 (.cells #[.int .i64 0, .slice (some ⟨gn, 0, none⟩) 4 4, .bool false, .slice none 0 0] 43)) j u h
              rw [Addr.add_lit, Nat.zero_add] at e
              rw [hX1, hgb]; exact e))
            replace HON := Lib.hid (own_below HON.out (show Below X0.heap.size X0 X1 from by rw [hX1]; exact below_al (Below.refl _ _) _))
            rw [← hX1]
            rw [← hgb]
            clear hX1 hgb
            refine wpAnyH_ready (rs := [1]) (by kernel_rfl) (by simp) ?_
            refine AllReadyH.cons rfl (fun K hK => ?_) AllReadyH.nil
            have y2 := kc HLX1.out y1
            go_simp
            refine hK.out _ _ trivial (fun hHeld => ?_)
            clear hK K
            (try simp only [Act.put, List.getElem_toArray, List.getElem_cons_zero, List.getElem_cons_succ, Array.getInternal_eq_getElem, List.setIfInBounds_toArray, List.set_cons_zero, List.set_cons_succ])
            clear y2
            refine wpAnyH_ready (rs := [5]) (by kernel_rfl) (by simp) ?_
            refine AllReadyH.cons rfl (fun K hK => ?_) AllReadyH.nil
            refine step_append_src (by rfl) _ _ _ (by rfl) W2.heap.size 43 i1' (.agg #[.int .i64 0, .slice none 0 0, .bool false, .slice none 0 0]) 4 64 Try.underlying26 hi1' hy1 hy2 hy3 (by rfl) (by decide) _ k (ps.flatMap thC) (by rfl) (own_below HOT.out HLX1.out) (some ⟨gb, 0, none⟩) 1 1 (thC ⟨begTh, .slice (some ⟨gn, 0, none⟩) 4 4, .slice none 0 0⟩) (by rfl) (by rfl) (fun c => (by cases c)) (fun ad e j u h => by injection e with e; rw [← e, Addr.add_lit, Nat.zero_add]; exact HF.out j u h) (one_th _ rfl rfl) (by unfold maxLen; omega) (by omega) (Nat.le_trans HSZ.out HLX1.out.size) (fun v2 w5 hown5 hg5 => ?_)
            have HO5 := Lib.hid ((HOS.out.below HLX1.out).snoc ⟨begTh, .slice (some ⟨gn, 0, none⟩) 4 4, .slice none 0 0⟩ (own_base HON.out HSZ.out) (World.ownsRow_nil _ _ _ _) (HOS.out.new_r HON.out (Nat.le_refl _)).1 (HOS.out.new_r HON.out (Nat.le_refl _)).2 (by simpa using hown5) hg5)
            have HB5 := Lib.hid (below_append (HB.out.trans (HLX1.out.mono HB.out.size)) (own_below HOT.out HLX1.out) (Nat.le_refl _) (Nat.le_trans HB.out.size HLX1.out.size) hg5)
            have HBX5 := Lib.hid ((HBX.out.below HLX1.out HBX.out.lt).grown (by decide) (own_below HOT.out HLX1.out) hg5)
            have HBR5 := Lib.hid (HR.out.below HB5.out HR.out.lt)
            obtain ⟨A5, c5, rfl⟩ := own_slice hown5
            have y5 := HBX5.out.cell 1 _ rfl
            have f5 := HBX5.out.frozen 1
            clear hown5 hg5 HF HON
            refine hK.out _ _ trivial (fun hHeld => ?_)
            clear hK K
            (try simp only [Act.put, List.getElem_toArray, List.getElem_cons_zero, List.getElem_cons_succ, Array.getInternal_eq_getElem, List.setIfInBounds_toArray, List.set_cons_zero, List.set_cons_succ])
            refine wpAnyH_take (i := 6) (v := ?_) rfl (by kernel_rfl) (by kernel_rfl) (by kernel_rfl) (fun _ _ _ h => h) (Or.inl ⟨by rfl, ?_⟩) (by assumption) ?_
            rotate_left
            · intro w hSw; (try dsimp only at hSw); go_simp; (try with_reducible rfl)
            (try simp only [Act.put, List.getElem_toArray, List.getElem_cons_zero, List.getElem_cons_succ, Array.getInternal_eq_getElem, List.setIfInBounds_toArray, List.set_cons_zero, List.set_cons_succ])
            refine wpAnyH_ready (rs := [7]) (by kernel_rfl) (by simp) ?_
            refine AllReadyH.cons rfl (fun K hK => ?_) AllReadyH.nil
            go_simp
            refine hK.out _ _ trivial (fun hHeld => ?_)
            clear hK K
            (try simp only [Act.put, List.getElem_toArray, List.getElem_cons_zero, List.getElem_cons_succ, Array.getInternal_eq_getElem, List.setIfInBounds_toArray, List.set_cons_zero, List.set_cons_succ])
            refine wpAnyH_done (by kernel_rfl) ?_ _
            clear hHeld
            go_wp2_with fail
            clear y5 f5
            go_roundw
            case rel => exact ⟨k + 1, _, _, by omega, by go_num, HBX5.out.set 1 _, by rw [List.replicate_succ']; exact HO5.out.box HBX5.out (by decide) (by decide) (by decide) 1 _, HB5.out.setCell (p := ⟨gs, 1, none⟩) hgs _⟩
            case measure => simp [intOf]; omega
      · obtain rfl : P.ths.length = k := by omega
        have y0 := HBX.out.cell 0 _ rfl
        have y1 := HBX.out.cell 1 _ rfl
        have HRR := Lib.hid (HR.out.below HB.out HR.out.lt)
        have r0 := HRR.out.cell 0 _ rfl
        have r1 := HRR.out.cell 1 _ rfl
        have f0 := HRR.out.frozen 0
        have f1 := HRR.out.frozen 1
        obtain ⟨W9, hW9⟩ : ∃ W, W = (wr.setCell ⟨gr, 0, none⟩ (.slice Am P.init.length cm)).setCell ⟨gr, 1, none⟩ (.slice Av P.ths.length cv) := ⟨_, rfl⟩
        have HR9 := Lib.hid (show BoxC W9 gr 28 #[.slice Am P.init.length cm, .slice Av P.ths.length cv] from by rw [hW9]; exact (HRR.out.set 0 _).set 1 _)
        have HO9 := Lib.hid (show OwnSt W2.heap.size W9 (.slice Am P.init.length cm) (.slice Av P.ths.length cv) (beg P) ps from by
          rw [hW9, show beg P = ⟨P.init, List.replicate P.ths.length begTh⟩ from by rw [← HTH.out]; rfl]
          exact (HOS.out.box HRR.out (by decide) (by decide) (by decide) 0 _).box (HRR.out.set 0 _) (by decide) (by decide) (by decide) 1 _)
        have HB9 := Lib.hid (show Below w.heap.size w W9 from by rw [hW9]; exact ((chain HB2.out HB.out).setCell (p := ⟨gr, 0, none⟩) HGR.out _).setCell (p := ⟨gr, 1, none⟩) HGR.out _)
        have HW9 := Lib.hid hW9
        clear hW9
        go_wp2_with fail
        rw [← HW9.out]
        clear y0 y1 r0 r1 f0 f1
        have r0 := HR9.out.cell 0 _ rfl
        have r1 := HR9.out.cell 1 _ rfl
        have hz := HCO.out
        refine bodyPost_ret (v := .agg #[.slice Am P.init.length cm, .slice Av P.ths.length cv]) (by simp [results, Try.results24, go_sem, r0, r1, hz]) rfl ⟨_, _, _, rfl, HO9.out.base HB2.out.size, HB9.out⟩
end Go.Proofs.Ytkbnppidkhbbeaa
