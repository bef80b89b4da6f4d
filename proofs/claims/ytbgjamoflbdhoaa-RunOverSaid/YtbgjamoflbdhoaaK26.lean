/-
  LAYER 13: run.Strict.
  LAYER 13: ends and picks, alike.
  LAYER 11: Buffering as a code, in memory.
  LAYER 13: Loose, Great, head: a live question whose answer is fixed.
-/
import Derived.Test.YtbgjamoflbdhoaaRuH
import Derived.Deep.RegionHeld3
import Derived.Deep.DeepCutAuto
import Derived.Test.YtbgjamoflbdhoaaK17
import Derived.Test.YtbgjamoflbdhoaaScX
import Derived.Test.YtbgjamoflbdhoaaK04
import Derived.Test.YtbgjamoflbdhoaaK24
import Derived.Test.YtbgjamoflbdhoaaScW
set_option linter.unusedVariables false
set_option linter.unusedSimpArgs false
namespace Go.Proofs.Ytbgjamoflbdhoaa
open Go.RowKit
set_option linter.unusedVariables false
set_option linter.unusedSimpArgs false
open CodM (St Pg rightP)
open BfM (Wr plc)
open ScM

/-- The weak run that does as much as the picks l. -/
def strL (P : Pg) (l : List (Int × Bool)) : List (Int × Bool) := (strS P (beg P) l).getD []
def StRetK (P : Pg) (l : List (Int × Bool)) (w : World) (e : Ending) (w' : World) : Prop :=
  ∃ A n c, e = .returned (.tuple #[.slice A n c, .bool (runS P false (beg P) l).2.2]) ∧ n = (strL P l).length ∧ w'.ownsRow w.heap.size 47 2 (.slice A n c) n ((strL P l).flatMap kiC) ∧ Below w.heap.size w w'
/-- What the follower's box holds. -/
def FoJ (P : Pg) (l : List (Int × Bool)) (v0 v1 : Value) (gf base : Nat) (k : Nat) (W : World) : Prop :=
  ∃ A n c r, strS P (beg P) (l.take k) = some r ∧ n = r.length ∧ n ≤ 2 * k ∧ BoxC W gf 68 #[v0, v1, .slice A n c] ∧ W.ownsRow base 47 2 (.slice A n c) n (r.flatMap kiC)
theorem FoJ.ok (P : Pg) (l : List (Int × Bool)) (v0 v1 : Value) (gf base b2 : Nat) : JOk (FoJ P l v0 v1 gf base) gf b2 68 :=
  ⟨fun k W ⟨A, n, c, r, h1, h2, h3, h4, h5⟩ => ⟨_, h4⟩,
   fun k W W' ⟨A, n, c, r, h1, h2, h3, h4, h5⟩ hb => ⟨A, n, c, r, h1, h2, h3, h4.below hb h4.lt, own_below h5 hb⟩,
   fun k W g cs i v ⟨A, n, c, r, h1, h2, h3, h4, h5⟩ hb => ⟨A, n, c, r, h1, h2, h3, h4.other (fun e => by (subst e; have := h4.symm.trans hb; injection this with this; injection this with _ this; exact absurd this (by decide))) i v, own_box h5 hb (by decide) i v⟩,
   by decide, by decide, by decide⟩
theorem wkOf_len (x : St) (k : Int × Bool) : (wkOf x k).length ≤ 2 := by unfold wkOf; split <;> simp
set_option maxHeartbeats 8000000 in
set_option maxRecDepth 100000 in
theorem strict_run_any {B : Nat} {v vl : Value} {P : Pg} {l : List (Int × Bool)} (w : World) (hv : PgZ B w v P) (hl : KiR B w vl l) (hBB : B ≤ w.heap.size) (hp : rightP P = true) (hn : l.length ≤ 50000) :
    Calls Try.prog 15 #[v, vl] w (StRetK P l w) := by
  have HP := Lib.hid (fun W (hW : Below w.heap.size w W) => (show PgZ W.heap.size W v P from (hv.below (hW.mono hBB)).more (Nat.le_trans hBB hW.size)))
  have HPV := Lib.hid (fun W (hW : Below w.heap.size w W) => (show PgV w.heap.size W v P from ((hv.more hBB).below hW).v))
  have HSP := Lib.hid (fun k => show OkSt P (runS P false (beg P) (l.take k)).1 ∧ WideS (runS P false (beg P) (l.take k)).1 from ⟨runS_ok hp _ (beg_ok P), wide_run hp false (l.take k) (by rw [List.length_take]; omega) (by decide)⟩)
  have HSR := Lib.hid (strict_run hp l (beg_ok P) (nbuf_beg P))
  have HRP := Lib.hid hp
  have HNN := Lib.hid hn
  clear hp hn
  obtain ⟨pi, pt, rfl, hpm, -⟩ := hv
  obtain ⟨⟨P0, d0, rfl, -⟩, ⟨P1, d1, rfl, -⟩⟩ := hpm
  obtain ⟨Al, cl, rfl, -⟩ := id hl
  have HL0 := Lib.hid (hl.more hBB)
  clear hl
  obtain ⟨W2, hW2⟩ : ∃ W, W = w.alloc (.cells #[.slice P0 P.init.length d0, .slice P1 P.ths.length d1] 25) := ⟨_, rfl⟩
  obtain ⟨gp, hgp⟩ : ∃ g, g = w.heap.size := ⟨_, rfl⟩
  have HX := Lib.hid (show BoxC W2 gp 25 #[.slice P0 P.init.length d0, .slice P1 P.ths.length d1] from by rw [hW2, hgp]; exact BoxC.new w _ _)
  have HB2 := Lib.hid (show Below w.heap.size w W2 from by rw [hW2]; exact below_al (Below.refl _ _) _)
  go_enter Try.func15, Try.ntmps15
  go_upto_region 1 with fail
  rw [← hW2]
  (try rw [← hgp])
  clear hW2 hgp
  have x0 := HX.out.cell 0 _ rfl
  have x1 := HX.out.cell 1 _ rfl
  go_upto_region 2 with fail
  obtain ⟨X2, hX2⟩ : ∃ W, W = W2.alloc (.cells #[.slice P0 P.init.length d0, .slice P1 P.ths.length d1, .slice none 0 0] 68) := ⟨_, rfl⟩
  obtain ⟨gf, hgf⟩ : ∃ g, g = W2.heap.size := ⟨_, rfl⟩
  have HF := Lib.hid (show BoxC X2 gf 68 #[.slice P0 P.init.length d0, .slice P1 P.ths.length d1, .slice none 0 0] from by rw [hX2, hgf]; exact BoxC.new W2 _ _)
  have HX2 := Lib.hid (show Below W2.heap.size W2 X2 from by rw [hX2]; exact below_al (Below.refl _ _) _)
  have HGF := Lib.hid (show W2.heap.size ≤ gf from by omega)
  have HBW := Lib.hid HB2.out.size
  rw [← hX2]
  (try rw [← hgf])
  clear hX2 hgf x0 x1
  have HB3 := Lib.hid (chain HB2.out HX2.out)
  have HP3 := Lib.hid (HP.out _ HB3.out)
  have HXA := Lib.hid (HX.out.below HX2.out HX.out.lt)
  have x0 := HXA.out.cell 0 _ rfl
  have x1 := HXA.out.cell 1 _ rfl
  go_wp2_with fail
  refine (begin_any _ HP3.out (Nat.le_refl _) HRP.out).mono ?_
  rintro e V1 ⟨gq, gs, va, vb, ps, rfl, hq, hs, ho, ⟨hg1, hg2, hg3⟩, hb⟩
  have HQ4 := Lib.hid hq
  have HS4 := Lib.hid hs
  have HO4 := Lib.hid ho
  have HG4 := Lib.hid (show X2.heap.size ≤ gq ∧ X2.heap.size ≤ gs ∧ gq ≠ gs from ⟨hg1, hg2, hg3⟩)
  have HB4 := Lib.hid hb
  have HF4 := Lib.hid (HF.out.below hb HF.out.lt)
  have HFL := Lib.hid HF.out.lt
  clear hq hs ho hg1 hg2 hg3 hb x0 x1
  go_wp2_with fail
  have HZ := Lib.hid (show X2.heap.size ≤ V1.heap.size from HB4.out.size)
  have HBV := Lib.hid (chain HB3.out HB4.out)
  have HZ2 := Lib.hid HB3.out.size
  have HBF := Lib.hid (show w.heap.size ≤ gf from by have h1 := HGF.out; have h2 := HBW.out; omega)
  have HBS := Lib.hid (show w.heap.size ≤ gs from by have h1 := HG4.out.2.1; have h2 := HZ2.out; omega)
  have HKL := Lib.hid (show KiR w.heap.size V1 (.slice Al l.length cl) l from HL0.out.below HBV.out)
  have HJ0 := Lib.hid (show FoJ P l (.slice P0 P.init.length d0) (.slice P1 P.ths.length d1) gf X2.heap.size 0 V1 from ⟨none, 0, 0, [], by rw [List.take_zero]; rfl, rfl, Nat.zero_le _, HF4.out, World.ownsRow_nil _ _ _ _⟩)
  refine (begin1_any (B := w.heap.size) (base := X2.heap.size) (P := P) (l := l) (wk := false) (gf := gf) (TF := 68) (J := FoJ P l (.slice P0 P.init.length d0) (.slice P1 P.ths.length d1) gf X2.heap.size) V1 HKL.out HBF.out HBS.out (Nat.le_trans HZ2.out HZ.out) HZ.out HQ4.out HS4.out HO4.out (fun args W => by rfl) HJ0.out (FoJ.ok _ _ _ _ _ _ _) (by have := HG4.out; have := HFL.out; omega) (by have := HG4.out; have := HFL.out; omega) HG4.out.2.2 (fun k hk s W vm vt ps hrun hj ho hb => ?_)).mono ?_
  · have hsp := HSP.out k
    rw [hrun] at hsp
    have hbw := HBV.out.trans hb
    obtain ⟨A, n, c, r, j1, j2, j3, j4, j5⟩ := hj
    refine (fstep_any (B := w.heap.size) (base := X2.heap.size) l[k].1 l[k].2 W (HPV.out W hbw) ho hbw.size HBF.out HZ2.out (Nat.le_trans HZ.out hb.size) j4 j2 j5 (by have := HNN.out; omega) HRP.out hsp.1 hsp.2).mono ?_
    rintro e W' ⟨A', n', c', D, m, q, rfl, h1, h2⟩
    refine ⟨A', n', c', D, m, q, rfl, fun s' hs' => ?_, h2⟩
    obtain ⟨hps, A2, n2, c2, x, hx, hn2, hb2, hr2⟩ := h1 s' hs'
    refine ⟨⟨A2, n2, c2, r ++ wkOf x l[k], strS_next hk hrun j1 hx hs', hn2, ?_, hb2, hr2⟩, hps⟩
    have := wkOf_len x (l[k].1, l[k].2)
    rw [hn2, List.length_append, ← j2]
    omega
  · rintro e V2 ⟨A, n, c, Bq, m, q, ps2, rfl, hos, hj, hkp⟩
    obtain ⟨cn, hcn⟩ : ∃ a, a = (runS P false (beg P) l).2.1 := ⟨_, rfl⟩
    obtain ⟨ca, hca⟩ : ∃ a, a = (runS P false (beg P) l).2.2 := ⟨_, rfl⟩
    rw [← hca] at hj
    rw [← hcn, ← hca]
    have HCA := Lib.hid hca
    have HJ := Lib.hid hj
    have HB5 := Lib.hid (HBV.out.trans (hkp.below HBF.out HBS.out (Nat.le_trans HZ2.out HZ.out) (Nat.le_refl _)))
    clear hcn hca hos hkp hj
    go_upto_region 3 with fail
    obtain ⟨X3, hX3⟩ : ∃ W, W = V2.alloc (.cells #[.slice A n c, .slice Bq m q] 31) := ⟨_, rfl⟩
    have HX3 := Lib.hid (show Below V2.heap.size V2 X3 from by rw [hX3]; exact below_al (Below.refl _ _) _)
    rw [← hX3]
    clear hX3
    have HB6 := Lib.hid (chain HB5.out HX3.out)
    cases ca
    · have HNO := Lib.hid (show strL P l = [] from by
        rcases HSR.out with ⟨_, h⟩ | ⟨h, _⟩
        · unfold strL; rw [h]; rfl
        · exact absurd (HCA.out.trans h) (by simp))
      go_wp2
      refine bodyPost_ret (v := .tuple #[.slice none 0 0, .bool false]) (by simp [results, Try.results15, go_sem]) rfl ?_
      exact ⟨none, 0, 0, by rw [← HCA.out], by rw [HNO.out]; rfl, by rw [HNO.out]; exact World.ownsRow_nil _ _ _ _, HB6.out⟩
    · obtain ⟨A2, n2, c2, r, j1, j2, j3, j4, j5⟩ := HJ.out rfl
      rw [List.take_length] at j1
      have HSL := Lib.hid (show strL P l = r from by unfold strL; rw [j1]; rfl)
      have HN2 := Lib.hid j2
      have HF6 := Lib.hid (j4.below HX3.out j4.lt)
      have HO6 := Lib.hid (own_below j5 HX3.out)
      clear j1 j2 j3 j4 j5
      have f2 := HF6.out.cell 2 _ rfl
      go_wp2
      refine bodyPost_ret (v := .tuple #[.slice A2 n2 c2, .bool true]) (by simp [results, Try.results15, go_sem]) rfl ?_
      exact ⟨A2, n2, c2, by rw [← HCA.out], by rw [HSL.out]; exact HN2.out, by rw [HSL.out]; exact own_base HO6.out HZ2.out, HB6.out⟩
end Go.Proofs.Ytbgjamoflbdhoaa
namespace Go.Proofs.Ytbgjamoflbdhoaa
open Go.RowKit
set_option linter.unusedVariables false
set_option linter.unusedSimpArgs false
open CodM (St Pg rightP)
open BfM (Wr plc)
open ScM

/-- An end in memory. -/
def OutR (B : Nat) (w : World) (v : Value) (o : List Int × List Int) : Prop := ∃ vm vr, v = .agg #[vm, vr] ∧ IntR B w vm o.1 ∧ IntR B w vr o.2
theorem OutR.below {B : Nat} {w w' : World} {v : Value} {o : List Int × List Int} (h : OutR B w v o) (hb : Below B w w') : OutR B w' v o := by
  obtain ⟨a, b, e, h1, h2⟩ := h; exact ⟨a, b, e, h1.below hb, h2.below hb⟩
theorem OutR.more {B B' : Nat} {w : World} {v : Value} {o : List Int × List Int} (h : OutR B w v o) (hb : B ≤ B') : OutR B' w v o := by
  obtain ⟨a, b, e, h1, h2⟩ := h; exact ⟨a, b, e, h1.more hb, h2.more hb⟩
theorem out_own {base : Nat} {w : World} {A D : Option Addr} {m c n d : Nat} {o : List Int × List Int} (hm : m = o.1.length) (hn : n = o.2.length) (h1 : OwnI base w (.slice A m c) o.1) (h2 : OwnI base w (.slice D n d) o.2) : OutR w.heap.size w (.agg #[.slice A m c, .slice D n d]) o :=
  ⟨_, _, rfl, Rw.own h1 (Nat.le_refl _), Rw.own h2 (Nat.le_refl _)⟩
set_option maxHeartbeats 4000000 in
set_option maxRecDepth 100000 in
theorem osame_any {B : Nat} {v u : Value} {o : List Int × List Int} (w : World) (hv : OutR B w v o) (hu : OutR B w u o) (hBB : B ≤ w.heap.size) :
    Calls Try.prog 18 #[v, u] w fun e w' => e = .returned (.bool true) ∧ Below w.heap.size w w' := by
  obtain ⟨vm, vr, rfl, h1, h2⟩ := hv
  obtain ⟨um, ur, rfl, g1, g2⟩ := hu
  have HC1 := Lib.hid (fun W (hW : Below w.heap.size w W) => nsame_any W (h1.below (hW.mono hBB)) (g1.below (hW.mono hBB)) (Nat.le_trans hBB hW.size))
  have HC2 := Lib.hid (fun W (hW : Below w.heap.size w W) => nsame_any W (h2.below (hW.mono hBB)) (g2.below (hW.mono hBB)) (Nat.le_trans hBB hW.size))
  obtain ⟨A1, c1, rfl, -⟩ := h1
  obtain ⟨A2, c2, rfl, -⟩ := h2
  obtain ⟨D1, e1, rfl, -⟩ := g1
  obtain ⟨D2, e2, rfl, -⟩ := g2
  obtain ⟨l1, hl1⟩ : ∃ n, n = o.1.length := ⟨_, rfl⟩
  obtain ⟨l2, hl2⟩ : ∃ n, n = o.2.length := ⟨_, rfl⟩
  rw [← hl1] at HC1
  rw [← hl2] at HC2
  rw [← hl1, ← hl2]
  obtain ⟨W2, hW2⟩ : ∃ W, W = (w.alloc (.cells #[.slice A1 l1 c1, .slice A2 l2 c2] 35)).alloc (.cells #[.slice D1 l1 e1, .slice D2 l2 e2] 35) := ⟨_, rfl⟩
  obtain ⟨ga, hga⟩ : ∃ g, g = w.heap.size := ⟨_, rfl⟩
  obtain ⟨gb, hgb⟩ : ∃ g, g = w.heap.size + 1 := ⟨_, rfl⟩
  have HX := Lib.hid (show BoxC W2 ga 35 #[.slice A1 l1 c1, .slice A2 l2 c2] from by rw [hW2, hga]; exact (BoxC.new w _ _).alloc _)
  have HY := Lib.hid (show BoxC W2 gb 35 #[.slice D1 l1 e1, .slice D2 l2 e2] from by rw [hW2, hgb]; have := BoxC.new (w.alloc (.cells #[.slice A1 l1 c1, .slice A2 l2 c2] 35)) 35 #[.slice D1 l1 e1, .slice D2 l2 e2]; rw [World.size_alloc] at this; exact this)
  have HB2 := Lib.hid (show Below w.heap.size w W2 from by rw [hW2]; exact below_al (below_al (Below.refl _ _) _) _)
  clear hl1 hl2
  go_enter Try.func18, Try.ntmps18
  go_upto_region 1 with fail
  rw [← hW2]
  (try rw [← hgb])
  (try rw [← hga])
  clear hW2 hga hgb
  have x0 := HX.out.cell 0 _ rfl
  have y0 := HY.out.cell 0 _ rfl
  go_wp2_with fail
  refine (HC1.out _ HB2.out).mono ?_
  rintro e V1 ⟨rfl, hb⟩
  have HB3 := Lib.hid (chain HB2.out hb)
  have HX3 := Lib.hid (HX.out.below hb HX.out.lt)
  have HY3 := Lib.hid (HY.out.below hb HY.out.lt)
  clear hb x0 y0
  have x1 := HX3.out.cell 1 _ rfl
  have y1 := HY3.out.cell 1 _ rfl
  go_wp2_with fail
  refine (HC2.out _ HB3.out).mono ?_
  rintro e V2 ⟨rfl, hb⟩
  have HB4 := Lib.hid (chain HB3.out hb)
  clear hb x1 y1
  go_wp2
  go_ret
  exact ⟨rfl, HB4.out⟩
set_option maxHeartbeats 4000000 in
set_option maxRecDepth 100000 in
theorem kisame_any {B : Nat} {v u : Value} {ns : List (Int × Bool)} (w : World) (hv : KiR B w v ns) (hu : KiR B w u ns) (hBB : B ≤ w.heap.size) :
    Calls Try.prog 19 #[v, u] w fun e w' => e = .returned (.bool true) ∧ Below w.heap.size w w' := by
  obtain ⟨A1, c1, rfl, ha1, ha2, -, ha3⟩ := hv
  obtain ⟨A2, c2, rfl, hb1, hb2, -, hb3⟩ := hu
  unfold maxLen at ha2 hb2
  have ha3 := ki_at (c := c1) ha3
  have hb3 := ki_at (c := c2) hb3
  go_enter Try.func19, Try.ntmps19
  go_wp2
  go_loopw [5] (fun i wr => ∃ k : Nat, k ≤ ns.length ∧ i = .int .i64 k ∧ Below w.heap.size w wr) (fun i _ => ns.length - (intOf i).toNat)
  case atStart => exact ⟨0, Nat.zero_le _, rfl, Below.refl _ _⟩
  case round =>
    obtain ⟨k, hk, rfl, hB⟩ := hrel
    by_cases hlt : k < ns.length
    · obtain ⟨b1, f1, rfl, hl1, hc1⟩ := ha3 (by omega)
      obtain ⟨b2, f2, rfl, hl2, hc2⟩ := hb3 (by omega)
      obtain ⟨p0, p1⟩ := hc1 k hlt
      obtain ⟨q0, q1⟩ := hc2 k hlt
      have d1 := ((hB.mono hBB).cell (p := ⟨b1, f1 + k * 2, none⟩) hl1).trans p0
      have d2 := ((hB.mono hBB).cell (p := ⟨b1, f1 + k * 2 + 1, none⟩) hl1).trans p1
      have d3 := ((hB.mono hBB).cell (p := ⟨b2, f2 + k * 2, none⟩) hl2).trans q0
      have d4 := ((hB.mono hBB).cell (p := ⟨b2, f2 + k * 2 + 1, none⟩) hl2).trans q1
      obtain ⟨x, hx⟩ : ∃ x, x = ns[k] := ⟨_, rfl⟩
      rw [← hx] at d1 d2 d3 d4
      clear hx hc1 hc2 ha3 hb3 p0 p1 q0 q1
      go_wp2
      go_quiet (fail)
      go_wp2
      go_roundw
      case rel => exact ⟨k + 1, by omega, by go_num, below_drewN hB _⟩
      case measure => simp [intOf]; omega
    · obtain rfl : ns.length = k := by omega
      clear ha3 hb3
      go_wp2
      go_ret
      exact ⟨rfl, hB⟩
end Go.Proofs.Ytbgjamoflbdhoaa
namespace Go.Proofs.Ytbgjamoflbdhoaa
open Go.RowKit
set_option linter.unusedVariables false
set_option linter.unusedSimpArgs false
open CodM (St Pg rightP)
open ScM

theorem allocs_cell : ∀ (l : List Obj) (w : World) (j : Nat) (cs : Array Value) (T : TypeId) (i : Nat) (v : Value), l[j]? = some (.cells cs T) → cs[i]? = some v →
    (l.foldl World.alloc w).cell? ⟨w.heap.size + j, i, none⟩ = some v ∧ (l.foldl World.alloc w).frozen? ⟨w.heap.size + j, i, none⟩ = false
  | [], w, j, cs, T, i, v, h, _ => by simp at h
  | o :: r, w, 0, cs, T, i, v, h, hi => by
    obtain rfl : o = .cells cs T := by simpa using h
    have hb : ∀ (r : List Obj) (W : World), Below W.heap.size W (r.foldl World.alloc W) := by
      intro r
      induction r with
      | nil => exact fun W => Below.refl _ _
      | cons o r ih => exact fun W => (below_al (Below.refl W.heap.size W) o).trans ((ih _).mono (by simp))
    exact kept_box (hb r _) i hi
  | o :: r, w, j + 1, cs, T, i, v, h, hi => by
    have := allocs_cell r (w.alloc o) j cs T i v (by simpa using h) hi
    rw [World.size_alloc, show w.heap.size + 1 + j = w.heap.size + (j + 1) by omega] at this
    exact this
def bufP : Pg := ⟨[0, 0], [[⟨4, 0, 0, 1, 0⟩, ⟨2, 0, 1, 0, 0⟩], [⟨4, 0, 1, 1, 0⟩, ⟨2, 0, 0, 0, 0⟩]]⟩
theorem buf_rp : rightP bufP = true := by kernel_rfl
theorem sts_lit {B b : Nat} {W : World} {ss : List St} (hb : b < B) (hn : ss.length ≤ 1000) (h : ∀ j (hj : j < ss.length), StAt W b (j * 5) ss[j]) : Sts B W (.slice (some ⟨b, 0, none⟩) ss.length ss.length) ss :=
  ⟨_, ss.length, rfl, Nat.le_refl _, by unfold maxLen; omega, fun _ => ⟨b, 0, rfl, hb, fun j hj => by rw [Nat.zero_add]; exact h j hj⟩⟩
theorem sss_lit {B b : Nat} {W : World} {ts : List (List St)} (hb : b < B) (hn : ts.length ≤ 1000) (h : ∀ j (hj : j < ts.length), SsAt B W b j ts[j]) : Sss B W (.slice (some ⟨b, 0, none⟩) ts.length ts.length) ts :=
  ⟨_, ts.length, rfl, Nat.le_refl _, by unfold maxLen; omega, fun _ => ⟨b, 0, rfl, hb, fun j hj => by rw [Nat.zero_add]; exact h j hj⟩⟩
theorem ints_lit {B b : Nat} {W : World} {ns : List Int} (hb : b < B) (hn : ns.length ≤ 1000) (h : ∀ j (hj : j < ns.length), IntAt W b j ns[j]) : Ints B W (.slice (some ⟨b, 0, none⟩) ns.length ns.length) ns :=
  ⟨_, ns.length, rfl, Nat.le_refl _, by unfold maxLen; omega, fun _ => ⟨b, 0, rfl, hb, fun j hj => by rw [Nat.zero_add]; exact h j hj⟩⟩
set_option maxHeartbeats 8000000 in
set_option maxRecDepth 100000 in
theorem buf7_any (w : World) : Calls Try.prog 28 #[] w fun e w' => ∃ vi vt, e = .returned (.agg #[vi, vt]) ∧ PgM w'.heap.size w' vi vt bufP ∧ NilZ vi ∧ Below w.heap.size w w' := by
  have hz : Try.prog.cellsOf 25 = 2 := by kernel_rfl
  go_enter Try.func28, Try.ntmps28
  go_wp2
  have hB := (below_al (below_al (below_al (below_al (below_al (Below.refl w.heap.size w) (.cells #[.slice (some ⟨w.heap.size + 1, 0, none⟩) 2 2, .slice (some ⟨w.heap.size + 1 + 1 + 1 + 1, 0, none⟩) 2 2] 25)) (.cells #[.int .i64 0, .int .i64 0] 3)) (.cells #[.int .i64 4, .int .i64 0, .int .i64 0, .int .i64 1, .int .i64 0, .int .i64 2, .int .i64 0, .int .i64 1, .int .i64 0, .int .i64 0] 70)) (.cells #[.int .i64 4, .int .i64 0, .int .i64 1, .int .i64 1, .int .i64 0, .int .i64 2, .int .i64 0, .int .i64 0, .int .i64 0, .int .i64 0] 70)) (.cells #[.slice (some ⟨w.heap.size + 1 + 1, 0, none⟩) 2 2, .slice (some ⟨w.heap.size + 1 + 1 + 1, 0, none⟩) 2 2] 57))
  have HC : ∀ (j i : Nat) (cs : Array Value) (T : TypeId) (v : Value), ([.cells #[.slice (some ⟨w.heap.size + 1, 0, none⟩) 2 2, .slice (some ⟨w.heap.size + 1 + 1 + 1 + 1, 0, none⟩) 2 2] 25, .cells #[.int .i64 0, .int .i64 0] 3, .cells #[.int .i64 4, .int .i64 0, .int .i64 0, .int .i64 1, .int .i64 0, .int .i64 2, .int .i64 0, .int .i64 1, .int .i64 0, .int .i64 0] 70, .cells #[.int .i64 4, .int .i64 0, .int .i64 1, .int .i64 1, .int .i64 0, .int .i64 2, .int .i64 0, .int .i64 0, .int .i64 0, .int .i64 0] 70, .cells #[.slice (some ⟨w.heap.size + 1 + 1, 0, none⟩) 2 2, .slice (some ⟨w.heap.size + 1 + 1 + 1, 0, none⟩) 2 2] 57] : List Obj)[j]? = some (.cells cs T) → cs[i]? = some v → ((World.alloc (World.alloc (World.alloc (World.alloc (World.alloc w (.cells #[.slice (some ⟨w.heap.size + 1, 0, none⟩) 2 2, .slice (some ⟨w.heap.size + 1 + 1 + 1 + 1, 0, none⟩) 2 2] 25)) (.cells #[.int .i64 0, .int .i64 0] 3)) (.cells #[.int .i64 4, .int .i64 0, .int .i64 0, .int .i64 1, .int .i64 0, .int .i64 2, .int .i64 0, .int .i64 1, .int .i64 0, .int .i64 0] 70)) (.cells #[.int .i64 4, .int .i64 0, .int .i64 1, .int .i64 1, .int .i64 0, .int .i64 2, .int .i64 0, .int .i64 0, .int .i64 0, .int .i64 0] 70)) (.cells #[.slice (some ⟨w.heap.size + 1 + 1, 0, none⟩) 2 2, .slice (some ⟨w.heap.size + 1 + 1 + 1, 0, none⟩) 2 2] 57))).cell? ⟨w.heap.size + j, i, none⟩ = some v := fun j i cs T v h1 h2 => (allocs_cell [.cells #[.slice (some ⟨w.heap.size + 1, 0, none⟩) 2 2, .slice (some ⟨w.heap.size + 1 + 1 + 1 + 1, 0, none⟩) 2 2] 25, .cells #[.int .i64 0, .int .i64 0] 3, .cells #[.int .i64 4, .int .i64 0, .int .i64 0, .int .i64 1, .int .i64 0, .int .i64 2, .int .i64 0, .int .i64 1, .int .i64 0, .int .i64 0] 70, .cells #[.int .i64 4, .int .i64 0, .int .i64 1, .int .i64 1, .int .i64 0, .int .i64 2, .int .i64 0, .int .i64 0, .int .i64 0, .int .i64 0] 70, .cells #[.slice (some ⟨w.heap.size + 1 + 1, 0, none⟩) 2 2, .slice (some ⟨w.heap.size + 1 + 1 + 1, 0, none⟩) 2 2] 57] w j cs T i v h1 h2).1
  obtain ⟨W, hW⟩ : ∃ W, W = (World.alloc (World.alloc (World.alloc (World.alloc (World.alloc w (.cells #[.slice (some ⟨w.heap.size + 1, 0, none⟩) 2 2, .slice (some ⟨w.heap.size + 1 + 1 + 1 + 1, 0, none⟩) 2 2] 25)) (.cells #[.int .i64 0, .int .i64 0] 3)) (.cells #[.int .i64 4, .int .i64 0, .int .i64 0, .int .i64 1, .int .i64 0, .int .i64 2, .int .i64 0, .int .i64 1, .int .i64 0, .int .i64 0] 70)) (.cells #[.int .i64 4, .int .i64 0, .int .i64 1, .int .i64 1, .int .i64 0, .int .i64 2, .int .i64 0, .int .i64 0, .int .i64 0, .int .i64 0] 70)) (.cells #[.slice (some ⟨w.heap.size + 1 + 1, 0, none⟩) 2 2, .slice (some ⟨w.heap.size + 1 + 1 + 1, 0, none⟩) 2 2] 57)) := ⟨_, rfl⟩
  rw [← hW] at hB HC ⊢
  have hsz : W.heap.size = w.heap.size + 5 := by rw [hW]; simp only [World.size_alloc]
  clear hW
  have c0 : W.cell? ⟨w.heap.size, 0, none⟩ = some (.slice (some ⟨w.heap.size + 1, 0, none⟩) 2 2) := HC 0 0 _ _ _ rfl rfl
  have c1 : W.cell? ⟨w.heap.size, 1, none⟩ = some (.slice (some ⟨w.heap.size + 1 + 1 + 1 + 1, 0, none⟩) 2 2) := HC 0 1 _ _ _ rfl rfl
  refine bodyPost_ret (v := .agg #[.slice (some ⟨w.heap.size + 1, 0, none⟩) 2 2, .slice (some ⟨w.heap.size + 1 + 1 + 1 + 1, 0, none⟩) 2 2]) (by simp [results, Try.results28, go_sem, c0, c1, hz]) rfl ⟨_, _, rfl, ⟨?_, ?_⟩, (fun n c e => by cases e), hB⟩
  · refine ints_lit (ns := [0, 0]) (by omega) (by decide) (fun j hj => ?_)
    match j, hj with
    | 0, _ => exact HC 1 0 _ _ _ rfl rfl
    | 1, _ => exact HC 1 1 _ _ _ rfl rfl
  · refine sss_lit (ts := bufP.ths) (by omega) (by decide) (fun j hj => ?_)
    match j, hj with
    | 0, _ =>
      refine ⟨_, HC 4 0 _ _ _ rfl rfl, sts_lit (ss := [⟨4, 0, 0, 1, 0⟩, ⟨2, 0, 1, 0, 0⟩]) (by omega) (by decide) (fun j hj => ?_)⟩
      match j, hj with
      | 0, _ => exact ⟨HC 2 0 _ _ _ rfl rfl, HC 2 1 _ _ _ rfl rfl, HC 2 2 _ _ _ rfl rfl, HC 2 3 _ _ _ rfl rfl, HC 2 4 _ _ _ rfl rfl⟩
      | 1, _ => exact ⟨HC 2 5 _ _ _ rfl rfl, HC 2 6 _ _ _ rfl rfl, HC 2 7 _ _ _ rfl rfl, HC 2 8 _ _ _ rfl rfl, HC 2 9 _ _ _ rfl rfl⟩
    | 1, _ =>
      refine ⟨_, HC 4 1 _ _ _ rfl rfl, sts_lit (ss := [⟨4, 0, 1, 1, 0⟩, ⟨2, 0, 0, 0, 0⟩]) (by omega) (by decide) (fun j hj => ?_)⟩
      match j, hj with
      | 0, _ => exact ⟨HC 3 0 _ _ _ rfl rfl, HC 3 1 _ _ _ rfl rfl, HC 3 2 _ _ _ rfl rfl, HC 3 3 _ _ _ rfl rfl, HC 3 4 _ _ _ rfl rfl⟩
      | 1, _ => exact ⟨HC 3 5 _ _ _ rfl rfl, HC 3 6 _ _ _ rfl rfl, HC 3 7 _ _ _ rfl rfl, HC 3 8 _ _ _ rfl rfl, HC 3 9 _ _ _ rfl rfl⟩
end Go.Proofs.Ytbgjamoflbdhoaa
namespace Go.Proofs.Ytbgjamoflbdhoaa
open Go.RowKit
set_option linter.unusedVariables false
set_option linter.unusedSimpArgs false
open CodM (St Pg rightP)
open BfM (Wr plc)
open ScM

theorem rw_box {α : Type} {one : α → List Value} {s : Nat} {W : World} {g : Nat} {T : TypeId} {cs : Array Value} (h : BoxC W g T cs) (l : List α) (n c : Nat) (hc : ∀ (j : Nat) (u : Value), (l.flatMap one)[j]? = some u → cs[j]? = some u) (hn : n = l.length) (hnc : n ≤ c) (hm : c ≤ 1000) : Rw one s W.heap.size W (.slice (some ⟨g, 0, none⟩) n c) l := by
  subst hn
  refine ⟨_, _, rfl, hnc, by unfold maxLen; omega, fun e => (by cases e), fun _ => ⟨g, 0, rfl, h.lt, fun j u hu => ?_⟩⟩
  rw [Nat.zero_add]
  exact h.cell j u (hc j u hu)
def looseL : List (Int × Bool) := [(0, false), (0, false), (1, false), (1, false), (0, true), (1, true)]
def looseC : Array Value := #[.int .i64 0, .bool false, .int .i64 0, .bool false, .int .i64 1, .bool false, .int .i64 1, .bool false, .int .i64 0, .bool true, .int .i64 1, .bool true]
theorem loose_cs : looseC.toList = looseL.flatMap kiC := rfl
theorem loose_at {g : Nat} {W : World} (h : BoxC W g 47 looseC) : KiR W.heap.size W (.slice (some ⟨g, 0, none⟩) 6 6) looseL := rw_box h looseL 6 6 (fun j u hu => by rw [← loose_cs] at hu; simpa using hu) rfl (by decide) (by decide)
theorem loose_3 {g : Nat} {W : World} (h : BoxC W g 47 looseC) : KiR W.heap.size W (.slice (some ⟨g, 0, none⟩) 3 6) (looseL.take 3) := rw_box h (looseL.take 3) 3 6 (fun j u hu => by
  have hj : j < 6 := by
    have := (List.getElem?_eq_some_iff.1 hu).1
    rw [fl_len kiC_len] at this
    simpa [looseL] using this
  match j, hj with
  | 0, _ => exact hu
  | 1, _ => exact hu
  | 2, _ => exact hu
  | 3, _ => exact hu
  | 4, _ => exact hu
  | 5, _ => exact hu) rfl (by decide) (by decide)
set_option maxHeartbeats 4000000 in
set_option maxRecDepth 100000 in
theorem loose_any (w : World) : Calls Try.prog 29 #[] w fun e w' => ∃ g, e = .returned (.slice (some ⟨g, 0, none⟩) 6 6) ∧ BoxC w' g 47 looseC ∧ Below w.heap.size w w' := by
  have hB := below_al (Below.refl w.heap.size w) (.cells #[.int .i64 0, .bool false, .int .i64 0, .bool false, .int .i64 1, .bool false, .int .i64 1, .bool false, .int .i64 0, .bool true, .int .i64 1, .bool true] 47)
  have HQ := Lib.hid (show BoxC (w.alloc (.cells #[.int .i64 0, .bool false, .int .i64 0, .bool false, .int .i64 1, .bool false, .int .i64 1, .bool false, .int .i64 0, .bool true, .int .i64 1, .bool true] 47)) w.heap.size 47 looseC from BoxC.new w _ _)
  go_enter Try.func29, Try.ntmps29
  go_wp2
  go_ret
  exact ⟨w.heap.size, rfl, HQ.out, hB⟩
/-- What Great tells. -/
def Gt13 (P : Pg) (l : List (Int × Bool)) (w : World) (e : Ending) (w' : World) : Prop := ∃ b, e = .returned (.bool b) ∧ (b = false → rightP P = true ∧ l.length ≤ 120) ∧ Below w.heap.size w w'
set_option maxHeartbeats 4000000 in
set_option maxRecDepth 100000 in
theorem great13_any {B : Nat} {v vl : Value} {P : Pg} {l : List (Int × Bool)} (w : World) (hv : PgV B w v P) (hl : KiR B w vl l) (hBB : B ≤ w.heap.size) :
    Calls Try.prog 10 #[v, vl] w (Gt13 P l w) := by
  have HC := Lib.hid (fun W (hW : Below w.heap.size w W) => cgreat_any W (hv.below (hW.mono hBB)) (Nat.le_trans hBB hW.size))
  obtain ⟨pi, pt, rfl, hpm⟩ := hv
  obtain ⟨⟨P0, d0, rfl, -⟩, ⟨P1, d1, rfl, -⟩⟩ := hpm
  obtain ⟨Al, cl, rfl, hl1, hl2, -⟩ := hl
  unfold maxLen at hl2
  obtain ⟨ln, hln⟩ : ∃ n, n = l.length := ⟨_, rfl⟩
  have HLN := Lib.hid hln
  rw [← hln] at hl1
  unfold Gt13
  rw [← hln]
  clear hln
  have hB := below_al (Below.refl w.heap.size w) (.cells #[.slice P0 P.init.length d0, .slice P1 P.ths.length d1] 25)
  have HX := Lib.hid (BoxC.new w 25 #[.slice P0 P.init.length d0, .slice P1 P.ths.length d1])
  have x0 := HX.out.cell 0 _ rfl
  have x1 := HX.out.cell 1 _ rfl
  go_enter Try.func10, Try.ntmps10
  go_wp2_with fail
  refine (HC.out _ hB).mono ?_
  rintro e V1 ⟨b, rfl, hb, hb2⟩
  have HB := Lib.hid hb
  have hB2 := chain hB hb2
  clear hb hb2 x0 x1
  cases b
  · by_cases hg : ln ≤ 120
    · have hd : decide ((ln : Int) > 120) = false := decide_eq_false (by omega)
      have hd2 : decide (120 < (ln : Int)) = false := decide_eq_false (by omega)
      have hd3 : decide (120 < ln) = false := decide_eq_false (by omega)
      have HG := Lib.hid hg
      clear hg
      go_wp2
      go_ret
      exact ⟨false, rfl, fun _ => ⟨(HB.out (by first | rfl | trivial)).2, HG.out⟩, hB2⟩
    · have hd : decide ((ln : Int) > 120) = true := decide_eq_true (by omega)
      have hd2 : decide (120 < (ln : Int)) = true := decide_eq_true (by omega)
      have hd3 : decide (120 < ln) = true := decide_eq_true (by omega)
      clear hg
      go_wp2
      go_ret
      exact ⟨true, rfl, fun e => (by cases e), hB2⟩
  · go_wp2
    go_ret
    exact ⟨true, rfl, fun e => (by cases e), hB2⟩
/-! What the head asks, as mathematics. -/
theorem h1_b : endB bufP true (looseL.take 3) = false := by decide
theorem h1_o : endO bufP true (looseL.take 3) = ([], []) := by decide
def hl2 : List (Int × Bool) := [(0, false), (0, false), (1, false), (1, false)]
theorem h2_b : endB bufP false hl2 = true := by decide
theorem h2_o : endO bufP false hl2 = ([1, 1], [0, 0, 0, 0, 1, 0, 0, 0]) := by decide
def hl3 : List (Int × Bool) := [(0, false), (0, true)]
def hs3 : Sta := ⟨[1, 0], [⟨1, [0, 0, 0, 0], false, []⟩, ⟨0, [0, 0, 0, 0], false, []⟩]⟩
theorem h3_r : runS bufP false (beg bufP) hl3 = (hs3, 1, false) := by rfl
theorem h3_v : overB bufP hs3 = false := by decide
theorem h3_ok : OkSt bufP hs3 := by have := runS_ok buf_rp (wk := false) hl3 (beg_ok bufP); rw [h3_r] at this; exact this
theorem h3_w : WideS hs3 := by have := wide_run buf_rp false hl3 (n := 50000) (by decide) (by decide); rw [h3_r] at this; exact this
def hl4 : List (Int × Bool) := [(0, false), (1, false)]
theorem h4_s : strL bufP hl4 = [(0, false), (0, true), (1, false), (1, true)] := by decide
theorem h4_b : (runS bufP false (beg bufP) hl4).2.2 = true := by decide
def hl5 : List (Int × Bool) := [(2, false)]
theorem h5_s : strL bufP hl5 = [] := by decide
theorem h5_b : (runS bufP false (beg bufP) hl5).2.2 = false := by decide
theorem h6_b : endB bufP true looseL = true := by decide
theorem h6_o : endO bufP true looseL = ([1, 1], [0, 0, 0, 0, 0, 0, 0, 0]) := by decide
end Go.Proofs.Ytbgjamoflbdhoaa
