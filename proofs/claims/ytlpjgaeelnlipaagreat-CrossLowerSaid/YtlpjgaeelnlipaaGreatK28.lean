/-
  LAYER 14: cross.goes, over whatever function is asked at each way.
  LAYER 14: cross.chosen, cross.laid: sets of slots.
  LAYER 14: cross.Cross.
  LAYER 13: run.begin; the closure that it hands back, over whatever step; Run.
  LAYER 13: run.follower's step: a strict step, and the picks of the weak run that does as much.
  LAYER 13: run.Strict.
-/
import Derived.Test.YtlpjgaeelnlipaaGreatCrT
import Derived.RangeFuncCalls
import Derived.Test.YtlpjgaeelnlipaaGreatK09
import Derived.Test.YtlpjgaeelnlipaaGreatK22
import Derived.Deep.DeepCutAuto
import Derived.Deep.RegionHeld3
set_option linter.unusedVariables false
set_option linter.unusedSimpArgs false
namespace Go.Proofs.YtlpjgaeelnlipaaGreat
open Go.RowKit
attribute [local go_sem] Oper.semAt_some
open CodM (St Pg rightP)
open BfM (Wr plc)
open ScM
open SlM
open CrM

/-- What such a function may alter: what lies between B and N, and picks behind. -/
def KpM (B N : Nat) (W W' : World) : Prop := KpR B N W W' ∧ KeepsFrom N W W'
theorem KpM.trans {B N : Nat} {X Y Z : World} (h : KpM B N X Y) (k : KpM B N Y Z) : KpM B N X Z := ⟨h.1.trans k.1, h.2.trans k.2⟩
theorem KpR.up {n N M : Nat} {A B : World} (h : KpR n N A B) (hm : N ≤ M) : KpR n M A B := ⟨h.1, fun k cs T ro h1 => h.2 k cs T ro (by omega)⟩
theorem keeps_up {N M : Nat} {A B : World} (h : KeepsFrom N A B) (hm : N ≤ M) : KeepsFrom M A B := ⟨h.size, fun i o h1 => h.same i o (by omega)⟩
theorem KpM.grown {n N : Nat} {A B : World} (hn : n ≤ A.heap.size) (hg : A.grownBy B none) : KpM n N A B := ⟨KpR.grown hn hg, KeepsFrom.of_grownBy hg (fun j e => by cases e)⟩
theorem MayAb.set {N : Nat} {J : Nat → World → Prop} (h : MayAb N J) {k b : Nat} {A : World} {T : TypeId} {v : Value} (hj : J k A) (hb : Boxed A b T v) (hn : N ≤ b) (hT : T ≠ 53) (u : Value) : J k (A.setCell ⟨b, 0, none⟩ u) :=
  h k A _ (some b) hj (grownBy_setCell' A b u) (fun r e => by cases e; exact ⟨hn, _, hb, .inr ⟨_, _, _, rfl, hT⟩⟩)
set_option maxHeartbeats 1000000 in
theorem along_any (A : Option Addr) (m c : Nat) (pi pt : Value) (w : World) :
    Calls Tryz.prog 45 #[.agg #[pi, pt], .slice A m c] w fun e w' => e = .returned (.func (.func 63) #[] #[.pointer (some ⟨w.heap.size, 0, none⟩), .pointer (some ⟨w.heap.size + 1, 0, none⟩)]) ∧
      w' = (w.alloc (.cells #[pi, pt] 25)).alloc (.cells #[.slice A m c] 26) := by
  go_enter Tryz.func45, Tryz.ntmps45
  go_wp2
  go_ret
  exact ⟨rfl, rfl⟩
/-- What goes hands back. -/
def GoRet (P : Pg) (l : List (Int × Bool)) (bm : Nat → Bool) (Jm : Nat → World → Prop) (B : Nat) (w : World) (e : Ending) (w' : World) : Prop :=
  ∃ b, e = .returned (.bool b) ∧ (b = true ↔ (runS P true (beg P) l).2.2 = true ∧ ∀ k, k < (wysS P (beg P) l).length → bm k = true) ∧ (b = true → Jm (wysS P (beg P) l).length w') ∧ Below B w w'
theorem KpR.set {n N b : Nat} (hn : n ≤ b) (hb : b < N) (A : World) (v : Value) : KpR n N A (A.setCell ⟨b, 0, none⟩ v) :=
  ⟨(Below.refl n A).setCell (p := ⟨b, 0, none⟩) hn v, fun k cs T ro h1 h2 _ => (heap_setCell_other A ⟨b, 0, none⟩ k v (by show k ≠ b; omega)).trans h2⟩
set_option maxRecDepth 100000 in
set_option maxHeartbeats 8000000 in
theorem goesv_any {B Fm : Nat} {pi pt vl : Value} {P : Pg} {l : List (Int × Bool)} {caps : Array Value} {bm : Nat → Bool} {Jm : Nat → World → Prop} {KV : World → Prop} (w : World) (hkv : KV w) (hk1 : MayAb w.heap.size (fun _ => KV)) (hk2 : ∀ W, KV W → PgZ W.heap.size W (.agg #[pi, pt]) P) (hl : KiR B w vl l) (hBB : B ≤ w.heap.size) (hp : rightP P = true) (hn : l.length ≤ 50000)
    (hF : ∀ args W, (callFunc Fm args).run Tryz.prog W = .ok (.enter Fm args) W) (hJ0 : Jm 0 w) (hab : MayAb w.heap.size Jm)
    (hmay : ∀ k (hk : k < (wysS P (beg P) l).length) W, Jm k W → Below B w W → KV W → Calls Tryz.prog Fm (#[.agg #[.int .i64 (wysS P (beg P) l)[k].1.1, .bool (wysS P (beg P) l)[k].1.2], .agg #[.int .i64 (wysS P (beg P) l)[k].2.1, .bool (wysS P (beg P) l)[k].2.2]] ++ caps) W fun e W' => e = .returned (.bool (bm k)) ∧ (bm k = true → Jm (k + 1) W') ∧ KpM B w.heap.size W W' ∧ KV W') :
    Calls Tryz.prog 25 #[.agg #[pi, pt], vl, .func (.func Fm) #[] caps] w (GoRet P l bm Jm B w) := by
  have HAB := Lib.hid hab
  have HMAY := Lib.hid hmay
  have HLEN := Lib.hid (wys_lt P l (beg P))
  have HIS := Lib.hid (wys_is P l (beg P))
  have HKO := Lib.hid (fun X Y (hX : KV X) (hg : X.grownBy Y none) => hk1 0 X Y none hX hg (fun r e => by cases e))
  have HK1 := Lib.hid hk1
  have HL := Lib.hid hl
  have HRP := Lib.hid hp
  obtain ⟨Al, cl, rfl, hl1, hl2, -⟩ := hl
  unfold maxLen at hl2
  clear hab hmay
  refine (callsIn_wide (n := 11)).1 ?_
  have hf1 : Fence.wide.fn 45 := trivial
  refine callsIn_of_wp_marks Tryz.func25 rfl trivial ?_ rfl
  simp only [Tryz.ntmps25, List.size_toArray, List.length_cons, List.length_nil, Nat.reduceAdd, Nat.reduceSub, Array.replicate_succ, Array.replicate_zero, List.push_toArray, List.append_toArray, List.nil_append, List.cons_append]
  have hst : ∀ (W : World) (a : Addr) (f : Fn) (x y : Array Value), (store a (.func f x y)).run Tryz.prog W = _ := fun W a f x y => run_store Tryz.prog W a (.func f x y) _ rfl
  gi_wp2_with (gi_at_call 45; refine (callsIn_wide.2 (along_any _ _ _ _ _ _)).mono ?_; rintro e w' ⟨rfl, rfl⟩)
  obtain ⟨W2, hW2⟩ : ∃ W, W = ((((((w.alloc (.cells #[pi, pt] 25)).alloc (.cells #[.func (.func Fm) #[] caps] 59)).alloc (.cells #[.bool false] 4)).alloc (.cells #[.int .i64 0] 3)).alloc (.cells #[pi, pt] 25)).alloc (.cells #[.slice Al l.length cl] 26)) := ⟨_, rfl⟩
  obtain ⟨gp, hgp⟩ : ∃ g, g = w.heap.size := ⟨_, rfl⟩
  obtain ⟨gf, hgf⟩ : ∃ g, g = w.heap.size + 1 := ⟨_, rfl⟩
  obtain ⟨gk, hgk⟩ : ∃ g, g = w.heap.size + 1 + 1 := ⟨_, rfl⟩
  obtain ⟨gm, hgm⟩ : ∃ g, g = w.heap.size + 1 + 1 + 1 := ⟨_, rfl⟩
  obtain ⟨ga, hga⟩ : ∃ g, g = w.heap.size + 1 + 1 + 1 + 1 := ⟨_, rfl⟩
  obtain ⟨gb, hgb⟩ : ∃ g, g = w.heap.size + 1 + 1 + 1 + 1 + 1 := ⟨_, rfl⟩
  have Bgf := Lib.hid (show BoxC W2 gf 59 #[.func (.func Fm) #[] caps] from by rw [hW2, hgf]; have := (BoxC.new (w.alloc (.cells #[pi, pt] 25)) 59 #[.func (.func Fm) #[] caps]) |>.alloc (.cells #[.bool false] 4) |>.alloc (.cells #[.int .i64 0] 3) |>.alloc (.cells #[pi, pt] 25) |>.alloc (.cells #[.slice Al l.length cl] 26); (try rw [World.size_alloc] at this); (try rw [World.size_alloc] at this); (try rw [World.size_alloc] at this); (try rw [World.size_alloc] at this); (try rw [World.size_alloc] at this); exact this)
  have Bgk := Lib.hid (show BoxC W2 gk 4 #[.bool false] from by rw [hW2, hgk]; have := (BoxC.new ((w.alloc (.cells #[pi, pt] 25)).alloc (.cells #[.func (.func Fm) #[] caps] 59)) 4 #[.bool false]) |>.alloc (.cells #[.int .i64 0] 3) |>.alloc (.cells #[pi, pt] 25) |>.alloc (.cells #[.slice Al l.length cl] 26); (try rw [World.size_alloc] at this); (try rw [World.size_alloc] at this); (try rw [World.size_alloc] at this); (try rw [World.size_alloc] at this); (try rw [World.size_alloc] at this); exact this)
  have Bgm := Lib.hid (show BoxC W2 gm 3 #[.int .i64 0] from by rw [hW2, hgm]; have := (BoxC.new (((w.alloc (.cells #[pi, pt] 25)).alloc (.cells #[.func (.func Fm) #[] caps] 59)).alloc (.cells #[.bool false] 4)) 3 #[.int .i64 0]) |>.alloc (.cells #[pi, pt] 25) |>.alloc (.cells #[.slice Al l.length cl] 26); (try rw [World.size_alloc] at this); (try rw [World.size_alloc] at this); (try rw [World.size_alloc] at this); (try rw [World.size_alloc] at this); (try rw [World.size_alloc] at this); exact this)
  have Bga := Lib.hid (show BoxC W2 ga 25 #[pi, pt] from by rw [hW2, hga]; have := (BoxC.new ((((w.alloc (.cells #[pi, pt] 25)).alloc (.cells #[.func (.func Fm) #[] caps] 59)).alloc (.cells #[.bool false] 4)).alloc (.cells #[.int .i64 0] 3)) 25 #[pi, pt]) |>.alloc (.cells #[.slice Al l.length cl] 26); (try rw [World.size_alloc] at this); (try rw [World.size_alloc] at this); (try rw [World.size_alloc] at this); (try rw [World.size_alloc] at this); (try rw [World.size_alloc] at this); exact this)
  have Bgb := Lib.hid (show BoxC W2 gb 26 #[.slice Al l.length cl] from by rw [hW2, hgb]; have := (BoxC.new (((((w.alloc (.cells #[pi, pt] 25)).alloc (.cells #[.func (.func Fm) #[] caps] 59)).alloc (.cells #[.bool false] 4)).alloc (.cells #[.int .i64 0] 3)).alloc (.cells #[pi, pt] 25)) 26 #[.slice Al l.length cl]); (try rw [World.size_alloc] at this); (try rw [World.size_alloc] at this); (try rw [World.size_alloc] at this); (try rw [World.size_alloc] at this); (try rw [World.size_alloc] at this); exact this)
  have HS2 := Lib.hid (show W2.heap.size = w.heap.size + 6 from by rw [hW2]; simp)
  have HB2 := Lib.hid (show Below w.heap.size w W2 from by rw [hW2]; exact below_al (below_al (below_al (below_al (below_al (below_al (Below.refl _ _) _) _) _) _) _) _)
  have HN := Lib.hid (show gf = w.heap.size + 1 ∧ gk = w.heap.size + 2 ∧ gm = w.heap.size + 3 ∧ ga = w.heap.size + 4 ∧ gb = w.heap.size + 5 from by omega)
  rw [← hW2, ← hgb, ← hga, ← hgm, ← hgk, ← hgf, ← hgp]
  clear hW2 hgp hgf hgk hgm hga hgb hst
  have HIT := Lib.hid (along1_tells (B := B) (n2 := w.heap.size + 4) (n3 := w.heap.size) (gp := ga) (gl := gb) (vl := .slice Al l.length cl) (l := l) KV W2 (HKO.out _ _ hkv (grown_of HB2.out)) hk1 hk2 HB2.out.size (HL.out.below (HB2.out.mono hBB)) (Nat.le_trans hBB HB2.out.size) HRP.out hn (by omega) (by have := HS2.out; omega) (by have := HN.out; omega) Bga.out Bgb.out)
  have hB2 := HS2.out
  have hN := HN.out
  refine range_it (F := Fence.wide) (n := 11) rfl (by omega) (gf := 63) (lb := #[.pointer (some ⟨ga, 0, none⟩), .pointer (some ⟨gb, 0, none⟩)]) rfl trivial (enters_of Tryz.func63 (by kernel_rfl) rfl) (encs := encwy) (E := wysS P (beg P) l) (T := 39) (Kp := fun _ A D => KpR B (w.heap.size + 4) A D ∧ (KV A → KV D)) (w0 := W2) ?hseq (Below.refl _ _) (fun _ => rfl)
    (fun _ => fun h k => ⟨h.1.trans k.1, fun x => k.2 (h.2 x)⟩) (fun _ A l o o' hl ho hc => ⟨KpR.put (by omega) ho hc o', fun x => HK1.out 0 A _ (some l) x (grownBy_putObj' A l o') (fun r e => by cases e; exact ⟨by omega, o, ho, .inl hc⟩)⟩) (fun _ A D hA hg => ⟨KpR.grown (by omega) hg, fun x => HKO.out _ _ x hg⟩)
    (fun k W => (BoxC W gf 59 #[.func (.func Fm) #[] caps] ∧ BoxC W gk 4 #[.bool false] ∧ BoxC W gm 3 #[.int .i64 (k : Nat)]) ∧ Jm k W ∧ (Below B w W ∧ KV W) ∧ ∀ j, j < k → bm j = true)
    (fun W => BoxC W gk 4 #[.bool false] ∧ Below B w W ∧ ∃ k, k < (wysS P (beg P) l).length ∧ bm k = false)
    (fun k a' W => ((BoxC W gf 59 #[.func (.func Fm) #[] caps] ∧ BoxC W gk 4 #[.bool false] ∧ BoxC W gm 3 #[.int .i64 (k : Nat)]) ∧ Jm k W ∧ (Below B w W ∧ KV W) ∧ ∀ j, j < k → bm j = true) ∧ ∃ (b8 b9 : Nat) (x : (Int × Bool) × (Int × Bool)), (wysS P (beg P) l)[k]? = some x ∧ BoxC W b8 53 #[.int .i64 x.1.1, .bool x.1.2] ∧ BoxC W b9 58 #[.int .i64 x.2.1, .bool x.2.2] ∧ a' = { tmps := #[.agg #[pi, pt], .slice Al l.length cl, .func (.func Fm) #[] caps, .pointer (some ⟨gp, 0, none⟩), undef, .pointer (some ⟨gf, 0, none⟩), .pointer (some ⟨gk, 0, none⟩), .pointer (some ⟨gm, 0, none⟩), .pointer (some ⟨b8, 0, none⟩), .pointer (some ⟨b9, 0, none⟩), .agg #[pi, pt], .slice Al l.length cl, .func (.func 63) #[] #[.pointer (some ⟨ga, 0, none⟩), .pointer (some ⟨gb, 0, none⟩)], .agg #[.int .i64 x.1.1, .bool x.1.2], .agg #[.int .i64 x.2.1, .bool x.2.2], undef, undef, undef, undef, undef, undef, undef, undef, undef, undef, undef], defers := [] })
    ?hI ?h0 ?hA ?hIx ?hassign ?hbody ?hdone ?hstop
  case hseq => exact HIT.out
  case hI =>
    rintro k A D row ⟨⟨h1, h2, h3⟩, h4, ⟨h5, h7⟩, h6⟩ hg hr
    have hne : ∀ b, b < W2.heap.size → some b ≠ row := fun b hb e => by have := (hr b e.symm).1; omega
    have hrr : ∀ r, row = some r → w.heap.size ≤ r ∧ ∃ o : Obj, A.heap[r]? = some o ∧ (o.isCells = false ∨ ∃ cs ro T, o = .cells cs T ro ∧ T ≠ 53) := fun r e => by
      obtain ⟨q1, o, q2, q3⟩ := hr r e
      exact ⟨by omega, o, q2, q3.imp id (fun ⟨cs, ro, h⟩ => ⟨cs, ro, _, h, by decide⟩)⟩
    refine ⟨⟨Boxed.kept h1 hg (hne _ (by omega)), Boxed.kept h2 hg (hne _ (by omega)), Boxed.kept h3 hg (hne _ (by omega))⟩, HAB.out k A D row h4 hg hrr, ⟨h5.grown hg (Nat.le_trans hBB h5.size) (fun r e => by have := (hr r e).1; omega), HK1.out 0 A D row h7 hg hrr⟩, h6⟩
  case h0 => exact ⟨⟨Bgf.out, Bgk.out, Bgm.out⟩, HAB.out 0 w W2 none hJ0 (grown_of HB2.out) (fun r e => by cases e), ⟨HB2.out.mono hBB, HKO.out _ _ hkv (grown_of HB2.out)⟩, fun j h => absurd h (by omega)⟩
  case hA =>
    rintro k a' A lq o o' ⟨⟨⟨h1, h2, h3⟩, h4, ⟨h5, h7⟩, h6⟩, b8, b9, x, hx, h8, h9, rfl⟩ hl ho hc
    have hg := grownBy_putObj' A lq o'
    have hne : ∀ {b : Nat} {T : TypeId} {cs : Array Value}, BoxC A b T cs → some b ≠ some lq := fun hb e => by
      injection e with e; subst e; rw [show A.heap[_]? = _ from hb] at ho; injection ho with ho; subst ho; cases hc
    have kp : ∀ {b : Nat} {T : TypeId} {cs : Array Value}, BoxC A b T cs → BoxC (A.putObj lq o') b T cs := fun hb => (hg.block _ hb.lt (hne hb)).trans hb
    exact ⟨⟨⟨kp h1, kp h2, kp h3⟩, HAB.out k A _ (some lq) h4 hg (fun r e => by cases e; exact ⟨by omega, o, ho, .inl hc⟩), ⟨h5.grown hg (Nat.le_trans hBB h5.size) (fun r e => by cases e; omega), HK1.out 0 A _ (some lq) h7 hg (fun r e => by cases e; exact ⟨by omega, o, ho, .inl hc⟩)⟩, h6⟩, b8, b9, x, hx, kp h8, kp h9, rfl⟩
  case hIx =>
    rintro A lq o o' ⟨h1, h2, h3⟩ hl ho hc
    have hg := grownBy_putObj' A lq o'
    refine ⟨(hg.block _ h1.lt (fun e => ?_)).trans h1, h2.grown hg (Nat.le_trans hBB h2.size) (fun r e => by cases e; omega), h3⟩
    injection e with e; subst e; rw [show A.heap[_]? = _ from h1] at ho; injection ho with ho; subst ho; cases hc
  case hassign =>
    clear hN hB2
    rintro lp k hk W K ⟨⟨h1, h2, h3⟩, h4, ⟨h5, h7⟩, h6⟩ hW hK
    obtain ⟨x, hx⟩ : ∃ x, x = (wysS P (beg P) l)[k] := ⟨_, rfl⟩
    rw [← hx]
    have hx2 : (wysS P (beg P) l)[k]? = some x := by rw [hx]; exact List.getElem?_eq_getElem hk
    obtain ⟨Y, hY⟩ : ∃ Y, Y = (W.alloc (.cells #[.int .i64 x.1.1, .bool x.1.2] 53)).alloc (.cells #[.int .i64 x.2.1, .bool x.2.2] 58) := ⟨_, rfl⟩
    have HG := Lib.hid (show W.grownBy Y none from by rw [hY]; exact (World.grownBy_alloc W (.cells #[.int .i64 x.1.1, .bool x.1.2] 53) none).trans (World.grownBy_alloc _ (.cells #[.int .i64 x.2.1, .bool x.2.2] 58) none))
    have H8 := Lib.hid (show BoxC Y W.heap.size 53 #[.int .i64 x.1.1, .bool x.1.2] from by rw [hY]; exact (BoxC.new W 53 #[.int .i64 x.1.1, .bool x.1.2]).alloc _)
    have H9 := Lib.hid (show BoxC Y (W.heap.size + 1) 58 #[.int .i64 x.2.1, .bool x.2.2] from by rw [hY]; have := BoxC.new (W.alloc (.cells #[.int .i64 x.1.1, .bool x.1.2] 53)) 58 #[.int .i64 x.2.1, .bool x.2.2]; rw [World.size_alloc] at this; exact this)
    have kp : ∀ {b : Nat} {T : TypeId} {cs : Array Value}, BoxC W b T cs → BoxC Y b T cs := fun hb => (HG.out.block _ hb.lt (by simp)).trans hb
    have HH := Lib.hid (show ((BoxC Y gf 59 #[.func (.func Fm) #[] caps] ∧ BoxC Y gk 4 #[.bool false] ∧ BoxC Y gm 3 #[.int .i64 (k : Nat)]) ∧ Jm k Y ∧ (Below B w Y ∧ KV Y) ∧ ∀ j, j < k → bm j = true) from ⟨⟨kp h1, kp h2, kp h3⟩, HAB.out k W Y none h4 HG.out (fun r e => by cases e), ⟨h5.grown HG.out (Nat.le_trans hBB h5.size) (fun r e => by cases e), HKO.out _ _ h7 HG.out⟩, h6⟩)
    have HK := Lib.hid hK
    have HX2 := Lib.hid hx2
    have HY := Lib.hid hY
    clear hK kp h1 h2 h3 h4 h5 h6 h7 hx hx2 hY
    dsimp only [encwy]
    gi_wp2
    rw [← HY.out]
    exact HK.out _ _ HG.out ⟨HH.out, _, _, x, HX2.out, H8.out, H9.out, rfl⟩
  case hbody =>
    clear hN hB2
    rintro lp k hk a' W hlp ⟨⟨⟨h1, h2, h3⟩, h4, ⟨h5, h7⟩, h6⟩, b8, b9, x, hx, h8, h9, rfl⟩
    have hxk : (wysS P (beg P) l)[k] = x := (List.getElem?_eq_some_iff.1 hx).2
    have hmy := HMAY.out k hk W h4 h5 h7
    rw [hxk] at hmy
    have HMY := Lib.hid (CallsIn.inRound lp (callsIn_wide.2 hmy) (n := 8))
    have H1 := Lib.hid h1
    have H2 := Lib.hid h2
    have H3 := Lib.hid h3
    have H5 := Lib.hid h5
    have H6 := Lib.hid h6
    have HKL := Lib.hid hk
    have HLE := Lib.hid (Nat.le_trans HKL.out (wys_lt P l (beg P)))
    have hk5 : k ≤ 50000 := by have := HLE.out; omega
    have x1 := h1.cell 0 _ rfl
    have y0 := h8.cell 0 _ rfl
    have y1 := h8.cell 1 _ rfl
    have z0 := h9.cell 0 _ rfl
    have z1 := h9.cell 1 _ rfl
    clear h1 h2 h3 h4 h5 h6 h7 h8 h9 hx hxk hmy hk
    gi_wp2_with fail
    refine ⟨trivial, HMY.out.mono ?_⟩
    rintro e X9 ⟨rfl, hT, hK9, hkv9⟩
    have HKV9 := Lib.hid hkv9
    clear hkv9
    have HT9 := Lib.hid hT
    have HK9 := Lib.hid hK9
    have HLG := Lib.hid (show w.heap.size ≤ gk ∧ w.heap.size ≤ gm ∧ B ≤ gk ∧ B ≤ gm ∧ gk < w.heap.size + 4 ∧ gm < w.heap.size + 4 ∧ gk ≠ gm ∧ gf ≠ gm ∧ w.heap.size ≤ gf from by have := HN.out; omega)
    have H19 := Lib.hid (H1.out.kr HK9.out.1 HLG.out.2.2.2.2.2.2.2.2 (by decide))
    have H29 := Lib.hid (H2.out.kr HK9.out.1 HLG.out.1 (by decide))
    have H39 := Lib.hid (H3.out.kr HK9.out.1 HLG.out.2.1 (by decide))
    have H59 := Lib.hid (H5.out.trans HK9.out.1.1)
    have HKF := Lib.hid (keeps_up HK9.out.2 (show w.heap.size ≤ W2.heap.size from by have := HS2.out; omega))
    have HKR := Lib.hid (HK9.out.1.up (show w.heap.size ≤ w.heap.size + 4 from by omega))
    clear hT hK9 x1 y0 y1 z0 z1 HMY H1 H2 H3 H5
    cases hbk : bm k
    · have u0 := H29.out.cell 0 _ rfl
      have f0 := H29.out.frozen 0
      have HE1 := Lib.hid (show KeepsFrom W2.heap.size W (X9.setCell ⟨gk, 0, none⟩ (.bool false)) from HKF.out.trans ((KeepsOthers.setCell _ _ _).from _))
      have HE2 := Lib.hid (show BoxC (X9.setCell ⟨gk, 0, none⟩ (.bool false)) gk 4 #[.bool false] from H29.out.set 0 (.bool false))
      have HE3 := Lib.hid (show Below B w (X9.setCell ⟨gk, 0, none⟩ (.bool false)) from H59.out.setCell (p := ⟨gk, 0, none⟩) HLG.out.2.2.1 _)
      have HBK := Lib.hid hbk
      clear hbk
      gi_wp2
      exact ⟨HE1.out, HE2.out, HE3.out, k, HKL.out, HBK.out⟩
    · have u0 := H39.out.cell 0 _ rfl
      have f0 := H39.out.frozen 0
      obtain ⟨Y9, hY9⟩ : ∃ Y, Y = X9.setCell ⟨gm, 0, none⟩ (.int .i64 ((k : Int) + 1)) := ⟨_, rfl⟩
      have HE1 := Lib.hid (show KeepsFrom W2.heap.size W Y9 from by rw [hY9]; exact HKF.out.trans ((KeepsOthers.setCell _ _ _).from _))
      have HE6 := Lib.hid (show KV Y9 from by rw [hY9]; exact HK1.out 0 X9 _ (some gm) HKV9.out (grownBy_setCell' X9 gm _) (fun r e => by cases e; exact ⟨HLG.out.2.1, _, H39.out, .inr ⟨_, _, _, rfl, by decide⟩⟩))
      have HE2 := Lib.hid (show KpR B (w.heap.size + 4) W Y9 from by rw [hY9]; exact HKR.out.trans (KpR.set HLG.out.2.2.2.1 HLG.out.2.2.2.2.2.1 _ _))
      have HE3 := Lib.hid (show (BoxC Y9 gf 59 #[.func (.func Fm) #[] caps] ∧ BoxC Y9 gk 4 #[.bool false] ∧ BoxC Y9 gm 3 #[.int .i64 ((k + 1 : Nat) : Int)]) from by
        rw [hY9]
        exact ⟨H19.out.other HLG.out.2.2.2.2.2.2.2.1 0 _, H29.out.other HLG.out.2.2.2.2.2.2.1 0 _, H39.out.set 0 (.int .i64 ((k : Int) + 1))⟩)
      have HE4 := Lib.hid (show Jm (k + 1) Y9 ∧ Below B w Y9 from by
        rw [hY9]
        exact ⟨HAB.out.set (HT9.out hbk) H39.out HLG.out.2.1 (by decide) _, H59.out.setCell (p := ⟨gm, 0, none⟩) HLG.out.2.2.2.1 _⟩)
      have HE5 := Lib.hid (show ∀ j, j < k + 1 → bm j = true from fun j hj => by
        rcases Nat.lt_succ_iff_lt_or_eq.1 hj with h | rfl
        · exact H6.out j h
        · exact hbk)
      have HYW := Lib.hid hY9
      clear hbk hY9
      gi_wp2
      rw [← HYW.out]
      exact ⟨HE1.out, ⟨HE2.out, fun _ => HE6.out⟩, HE3.out, HE4.out.1, ⟨HE4.out.2, HE6.out⟩, HE5.out⟩
  case hdone =>
    clear hN hB2
    rintro D W hD ⟨⟨h1, h2, h3⟩, h4, ⟨h5, -⟩, h6⟩ hK
    have HLG := Lib.hid (show w.heap.size ≤ gk ∧ B ≤ gk ∧ gk ≠ gm ∧ w.heap.size ≤ D ∧ B ≤ D from by have := HN.out; have := HS2.out; omega)
    obtain ⟨m, hm⟩ : ∃ m, m = (wysS P (beg P) l).length := ⟨_, rfl⟩
    have HM := Lib.hid hm
    rw [← hm] at h3 h4 h6
    have H2 := Lib.hid h2
    have H4 := Lib.hid h4
    have H5 := Lib.hid h5
    have H6 := Lib.hid h6
    have m0 := h3.cell 0 _ rfl
    have u0 := h2.cell 0 _ rfl
    have f0 := h2.frozen 0
    have hm5 : m ≤ 50000 := by have := HLEN.out; omega
    obtain ⟨bb, hbb⟩ : ∃ b, b = ((m : Int) == (l.length : Int)) := ⟨_, rfl⟩
    have HBB := Lib.hid (show bb = (runS P true (beg P) l).2.2 from by
      rw [← HIS.out, hbb, ← hm]
      by_cases e : m = l.length
      · simp [e]
      · rw [decide_eq_false e]; exact beq_eq_false_iff_ne.2 (by omega))
    have HBQ := Lib.hid hbb
    clear h1 h2 h3 h4 h5 h6 hm hbb
    gi_wp2_with fail
    rw [← HBQ.out]
    have hK' := (KeepsOthers.setCell W ⟨gk, 0, none⟩ (.bool bb)).same D _ hK rfl
    refine ⟨by simp, .inl ⟨_, _, rfl, run_takeDeferred hK', ?_⟩⟩
    have d2 := cell_kept ((H2.out.set 0 (.bool bb)).cell 0 _ rfl) (grownBy_putObj' _ D (.deferred none)) (fun r e => by cases e; exact ⟨_, hK', rfl⟩)
    refine ⟨.bool bb, ?_, bb, rfl, ?_, fun _ => ?_, ?_⟩
    · simp [results, Tryz.f25, go_sem, d2]
    · rw [HBB.out]
      exact ⟨fun h => ⟨h, by rw [← HM.out]; exact H6.out⟩, fun h => h.1⟩
    · rw [← HM.out]
      exact HAB.out m _ _ (some D) (HAB.out.set H4.out H2.out HLG.out.1 (by decide) (.bool bb)) (grownBy_putObj' _ D (.deferred none)) (fun r e => by cases e; exact ⟨HLG.out.2.2.2.1, _, hK', .inl rfl⟩)
    · exact (H5.out.setCell (p := ⟨gk, 0, none⟩) HLG.out.2.1 _).grown (grownBy_putObj' _ D (.deferred none)) (by have := (Array.getElem?_eq_some_iff.1 hK').1; have := HLG.out; omega) (fun k e => by cases e; exact HLG.out.2.2.2.2)
  case hstop =>
    clear hN hB2
    rintro D W hD ⟨h2, h5, k, hk, hbk⟩ hK
    have HLG := Lib.hid (show w.heap.size ≤ gk ∧ B ≤ gk ∧ gk ≠ gm ∧ w.heap.size ≤ D ∧ B ≤ D from by have := HN.out; have := HS2.out; omega)
    have H2 := Lib.hid h2
    have H5 := Lib.hid h5
    clear h2 h5
    gi_wp2_with fail
    refine ⟨by simp, .inl ⟨_, _, rfl, run_takeDeferred hK, ?_⟩⟩
    have d2 := cell_kept (H2.out.cell 0 _ rfl) (grownBy_putObj' _ D (.deferred none)) (fun r e => by cases e; exact ⟨_, hK, rfl⟩)
    refine ⟨.bool false, ?_, false, rfl, ⟨fun h => absurd h (by decide), fun h => ?_⟩, fun h => absurd h (by decide), ?_⟩
    · simp [results, Tryz.f25, go_sem, d2]
    · rw [h.2 k hk] at hbk; cases hbk
    · exact H5.out.grown (grownBy_putObj' _ D (.deferred none)) (by have := (Array.getElem?_eq_some_iff.1 hK).1; have := HLG.out; omega) (fun k e => by cases e; exact HLG.out.2.2.2.2)
/-- .. where the code's rows lie below B. -/
theorem goes_any {B Fm : Nat} {v vl : Value} {P : Pg} {l : List (Int × Bool)} {caps : Array Value} {bm : Nat → Bool} {Jm : Nat → World → Prop} (w : World) (hv : PgZ B w v P) (hl : KiR B w vl l) (hBB : B ≤ w.heap.size) (hp : rightP P = true) (hn : l.length ≤ 50000)
    (hF : ∀ args W, (callFunc Fm args).run Tryz.prog W = .ok (.enter Fm args) W) (hJ0 : Jm 0 w) (hab : MayAb w.heap.size Jm)
    (hmay : ∀ k (hk : k < (wysS P (beg P) l).length) W, Jm k W → Below B w W → Calls Tryz.prog Fm (#[.agg #[.int .i64 (wysS P (beg P) l)[k].1.1, .bool (wysS P (beg P) l)[k].1.2], .agg #[.int .i64 (wysS P (beg P) l)[k].2.1, .bool (wysS P (beg P) l)[k].2.2]] ++ caps) W fun e W' => e = .returned (.bool (bm k)) ∧ (bm k = true → Jm (k + 1) W') ∧ KpM B w.heap.size W W') :
    Calls Tryz.prog 25 #[v, vl, .func (.func Fm) #[] caps] w (GoRet P l bm Jm B w) := by
  obtain ⟨pi, pt, rfl, hpm⟩ := hv
  refine goesv_any (KV := fun W => PgZ B W (.agg #[pi, pt]) P ∧ B ≤ W.heap.size) w ⟨⟨pi, pt, rfl, hpm⟩, hBB⟩ (fun k A D row h hg hr => ⟨h.1.below ((Below.refl B A).grown hg h.2 (fun r e => by have := (hr r e).1; omega)), Nat.le_trans h.2 hg.size⟩) (fun W h => h.1.more h.2) hl hBB hp hn hF hJ0 hab fun k hk W h1 h2 h3 => ?_
  refine (hmay k hk W h1 h2).mono ?_
  rintro e W' ⟨rfl, q1, q2⟩
  exact ⟨rfl, q1, q2, h3.1.below q2.1.1, Nat.le_trans h3.2 q2.2.size⟩
end Go.Proofs.YtlpjgaeelnlipaaGreat
namespace Go.Proofs.YtlpjgaeelnlipaaGreat
open Go.RowKit
open CodM (St Pg rightP)
open ScM
open SlM

/-- slots.Many. -/
theorem smany_any {B : Nat} {vi vt : Value} {ths : List (List St)} (w : World) (hvi : ∃ A m c, vi = .slice A m c) (hv : Sss B w vt ths) (hBB : B ≤ w.heap.size) (hl : ths.length ≤ 1000000) (hll : ∀ ss ∈ ths, ss.length ≤ 1000000) :
    Calls Tryz.prog 55 #[.agg #[vi, vt]] w fun e w' => e = .returned (.int .i64 (many anyS ths : Nat)) ∧ Below w.heap.size w w' := by
  obtain ⟨Ai, mi, ci, rfl⟩ := hvi
  have hB := below_al (Below.refl w.heap.size w) (.cells #[.slice Ai mi ci, vt] 25)
  have HC := Lib.hid (callsIn_wide.1 (counts_in Fence.wide 10 trivial trivial trivial trivial rfl (by omega) (ths := ths) _ (hv.below (hB.mono hBB)) (Nat.le_trans hBB hB.size) hl hll))
  obtain ⟨A, c, rfl, -⟩ := hv
  go_enter Tryz.func55, Tryz.ntmps55
  go_wp2_with fail
  refine HC.out.mono ?_
  rintro e w1 ⟨rfl, hb⟩
  go_wp2
  go_ret
  exact ⟨rfl, chain hB hb⟩
theorem many_small {P : Pg} (h : rightP P = true) : many anyS P.ths ≤ 240 := by
  obtain ⟨-, -, h2, h3⟩ := right_ths h
  have := many_le anyS (M := 80) (N := 3) P.ths h2 (fun ss hs => by
    obtain ⟨k, hk, rfl⟩ := List.getElem_of_mem hs
    exact h3 k hk)
  omega
set_option maxHeartbeats 4000000 in
set_option maxRecDepth 100000 in
theorem crchosen_any {B : Nat} {v vg : Value} {P : Pg} {g : List Int} (w : World) (hv : PgV B w v P) (hg : Ints B w vg g) (hBB : B ≤ w.heap.size) (hp : rightP P = true) (hgl : g.length ≤ 1000000) :
    Calls Tryz.prog 34 #[v, vg] w fun e w' => ∃ b, e = .returned (.map (some b)) ∧ w.heap.size ≤ b ∧ MapT w' b g.length (keyB g (many anyS P.ths)) ∧ Below w.heap.size w w' := by
  have hmm := @run_makeMap Tryz.prog
  obtain ⟨hs1, hs2⟩ := right_small hp
  obtain ⟨m, hm⟩ : ∃ m, m = many anyS P.ths := ⟨_, rfl⟩
  have hm2 : m ≤ 240 := by rw [hm]; exact many_small hp
  obtain ⟨vi, vt, rfl, hpm⟩ := hv
  have HV := Lib.hid hpm
  have HMN := Lib.hid (fun W (hW : Below w.heap.size w W) => smany_any (vi := vi) (vt := vt) W (by obtain ⟨A, c, e, -⟩ := HV.out.1; exact ⟨A, _, c, e⟩) (HV.out.2.below (hW.mono hBB)) (Nat.le_trans hBB hW.size) hs1 hs2)
  have HKS := Lib.hid (fun k hk => keyB_snoc g m k hk)
  rw [← hm] at HMN ⊢
  obtain ⟨⟨P0, d0, rfl, -⟩, ⟨P1, d1, rfl, -⟩⟩ := hpm
  obtain ⟨A, c, rfl, hc1, hc2, hc3⟩ := hg
  unfold maxLen at hc2
  obtain ⟨W1, hW1⟩ : ∃ W, W = w.alloc (.cells #[.slice P0 P.init.length d0, .slice P1 P.ths.length d1] 25) := ⟨_, rfl⟩
  obtain ⟨gp, hgp⟩ : ∃ g, g = w.heap.size := ⟨_, rfl⟩
  have HX := Lib.hid (show BoxC W1 gp 25 #[.slice P0 P.init.length d0, .slice P1 P.ths.length d1] from by rw [hW1, hgp]; exact BoxC.new w _ _)
  have HM0 := Lib.hid (MapT.made W1)
  have HB1 := Lib.hid (show Below w.heap.size w W1 from by rw [hW1]; exact below_al (Below.refl _ _) _)
  have HB2 := Lib.hid (chain HB1.out (below_al (Below.refl _ W1) (.map #[] 0)))
  have x0 := (HX.out.alloc (.map #[] 0)).cell 0 _ rfl
  have x1 := (HX.out.alloc (.map #[] 0)).cell 1 _ rfl
  clear hs1 hs2 hp hm
  go_enter Tryz.func34, Tryz.ntmps34
  go_upto_region 1 with fail
  rw [← hW1]
  (try rw [← hgp])
  clear hW1 hgp
  go_upto_region 2 with (go_at_call 55; refine (HMN.out _ HB2.out).mono ?_; rintro e w1 ⟨rfl, hb⟩; have HB3 := Lib.hid (chain HB2.out hb); have HM1 := Lib.hid (HM0.out.below hb HM0.out.lt); clear hb x0 x1)
  obtain ⟨gb, hgb⟩ : ∃ g, g = W1.heap.size := ⟨_, rfl⟩
  (try rw [← hgb])
  rw [← hgb] at HM1
  have HG := Lib.hid (show w.heap.size ≤ gb from by rw [hgb]; exact HB1.out.size)
  clear hgb
  go_wp2_with fail
  go_loopw [14] (fun i wr => ∃ k : Nat, k ≤ g.length ∧ i = .int .i64 k ∧ MapT wr gb k (keyB (g.take k) m) ∧ Below w.heap.size w wr) (fun i _ => g.length - (intOf i).toNat)
  case atStart =>
    refine ⟨0, Nat.zero_le _, rfl, ?_, HB3.out⟩
    have : keyB (g.take 0) m = fun _ => false := by funext j; simp [keyB, has]
    rw [this]; exact HM1.out
  case round =>
    clear HM0 HM1
    obtain ⟨k, hk, rfl, hM, hB⟩ := hrel
    by_cases hlt : k < g.length
    · obtain ⟨b1, f1, rfl, hb1, hcl⟩ := hc3 (by omega)
      have hcc : wr.cell? ⟨b1, f1 + k, none⟩ = some (.int .i64 g[k]) := (hB.cell (p := ⟨b1, f1 + k, none⟩) (show b1 < _ by omega)).trans (hcl k hlt)
      have hks := Lib.hid (HKS.out k hlt)
      generalize g[k] = x at *
      by_cases h0 : 0 ≤ x
      · by_cases h1 : x < (m : Int)
        · have hwx : (Lit.int .i64 x).wf = true := WalkArith.wf_i64 (by omega)
          go_wp2_with (at_mapUpdate; refine at_putT _ rfl _ _ _ rfl gb k _ rfl hM (by unfold maxLen; omega) x rfl rfl hwx ?_; intro w1 hM1 hg1)
          go_roundw
          case rel =>
            refine ⟨k + 1, by omega, by go_num, ?_, hB.grown hg1 hB.size (fun r e => by cases e; exact HG.out)⟩
            rw [hks.out]; simpa [h0, h1] using hM1
          case measure => simp [intOf]; omega
        · go_wp2
          go_roundw
          case rel =>
            refine ⟨k + 1, by omega, by go_num, ?_, hB⟩
            rw [hks.out]; simpa [h0, h1] using hM.mono (Nat.le_succ k)
          case measure => simp [intOf]; omega
      · go_wp2
        go_roundw
        case rel =>
          refine ⟨k + 1, by omega, by go_num, ?_, hB⟩
          rw [hks.out]; simpa [h0] using hM.mono (Nat.le_succ k)
        case measure => simp [intOf]; omega
    · obtain rfl : g.length = k := by omega
      rw [List.take_length] at hM
      go_wp2
      go_ret
      exact ⟨gb, rfl, HG.out, hM, hB⟩
/-- Where the fences themselves stand: the first k of them. -/
def ldaK (ks : List Int) (k : Nat) (j : Int) : Bool := (List.range k).any fun i => decide (j = ks.getD i 0 + (i : Int))
theorem ldaK_next (ks : List Int) {k : Nat} (hk : k < ks.length) : ldaK ks (k + 1) = fun j => ldaK ks k j || decide (j = ks[k] + (k : Int)) := by
  funext j
  unfold ldaK
  rw [List.range_succ, List.any_append]
  simp [List.getElem?_eq_getElem hk]
set_option maxHeartbeats 4000000 in
set_option maxRecDepth 100000 in
theorem crlaid_any {b n : Nat} {f : Int → Bool} (w : World) (hm : MapT w b n f) (hn : n ≤ 1000000) (hf : ∀ x, f x = true → 0 ≤ x ∧ x ≤ 1000000) :
    Calls Tryz.prog 33 #[.map (some b)] w fun e w' => ∃ g ks, e = .returned (.map (some g)) ∧ w.heap.size ≤ g ∧ RisF f ks ∧ ks.length ≤ n ∧ MapT w' g ks.length (ldaK ks ks.length) ∧ Below w.heap.size w w' := by
  have hmm := @run_makeMap Tryz.prog
  have HM0 := Lib.hid (MapT.made w)
  have HB0 := Lib.hid (below_al (Below.refl w.heap.size w) (.map #[] 0))
  have HMb := Lib.hid (hm.kept (World.grownBy_alloc w (.map #[] 0) none) (by simp))
  go_enter Tryz.func33, Tryz.ntmps33
  go_upto_region 2 with fail
  obtain ⟨W1, hW1⟩ : ∃ W, W = w.alloc (.map #[] 0) := ⟨_, rfl⟩
  obtain ⟨gb, hgb⟩ : ∃ g, g = w.heap.size := ⟨_, rfl⟩
  rw [← hW1] at HM0 HB0 HMb
  rw [← hgb] at HM0
  have HG := Lib.hid (show w.heap.size ≤ gb ∧ gb < W1.heap.size from ⟨by omega, HM0.out.lt⟩)
  have HS := Lib.hid (sortedI_call W1 HMb.out hn)
  rw [← hW1]
  (try rw [← hgb])
  clear hW1 hgb hm
  go_wp2_with (first
    | (go_at_call 28; refine (keysI_call _ _).mono ?_; rintro e w' ⟨rfl, rfl⟩)
    | (go_at_call 27; refine HS.out.mono ?_; rintro e w3 ⟨v, ks, rfl, hr, hl, ho, hb3⟩; obtain ⟨Ak, ck, rfl⟩ := own_slice ho; obtain ⟨kn, hkn⟩ : ∃ n, n = ks.length := ⟨_, rfl⟩; have HKN := Lib.hid hkn; have HR := Lib.hid hr; have HO := Lib.hid ho; have HB3 := Lib.hid (chain (below_al (Below.refl _ W1) _) (hb3.mono (by simp))); rw [← hkn] at hl ⊢; clear hr ho hb3 hkn))
  obtain ⟨Ak2, ck2, hAk, hr1, hr2, -, hr3⟩ := Rw.own HO.out (Nat.le_refl _)
  injection hAk with e1 e2 e3
  subst e1 e3
  have HR3 := Lib.hid (nu_at (c := 0) hr3)
  rw [← HKN.out] at hr1
  unfold maxLen at hr2
  have HM3 := Lib.hid (HM0.out.below HB3.out HM0.out.lt)
  have HBZ := Lib.hid (chain HB0.out HB3.out)
  clear hr3 e2 HM0 HB0 HS HMb
  go_loopw [11] (fun i wr => ∃ k : Nat, k ≤ kn ∧ i = .int .i64 k ∧ MapT wr gb k (ldaK ks k) ∧ Below w.heap.size w wr ∧ ∀ q, q < w3.heap.size → q ≠ gb → wr.heap[q]? = w3.heap[q]?) (fun i _ => kn - (intOf i).toNat)
  case atStart =>
    refine ⟨0, Nat.zero_le _, rfl, ?_, HBZ.out, fun _ _ _ => rfl⟩
    have : ldaK ks 0 = fun _ => false := by funext j; simp [ldaK]
    rw [this]; exact HM3.out
  case round =>
    obtain ⟨k, hk, rfl, hM, hB, hst⟩ := hrel
    by_cases hlt : k < kn
    · have hlt2 : k < ks.length := by have := HKN.out; omega
      obtain ⟨b1, f1, rfl, hb1, hcl⟩ := HR3.out (by omega)
      have hne : b1 ≠ gb := by
        rcases HO.out.2 with ⟨h, -⟩ | ⟨g2, c2, cu, h, hb, -⟩
        · cases h
        · injection h with h; injection h with h; injection h with h; have := HG.out; omega
      have hcc : wr.cell? ⟨b1, f1 + k, none⟩ = some (.int .i64 ks[k]) := (World.cell?_of_block (a := ⟨b1, f1 + k, none⟩) (hst b1 hb1 hne)).trans (hcl k hlt2)
      have hks := Lib.hid (ldaK_next ks hlt2)
      have hx := hf ks[k] ((HR.out.2 _).1 (List.getElem_mem hlt2))
      generalize ks[k] = x at *
      have hwx : (Lit.int .i64 (x + (k : Int))).wf = true := WalkArith.wf_i64 (by omega)
      have hk9 : k ≤ 1000000 := by omega
      go_wp2_with (at_mapUpdate; refine at_putT _ rfl _ _ _ rfl gb k _ rfl hM (by unfold maxLen; omega) (x + (k : Int)) rfl rfl hwx ?_; intro w5 hM5 hg5)
      go_roundw
      case rel =>
        refine ⟨k + 1, by omega, by go_num, ?_, hB.grown hg5 hB.size (fun r e => by cases e; exact HG.out.1), fun q h1 h2 => (hg5.block q ?_ (fun e => h2 (Option.some.inj e))).trans (hst q h1 h2)⟩
        · rw [hks.out]; exact hM5
        · have h3 := hst q h1 h2
          rw [Array.getElem?_eq_getElem h1] at h3
          exact (Array.getElem?_eq_some_iff.1 h3).1
      case measure => simp [intOf]; omega
    · obtain rfl : kn = k := by omega
      go_wp2
      go_ret
      exact ⟨gb, ks, rfl, HG.out.1, HR.out, by have := HKN.out; omega, by rw [← HKN.out]; exact hM, hB⟩
end Go.Proofs.YtlpjgaeelnlipaaGreat
namespace Go.Proofs.YtlpjgaeelnlipaaGreat
open Go.RowKit
open CodM (St Pg rightP)
open BfM (Wr plc)
open ScM
open SlM
open CrM

/-- What a call makes keeps all that was. -/
theorem KpM.row {B N b : Nat} {A D : World} (hA : B ≤ A.heap.size) (hb : B ≤ b) (hn : b < N) (hg : A.grownBy D (some b)) : KpM B N A D :=
  ⟨⟨(Below.refl B A).grown hg hA (fun r e => by cases e; exact hb), fun k cs T ro h1 h2 _ => (hg.block k (Array.getElem?_eq_some_iff.1 h2).1 (fun e => by have := Option.some.inj e; omega)).trans h2⟩, KeepsFrom.of_grownBy hg (fun j e => by cases e; exact hn)⟩
theorem KpM.app {B N base m s : Nat} {A D : World} {v : Value} {xs : List Value} (hA : B ≤ A.heap.size) (ho : A.ownsRow base 53 s v m xs) (hb : B ≤ base) (hg : A.grownBy D v.ownBlock) : KpM B N A D := by
  have hne : ∀ k (o : Obj), A.heap[k]? = some o → (∀ cs, o ≠ .cells cs 53 (0, 0)) → some k ≠ v.ownBlock := fun k o hk hc e => by
    rcases ho.2 with ⟨rfl, _⟩ | ⟨g, c, cur, rfl, h1, h2, _⟩
    · cases e
    · have e2 : k = g := Option.some.inj e
      subst e2
      rw [h2] at hk
      injection hk with hk
      exact hc cur hk.symm
  have hr : ∀ r, v.ownBlock = some r → B ≤ r := fun r e => by
    rcases ho.2 with ⟨rfl, _⟩ | ⟨g, c, cur, rfl, h1, h2, _⟩
    · cases e
    · have e2 : g = r := Option.some.inj e
      omega
  refine ⟨⟨(Below.refl B A).grown hg hA hr, fun k cs T ro h1 h2 h3 => (hg.block k (Array.getElem?_eq_some_iff.1 h2).1 (hne k _ h2 (fun cs2 e => by injection e with _ e; exact h3 e))).trans h2⟩, ⟨hg.size, fun i o h1 h2 h3 => (hg.block i (Array.getElem?_eq_some_iff.1 h2).1 (hne i o h2 (fun cs2 e => by subst e; cases h3))).trans h2⟩⟩
theorem KpM.set {B N b i : Nat} (hb : B ≤ b) (hn : b < N) (A : World) (v : Value) : KpM B N A (A.setCell ⟨b, i, none⟩ v) :=
  ⟨⟨(Below.refl B A).setCell (p := ⟨b, i, none⟩) hb v, fun k cs T ro h1 h2 _ => (heap_setCell_other A ⟨b, i, none⟩ k v (by show k ≠ b; omega)).trans h2⟩, (KeepsOthers.setCell _ _ _).from _⟩
/-- The slots that were crossed. -/
def crF (E : List ((Int × Bool) × (Int × Bool))) (x : Int) : Bool := E.any fun y => y.2.2 && decide (x = y.2.1)
theorem crF_next (E : List ((Int × Bool) × (Int × Bool))) {k : Nat} (hk : k < E.length) : crF (E.take (k + 1)) = fun x => crF (E.take k) x || (E[k].2.2 && decide (x = E[k].2.1)) := by
  funext x
  unfold crF
  rw [List.take_succ_eq_append_getElem hk, List.any_append]
  simp
/-- A slot is a small number. -/
theorem way_small {P : Pg} (hp : rightP P = true) : ∀ (l : List (Int × Bool)) (s : Sta), ∀ x ∈ wysS P s l, -1 ≤ x.2.1 ∧ x.2.1 ≤ 240
  | [], s, x, h => by unfold wysS at h; cases h
  | k :: l, s, x, h => by
    unfold wysS at h
    cases e : rst P s k.1 k.2 true with
    | none => rw [e] at h; cases h
    | some s' =>
      rw [e] at h
      rcases List.mem_cons.1 h with rfl | h
      · dsimp only
        unfold wayS
        split
        · simp
        · dsimp only
          unfold numI
          split
          · rename_i hh
            obtain ⟨h1, h2, h3, h4⟩ := hh
            have ht : k.1.toNat < P.ths.length := by omega
            rw [SlM.getD_at ht] at h4
            have := sl_many anyS P.ths ht (k := (s.ths.getD k.1.toNat begTh).at'.toNat) (by omega)
            rw [sl_any P.ths ht (by omega)] at this
            have := many_small hp
            omega
          · omega
      · exact way_small hp l s' x h
/-- What Cross asks at each way: it notes the slots that are crossed. -/
def CrJ (E : List ((Int × Bool) × (Int × Bool))) (g b : Nat) (k : Nat) (W : World) : Prop := BoxC W g 55 #[.map (some b)] ∧ MapT W b k (crF (E.take k))
theorem CrJ.ab {E : List ((Int × Bool) × (Int × Bool))} {g b N : Nat} (hg : g < N) (hb : b < N) : MayAb N (CrJ E g b) := by
  rintro k A D row ⟨h1, h2⟩ hgr hr
  have hne : ∀ q, q < N → some q ≠ row := fun q hq e => by have := (hr q e.symm).1; omega
  exact ⟨(hgr.block g h1.lt (hne g hg)).trans h1, h2.kept hgr (hne b hb)⟩
set_option maxHeartbeats 4000000 in
set_option maxRecDepth 100000 in
theorem crmay_any {B N n g b : Nat} {f : Int → Bool} (t x : Int) (d c : Bool) (w : World) (hg : BoxC w g 55 #[.map (some b)]) (hm : MapT w b n f) (hn : n ≤ 60000) (hx : -1 ≤ x ∧ x ≤ 240) (hBw : B ≤ w.heap.size) (hBb : B ≤ b) (hbN : b < N) :
    Calls Tryz.prog 26 #[.agg #[.int .i64 t, .bool d], .agg #[.int .i64 x, .bool c], .pointer (some ⟨g, 0, none⟩)] w fun e w' => e = .returned (.bool true) ∧ BoxC w' g 55 #[.map (some b)] ∧ MapT w' b (n + 1) (fun j => f j || (c && decide (j = x))) ∧ KpM B N w w' := by
  have hwx : (Lit.int .i64 x).wf = true := WalkArith.wf_i64 (by omega)
  obtain ⟨W2, hW2⟩ : ∃ W, W = (w.alloc (.cells #[.int .i64 t, .bool d] 53)).alloc (.cells #[.int .i64 x, .bool c] 58) := ⟨_, rfl⟩
  obtain ⟨gw, hgw⟩ : ∃ g, g = w.heap.size + 1 := ⟨_, rfl⟩
  have HW := Lib.hid (show BoxC W2 gw 58 #[.int .i64 x, .bool c] from by rw [hW2, hgw]; have := BoxC.new (w.alloc (.cells #[.int .i64 t, .bool d] 53)) 58 #[.int .i64 x, .bool c]; rw [World.size_alloc] at this; exact this)
  have HG0 := Lib.hid (show w.grownBy W2 none from by rw [hW2]; exact (World.grownBy_alloc w (.cells #[.int .i64 t, .bool d] 53) none).trans (World.grownBy_alloc _ (.cells #[.int .i64 x, .bool c] 58) none))
  have HK := Lib.hid (show KpM B N w W2 from KpM.grown hBw HG0.out)
  have HBg := Lib.hid (show BoxC W2 g 55 #[.map (some b)] from (HG0.out.block g hg.lt (by simp)).trans hg)
  have HM := Lib.hid (hm.kept HG0.out (by simp))
  have y0 := HW.out.cell 0 _ rfl
  have y1 := HW.out.cell 1 _ rfl
  have z0 := HBg.out.cell 0 _ rfl
  clear hg hm
  go_enter Tryz.func26, Tryz.ntmps26
  go_upto_region 1 with fail
  rw [← hW2]
  (try rw [← hgw])
  have HGW := Lib.hid hgw
  clear hW2 hgw
  cases c
  · go_wp2
    go_ret
    exact ⟨rfl, HBg.out, by simpa using HM.out.mono (Nat.le_succ n), HK.out⟩
  · go_wp2_with (at_mapUpdate; refine at_putT _ rfl _ _ _ rfl b n _ rfl HM.out (by unfold maxLen; omega) x rfl rfl hwx ?_; intro w5 hM5 hg5)
    go_ret
    refine ⟨rfl, (hg5.block g HBg.out.lt (fun e => ?_)).trans HBg.out, by simpa using hM5, HK.out.trans (KpM.row (Nat.le_trans hBw HG0.out.size) hBb hbN hg5)⟩
    have e2 : g = b := Option.some.inj e
    subst e2
    obtain ⟨D, ⟨es, cl, hh, -⟩, -⟩ := HM.out
    rw [show W2.heap[g]? = _ from HBg.out] at hh
    cases hh
/-- What Cross hands back. -/
def CsRet (P : Pg) (l : List (Int × Bool)) (w : World) (e : Ending) (w' : World) : Prop :=
  ∃ A m c ks, e = .returned (.tuple #[.slice A m c, .bool (runS P true (beg P) l).2.2]) ∧ (if (runS P true (beg P) l).2.2 then RisF (crF (wysS P (beg P) l)) ks else ks = []) ∧ OwnI w.heap.size w' (.slice A m c) ks ∧ ks.length ≤ l.length ∧ Below w.heap.size w w'
set_option maxHeartbeats 4000000 in
set_option maxRecDepth 100000 in
theorem crcross_any {B : Nat} {v vl : Value} {P : Pg} {l : List (Int × Bool)} (w : World) (hv : PgZ B w v P) (hl : KiR B w vl l) (hBB : B ≤ w.heap.size) (hp : rightP P = true) (hn : l.length ≤ 50000) :
    Calls Tryz.prog 8 #[v, vl] w (CsRet P l w) := by
  have hmm := @run_makeMap Tryz.prog
  obtain ⟨gp, hgp⟩ : ∃ g, g = w.heap.size := ⟨_, rfl⟩
  obtain ⟨pi, pt, rfl, hpm⟩ := hv
  have HV := Lib.hid (show PgZ B w (.agg #[pi, pt]) P from ⟨pi, pt, rfl, hpm⟩)
  have HL := Lib.hid hl
  obtain ⟨⟨⟨P0, d0, rfl, -⟩, ⟨P1, d1, rfl, -⟩⟩, -⟩ := hpm
  obtain ⟨Al, cl, rfl, hl1, hl2, -⟩ := hl
  unfold maxLen at hl2
  obtain ⟨W1, hW1⟩ : ∃ W, W = w.alloc (.cells #[.slice P0 P.init.length d0, .slice P1 P.ths.length d1] 25) := ⟨_, rfl⟩
  have HX := Lib.hid (show BoxC W1 gp 25 #[.slice P0 P.init.length d0, .slice P1 P.ths.length d1] from by rw [hW1, hgp]; exact BoxC.new w _ _)
  have HB1 := Lib.hid (show Below w.heap.size w W1 from by rw [hW1]; exact below_al (Below.refl _ _) _)
  have HS1 := Lib.hid (show W1.heap.size = w.heap.size + 1 from by rw [hW1]; simp)
  obtain ⟨gb, hgb⟩ : ∃ g, g = W1.heap.size := ⟨_, rfl⟩
  obtain ⟨gm, hgm⟩ : ∃ g, g = W1.heap.size + 1 := ⟨_, rfl⟩
  obtain ⟨W2, hW2⟩ : ∃ W, W = (W1.alloc (.map #[] 0)).alloc (.cells #[.map (some gb)] 55) := ⟨_, rfl⟩
  have HB2 := Lib.hid (show Below w.heap.size w W2 from by rw [hW2]; exact chain HB1.out (below_al (below_al (Below.refl _ _) _) _))
  have HS2 := Lib.hid (show W2.heap.size = w.heap.size + 3 from by rw [hW2]; simp [HS1.out])
  have HNN := Lib.hid (show gb = w.heap.size + 1 ∧ gm = w.heap.size + 2 from by have := HS1.out; omega)
  have HJ0 := Lib.hid (show CrJ (wysS P (beg P) l) gm gb 0 W2 from by
    rw [hW2, hgm]
    refine ⟨?_, ?_⟩
    · have := BoxC.new (W1.alloc (.map #[] 0)) 55 #[.map (some gb)]; rw [World.size_alloc] at this; exact this
    · have h := (MapT.made W1).kept (World.grownBy_alloc (W1.alloc (.map #[] 0)) (.cells #[.map (some gb)] 55) none) (by simp)
      rw [← hgb] at h
      have e : crF ((wysS P (beg P) l).take 0) = fun _ => false := by funext j; simp [crF]
      rw [e]; exact h)
  have HX2 := Lib.hid (show BoxC W2 gp 25 #[.slice P0 P.init.length d0, .slice P1 P.ths.length d1] from by rw [hW2]; exact (HX.out.alloc _).alloc _)
  have HLL := Lib.hid (wys_lt P l (beg P))
  have HGO := Lib.hid (goes_any (B := w.heap.size) (Fm := 26) (caps := #[.pointer (some ⟨gm, 0, none⟩)]) (bm := fun _ => true) (Jm := CrJ (wysS P (beg P) l) gm gb) W2 ((HV.out.below (HB2.out.mono hBB)).more hBB) ((HL.out.below (HB2.out.mono hBB)).more hBB) HB2.out.size hp hn (enters_of Tryz.func26 (by kernel_rfl) rfl) HJ0.out (CrJ.ab (by have := HNN.out; have := HS2.out; omega) (by have := HNN.out; have := HS2.out; omega)) (fun k hk W hJ hW => by
    obtain ⟨h1, h2⟩ := hJ
    have hsm := way_small hp l (beg P) _ (List.getElem_mem hk)
    have hkl : k ≤ 50000 := by have := HLL.out; omega
    refine (crmay_any (B := w.heap.size) (N := W2.heap.size) _ _ _ _ W h1 h2 (by omega) hsm (Nat.le_trans HB2.out.size hW.size) (by have := HNN.out; omega) (by have := HNN.out; have := HS2.out; omega)).mono ?_
    rintro e w' ⟨rfl, q1, q2, q3⟩
    exact ⟨rfl, fun _ => ⟨q1, by rw [crF_next _ hk]; exact q2⟩, q3⟩))
  have x0 := HX2.out.cell 0 _ rfl
  have x1 := HX2.out.cell 1 _ rfl
  go_enter Tryz.func8, Tryz.ntmps8
  go_upto_region 1 with fail
  rw [← hW1]
  (try rw [← hgp])
  have HW2 := Lib.hid hW2
  have HGM := Lib.hid hgm
  have HGB := Lib.hid hgb
  clear hW1 hgp hp hgm hgb hW2
  go_upto_region 2 with fail
  (try rw [← HGM.out])
  (try rw [← HGB.out])
  rw [← HW2.out]
  go_wp2_with fail
  refine HGO.out.mono ?_
  rintro e w5 ⟨bb, rfl, hbi, hbj, hbw⟩
  have HBW := Lib.hid (show Below w.heap.size w w5 from HB2.out.trans hbw)
  clear x0 x1
  cases bb
  · have HR := Lib.hid (show (runS P true (beg P) l).2.2 = false from by
      cases h : (runS P true (beg P) l).2.2
      · rfl
      · exact absurd (hbi.2 ⟨h, fun _ _ => rfl⟩) (by decide))
    clear hbi hbj hbw
    go_wp2
    go_ret2
    exact ⟨none, 0, 0, [], by rw [HR.out]; rfl, by rw [HR.out]; rfl, World.ownsRow_nil _ _ _ _, by simp, HBW.out⟩
  · have HR := Lib.hid (hbi.1 rfl).1
    obtain ⟨h1, h2⟩ := hbj rfl
    rw [List.take_length] at h2
    have HM := Lib.hid h2
    have HSO := Lib.hid (sortedI_call w5 h2 (by have := HLL.out; omega))
    have y0 := h1.cell 0 _ rfl
    clear hbi hbj hbw h1 h2
    go_wp2_with (first
      | (go_at_call 28; refine (keysI_call _ _).mono ?_; rintro e w' ⟨rfl, rfl⟩)
      | (go_at_call 27; refine HSO.out.mono ?_; rintro e w6 ⟨v, ks, rfl, hr, hl, ho, hb6⟩; obtain ⟨Ak, ck, rfl⟩ := own_slice ho; obtain ⟨kn, hkn⟩ : ∃ n, n = ks.length := ⟨_, rfl⟩; have HKN := Lib.hid hkn; have HRI := Lib.hid hr; have HO := Lib.hid ho; have HLE := Lib.hid hl; have HB6 := Lib.hid (chain HBW.out (chain (below_al (Below.refl _ w5) _) (hb6.mono (by simp)))); rw [← hkn] at ho ⊢; clear hr ho hb6 hkn hl))
    go_ret2
    refine ⟨Ak, kn, ck, ks, by rw [HR.out]; rfl, by rw [HR.out]; exact HRI.out, ?_, Nat.le_trans HLE.out HLL.out, HB6.out⟩
    rw [HKN.out]; exact own_base HO.out (Nat.le_trans HBW.out.size (Nat.le_succ _))
end Go.Proofs.YtlpjgaeelnlipaaGreat
namespace Go.Proofs.YtlpjgaeelnlipaaGreat
open Go.RowKit
open CodM (St Pg rightP)
open BfM (Wr plc)
open ScM

structure JOk (J : Nat → World → Prop) (gf base : Nat) (TF : TypeId) : Prop where
  box : ∀ k W, J k W → ∃ cs, BoxC W gf TF cs
  bl : ∀ k W W', J k W → Below W.heap.size W W' → J k W'
  set : ∀ k W g cs i v, J k W → BoxC W g 39 cs → J k (W.setCell ⟨g, i, none⟩ v)
  nT : (44 : TypeId) ≠ TF
  nI : (3 : TypeId) ≠ TF
  nW : (94 : TypeId) ≠ TF
end Go.Proofs.YtlpjgaeelnlipaaGreat
namespace Go.Proofs.YtlpjgaeelnlipaaGreat
open Go.RowKit
open CodM (St Pg rightP)
open BfM (Wr plc)
open ScM

end Go.Proofs.YtlpjgaeelnlipaaGreat
namespace Go.Proofs.YtlpjgaeelnlipaaGreat
open Go.RowKit
open CodM (St Pg rightP)
open BfM (Wr plc)
open ScM

end Go.Proofs.YtlpjgaeelnlipaaGreat
