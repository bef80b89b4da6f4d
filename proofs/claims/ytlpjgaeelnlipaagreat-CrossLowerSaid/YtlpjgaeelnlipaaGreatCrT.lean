/-
  LAYER 14: cross.along: the iterator along a run: it tells each pick with its way.
-/
import Derived.Test.YtlpjgaeelnlipaaGreatK22
import Derived.Test.YtlpjgaeelnlipaaGreatK09
import Derived.Test.YtlpjgaeelnlipaaGreatTsS
import Derived.Test.YtlpjgaeelnlipaaGreatScPb
import Derived.Stop.RegionWithIn
import Derived.Sort.CutIn
import Derived.OwnWalkIn
import Derived.TacticsInMore
import Derived.LoopNIn
import Derived.LoopIn
namespace Go.Proofs.YtlpjgaeelnlipaaGreat
open Go.RowKit
set_option linter.unusedVariables false
set_option linter.unusedSimpArgs false
attribute [local go_sem] Oper.semAt_some
open CodM (St Pg rightP)
open BfM (Wr plc)
open ScM
open SlM
open CrM

/-- A pick and its way, as they are handed to a loop. -/
abbrev encwy (x : (Int × Bool) × (Int × Bool)) : Array Value := #[.agg #[.int .i64 x.1.1, .bool x.1.2], .agg #[.int .i64 x.2.1, .bool x.2.2]]
/-- What a round leaves: what lay below n, and from block N on all cells but picks'. -/
def KpR (n N : Nat) (A B : World) : Prop := Below n A B ∧ ∀ k cs T ro, N ≤ k → A.heap[k]? = some (.cells cs T ro) → T ≠ 53 → B.heap[k]? = some (.cells cs T ro)
theorem KpR.trans {n N : Nat} {A B C : World} (h : KpR n N A B) (k : KpR n N B C) : KpR n N A C := ⟨h.1.trans k.1, fun i cs T ro h1 h2 h3 => k.2 i cs T ro h1 (h.2 i cs T ro h1 h2 h3) h3⟩
theorem KpR.grown {n N : Nat} {A B : World} (hn : n ≤ A.heap.size) (hg : A.grownBy B none) : KpR n N A B :=
  ⟨(Below.refl n A).grown hg hn (fun k e => by cases e), fun k cs T ro _ h _ => (hg.block k (Array.getElem?_eq_some_iff.1 h).1 (by simp)).trans h⟩
theorem KpR.put {n N l : Nat} {A : World} {o : Obj} (hn : n ≤ l) (h : A.heap[l]? = some o) (hc : o.isCells = false) (o' : Obj) : KpR n N A (A.putObj l o') :=
  ⟨(Below.refl n A).grown (grownBy_putObj' A l o') (by have := (Array.getElem?_eq_some_iff.1 h).1; omega) (fun k e => by cases e; omega), fun k cs T ro _ hk _ => by
    rw [World.putObj_heap_other (fun e => by subst e; rw [h] at hk; injection hk with hk; subst hk; cases hc)]; exact hk⟩
theorem grown_of {A B : World} (h : Below A.heap.size A B) : A.grownBy B none := ⟨h.os, h.tape, h.output, h.size, fun k hk _ => h.block k hk⟩
theorem BoxC.kr {n N b : Nat} {A B : World} {T : TypeId} {cs : Array Value} (h : BoxC A b T cs) (hk : KpR n N A B) (hb : N ≤ b) (hT : T ≠ 53) : BoxC B b T cs := hk.2 b cs T _ hb h hT
theorem own_kr {n N base T s m : Nat} {A B : World} {v : Value} {xs : List Value} (h : A.ownsRow base T s v m xs) (hk : KpR n N A B) (hb : N ≤ base) (hT : T ≠ 53) : B.ownsRow base T s v m xs := by
  obtain ⟨h0, h | ⟨g, cap, cur, h1, h2, h3, h4⟩⟩ := h
  · exact ⟨h0, .inl h⟩
  · exact ⟨h0, .inr ⟨g, cap, cur, h1, h2, hk.2 g cur T _ (by omega) h3 hT, h4⟩⟩
theorem OwnSt.kr {n N base : Nat} {A B : World} {vm vt : Value} {s : Sta} {ps : List TV} (h : OwnSt base A vm vt s ps) (hk : KpR n N A B) (hb : N ≤ base) : OwnSt base B vm vt s ps :=
  ⟨own_kr h.mem hk hb (by decide), own_kr h.ths hk hb (by decide), h.eq, fun p hp => ⟨own_kr (h.each p hp).1 hk hb (by decide), own_kr (h.each p hp).2.1 hk hb (by decide), (h.each p hp).2.2⟩, h.ap⟩
theorem ItAb.own {N : Nat} {T : TypeId} {J : Nat → World → Prop} (h : ItAb N T J) {k : Nat} {A B : World} (hj : J k A) (hb : Below A.heap.size A B) : J k B := h k A B none hj (grown_of hb) (fun r e => by cases e)
/-- What is kept while only walks, and boxes of other types than picks, are altered from block N on. -/
def MayAb (N : Nat) (J : Nat → World → Prop) : Prop := ∀ k A B row, J k A → A.grownBy B row → (∀ r, row = some r → N ≤ r ∧ ∃ o : Obj, A.heap[r]? = some o ∧ (o.isCells = false ∨ ∃ cs ro T, o = .cells cs T ro ∧ T ≠ 53)) → J k B
/-- What the run stands at between two rounds. -/
def AlgRel (P : Pg) (l : List (Int × Bool)) (J : Nat → World → Prop) (n N gs gp : Nat) (pc : Array Value) (W : World) (i : Value) (wr : World) : Prop :=
  ∃ (k : Nat) (s : Sta) (vm vt : Value) (ps : List TV), k ≤ l.length ∧ i = .int .i64 k ∧ runS P true (beg P) (l.take k) = (s, k, true) ∧ J k wr ∧ BoxC wr gs 39 #[vm, vt] ∧ OwnSt N wr vm vt s ps ∧ Below n W wr ∧ BoxC wr gp 25 pc
set_option maxRecDepth 100000 in
set_option maxHeartbeats 8000000 in
theorem along1_tells {B n2 n3 gp gl : Nat} {vl pi pt : Value} {P : Pg} {l : List (Int × Bool)} (KV : World → Prop) (w : World) (hkv : KV w) (hk1 : MayAb n3 (fun _ => KV)) (hk2 : ∀ W, KV W → PgZ W.heap.size W (.agg #[pi, pt]) P) (hn3 : n3 ≤ w.heap.size) (hl : KiR B w vl l) (hBB : B ≤ w.heap.size) (hp : rightP P = true) (hn : l.length ≤ 50000)
    (h2 : B ≤ n2) (hn2 : n2 ≤ w.heap.size) (hg2 : n2 ≤ gp) (hgp : BoxC w gp 25 #[pi, pt]) (hgl : BoxC w gl 26 #[vl]) :
    ItTells Fence.wide 10 Tryz.prog 63 #[.pointer (some ⟨gp, 0, none⟩), .pointer (some ⟨gl, 0, none⟩)] 39 encwy (wysS P (beg P) l) (fun _ A D => KpR B n2 A D ∧ (KV A → KV D)) w := by
  intro lp J Jx W hW hJ hY h0
  have HJ := Lib.hid hJ
  have HY := Lib.hid hY
  have HBZ := Lib.hid (Nat.le_trans hBB hW.size)
  have HNW := Lib.hid (Nat.le_trans hn2 hW.size)
  have HG2 := Lib.hid hg2
  have HK1 := Lib.hid hk1
  have HK2 := Lib.hid hk2
  have HKO := Lib.hid (fun X Y (hX : KV X) (hY : Below X.heap.size X Y) => hk1 0 X Y none hX (grown_of hY) (fun r e => by cases e))
  have HKW := Lib.hid (hk1 0 w W none hkv (grown_of hW) (fun r e => by cases e))
  have HN3 := Lib.hid (Nat.le_trans hn3 hW.size)
  have HSP := Lib.hid (fun k => show OkSt P (runS P true (beg P) (l.take k)).1 ∧ WideS (runS P true (beg P) (l.take k)).1 from ⟨runS_ok hp _ (beg_ok P), wide_run hp true (l.take k) (by rw [List.length_take]; omega) (by decide)⟩)
  have HRP := Lib.hid hp
  have HWW := Lib.hid hW
  have HGP := Lib.hid (hgp.below hW hgp.lt)
  have HGL := Lib.hid (hgl.below hW hgl.lt)
  have HLT := Lib.hid (Nat.lt_of_lt_of_le hgp.lt hW.size)
  obtain ⟨a, b, hab, hpm, -⟩ := hk2 w hkv
  injection hab with hab
  injection hab with hab
  injection hab with e1 e2
  injection e2 with e2 e3
  subst e1 e2
  obtain ⟨⟨P0, d0, rfl, -⟩, ⟨P1, d1, rfl, -⟩⟩ := hpm
  obtain ⟨Al, cl, rfl, hl1, hl2, -, hl3⟩ := hl
  have HL3 := Lib.hid (ki_at (c := cl) hl3)
  unfold maxLen at hl2
  clear hl3 hJ hY hW hp hgp hgl hn e3 h2 hn2 hg2 hkv hk1 hk2 hn3
  have x0 := HGP.out.cell 0 _ rfl
  have x1 := HGP.out.cell 1 _ rfl
  have y0 := HGL.out.cell 0 _ rfl
  have hf1 : Fence.wide.fn 64 := trivial
  have hf2 : Fence.wide.fn 65 := trivial
  have hf3 : Fence.wide.fn 66 := trivial
  refine callsIn_of_wp Tryz.func63 rfl trivial ?_ rfl
  simp only [Tryz.ntmps63, List.size_toArray, List.length_cons, List.length_nil, Nat.reduceAdd, Nat.reduceSub, Array.replicate_succ, Array.replicate_zero, List.push_toArray, List.append_toArray, List.nil_append, List.cons_append]
  gi_upto_region 1 with (gi_at_call 64; refine (callsIn_wide.2 (sbegin_any W (HK2.out W HKW.out) (Nat.le_refl _) HRP.out)).mono ?_; rintro e V1 ⟨vm, vt, ps, rfl, hos, hb1⟩; obtain ⟨Am, cm, rfl⟩ := own_slice hos.mem; obtain ⟨Av, cv, rfl⟩ := own_slice hos.ths; obtain ⟨m1, hm1⟩ : ∃ n, n = (beg P).mem.length := ⟨_, rfl⟩; obtain ⟨m2, hm2⟩ : ∃ n, n = (beg P).ths.length := ⟨_, rfl⟩; rw [← hm1, ← hm2] at hos ⊢; have HO := Lib.hid hos; have HB1 := Lib.hid hb1; clear hos hb1 hm1 hm2 x0 x1; replace y0 := kc HB1.out y0)

  obtain ⟨X2, hX2⟩ : ∃ W, W = V1.alloc (.cells #[.slice Am m1 cm, .slice Av m2 cv] 39) := ⟨_, rfl⟩
  obtain ⟨gs, hgs⟩ : ∃ g, g = V1.heap.size := ⟨_, rfl⟩
  have HS := Lib.hid (show BoxC X2 gs 39 #[.slice Am m1 cm, .slice Av m2 cv] from by rw [hX2, hgs]; exact BoxC.new V1 _ _)
  have HX2 := Lib.hid (show Below V1.heap.size V1 X2 from by rw [hX2]; exact below_al (Below.refl _ _) _)
  have HGS := Lib.hid (show W.heap.size ≤ gs from by rw [hgs]; exact HB1.out.size)
  have HB2 := Lib.hid (chain HB1.out HX2.out)
  replace HO := Lib.hid (HO.out.below HX2.out)
  have HJ0 := Lib.hid (HJ.out.own h0 HB2.out)
  have HKV0 := Lib.hid (HKO.out _ _ HKW.out HB2.out)
  rw [← hX2]
  (try rw [← hgs])
  clear hX2 hgs HX2 HB1 h0 y0
  have y0 := (HGL.out.below HB2.out HGL.out.lt).cell 0 _ rfl
  have HGW0 := Lib.hid (HGP.out.below HB2.out HGP.out.lt)
  gi_wp2_with fail
  clear y0
  gi_loopw [13] (fun i wr => AlgRel P l J B W.heap.size gs gp #[.slice P0 P.init.length d0, .slice P1 P.ths.length d1] W i wr ∧ KV wr) (fun i _ => l.length - (intOf i).toNat)
  case atStart => exact ⟨⟨0, beg P, _, _, ps, Nat.zero_le _, rfl, rfl, HJ0.out, HS.out, HO.out, HB2.out.mono HBZ.out, HGW0.out⟩, HKV0.out⟩
  case round =>
    clear HJ0 HS HO HB2 HGW0 HKV0
    obtain ⟨⟨k, s, vm, vt, ps, hk, rfl, hrun, hj, hbx, hos, hbw, hgw⟩, hkvr⟩ := hrel
    have HKR := Lib.hid hkvr
    have HGW := Lib.hid hgw
    obtain ⟨Am, cm, rfl⟩ := own_slice hos.mem
    obtain ⟨Av, cv, rfl⟩ := own_slice hos.ths
    obtain ⟨m1, hm1⟩ : ∃ n, n = s.mem.length := ⟨_, rfl⟩
    obtain ⟨m2, hm2⟩ : ∃ n, n = s.ths.length := ⟨_, rfl⟩
    rw [← hm1, ← hm2] at hos hbx
    have HRUN := Lib.hid hrun
    have HSS := Lib.hid (show OkSt P s ∧ WideS s from by have := HSP.out k; rw [hrun] at this; exact this)
    have HO := Lib.hid hos
    have HS := Lib.hid hbx
    have HV := Lib.hid hbw
    have HJK := Lib.hid hj
    have HM2 := Lib.hid hm2
    have HSZ := Lib.hid (show W.heap.size ≤ wr.heap.size from by have := HS.out.lt; have := HGS.out; omega)
    clear hrun hos hbx hbw hj hm1 hm2 hgw hkvr
    by_cases hlt : k < l.length
    · obtain ⟨bl, fl, rfl, hbl, hcl⟩ := HL3.out (by omega)
      obtain ⟨q0, q1⟩ := hcl k hlt
      replace q0 := (HV.out.cell (p := ⟨bl, fl + k * 2, none⟩) hbl).trans ((HWW.out.cell (p := ⟨bl, fl + k * 2, none⟩) (Nat.lt_of_lt_of_le hbl hBB)).trans q0)
      replace q1 := (HV.out.cell (p := ⟨bl, fl + k * 2 + 1, none⟩) hbl).trans ((HWW.out.cell (p := ⟨bl, fl + k * 2 + 1, none⟩) (Nat.lt_of_lt_of_le hbl hBB)).trans q1)
      have HWA := Lib.hid (fun b h => wys_at P l (beg P) s b k hlt HRUN.out h)
      have HWN := Lib.hid (fun b h => runS_next (b := b) hlt HRUN.out h)
      have HWS := Lib.hid (fun h => wys_stop P hlt HRUN.out h)
      rcases hlk : l[k] with ⟨t, d⟩
      rw [hlk] at q0 q1 HWA HWN HWS
      dsimp only at q0 q1 HWA HWN HWS
      clear hcl hlk
      gi_upto_region 4 with fail
      obtain ⟨X3, hX3⟩ : ∃ W, W = wr.alloc (.cells #[.int .i64 t, .bool d] 53) := ⟨_, rfl⟩
      obtain ⟨g6, hg6⟩ : ∃ g, g = wr.heap.size := ⟨_, rfl⟩
      have HX3 := Lib.hid (show Below wr.heap.size wr X3 from by rw [hX3]; exact below_al (Below.refl _ _) _)
      have HK3 := Lib.hid (show BoxC X3 g6 53 #[.int .i64 t, .bool d] from by rw [hX3, hg6]; exact BoxC.new wr _ _)
      rw [← hX3]
      (try rw [← hg6])
      have HG6 := Lib.hid hg6
      clear hX3 hg6 q0 q1
      have HV3 := Lib.hid (HV.out.trans (HX3.out.mono (Nat.le_trans HBZ.out HSZ.out)))
      have x0 := (HGW.out.below HX3.out HGW.out.lt).cell 0 _ rfl
      have x1 := (HGW.out.below HX3.out HGW.out.lt).cell 1 _ rfl
      have z0 := (HS.out.below HX3.out HS.out.lt).cell 0 _ rfl
      have z1 := (HS.out.below HX3.out HS.out.lt).cell 1 _ rfl
      have q0 := HK3.out.cell 0 _ rfl
      have q1 := HK3.out.cell 1 _ rfl

      gi_wp2_with (gi_at_call 65; refine (callsIn_wide.2 (tstep_any (B := X3.heap.size) t d X3 (HK2.out X3 (HKO.out _ _ HKR.out HX3.out)).v ⟨_, _, rfl, (HO.out.below HX3.out).read (Nat.le_refl _)⟩ (Nat.le_refl _) HRP.out HSS.out.1 HSS.out.2)).mono ?_; rintro e V5 ⟨vm5, vt5, ps5, rfl, hos5, hb5⟩; obtain ⟨A5, c5, rfl⟩ := own_slice hos5.mem; obtain ⟨B5, e5, rfl⟩ := own_slice hos5.ths; obtain ⟨m5, hm5⟩ : ∃ n, n = ((tst P s t d).getD s).mem.length := ⟨_, rfl⟩; obtain ⟨n5, hn5⟩ : ∃ n, n = ((tst P s t d).getD s).ths.length := ⟨_, rfl⟩; rw [← hm5, ← hn5] at hos5 ⊢; have HO5 := Lib.hid hos5; have HB5 := Lib.hid (chain HX3.out hb5); replace HK3 := Lib.hid (HK3.out.below hb5 HK3.out.lt); have HX3b := Lib.hid hb5; clear hos5 hb5 hm5 hn5 x0 x1 z0 z1 q0 q1)

      -- the state behind the step, in a box of its own
      obtain ⟨X6, hX6⟩ : ∃ W, W = V5.alloc (.cells #[.slice A5 m5 c5, .slice B5 n5 e5] 39) := ⟨_, rfl⟩
      obtain ⟨g7, hg7⟩ : ∃ g, g = V5.heap.size := ⟨_, rfl⟩
      have HA6 := Lib.hid (show Below V5.heap.size V5 X6 from by rw [hX6]; exact below_al (Below.refl _ _) _)
      have H7 := Lib.hid (show BoxC X6 g7 39 #[.slice A5 m5 c5, .slice B5 n5 e5] from by rw [hX6, hg7]; exact BoxC.new V5 _ _)
      have HB6 := Lib.hid (chain HB5.out HA6.out)
      have H6 := Lib.hid (show BoxC X6 g6 53 #[.int .i64 t, .bool d] from HK3.out.below HA6.out HK3.out.lt)
      have HO6 := Lib.hid ((HO5.out.below HA6.out).base (a := W.heap.size) (Nat.le_trans HSZ.out HX3.out.size))
      have HOS := Lib.hid (HO.out.below HB6.out)
      have HS6 := Lib.hid (HS.out.below HB6.out HS.out.lt)
      have HV6 := Lib.hid (HV.out.trans (HB6.out.mono (Nat.le_trans HBZ.out HSZ.out)))
      have HKV6 := Lib.hid (HKO.out _ _ HKR.out HB6.out)
      have HGW6 := Lib.hid (HGW.out.below HB6.out HGW.out.lt)
      have HJ6 := Lib.hid (HJ.out.own HJK.out HB6.out)
      have HG7 := Lib.hid (show W.heap.size ≤ g7 ∧ g7 ≠ gs from ⟨by have := HB5.out.size; have := HSZ.out; omega, by have := HS.out.lt; have := HB5.out.size; omega⟩)
      rw [← hX6]
      (try rw [← hg7])
      clear hX6 hg7 HK3 HO5 HX3b HA6 HX3 HV3 HG6 HO HS HV HJK HB5 HB6 HGW
      have x0 := HGW6.out.cell 0 _ rfl
      have x1 := HGW6.out.cell 1 _ rfl
      have z0 := HS6.out.cell 0 _ rfl
      have z1 := HS6.out.cell 1 _ rfl
      have q0 := H6.out.cell 0 _ rfl
      have q1 := H6.out.cell 1 _ rfl
      cases hst : tst P s t d with
      | none =>
        have HE := Lib.hid (HWS.out hst)
        clear HO6
        gi_wp2_with fail
        refine wpIn_region_any (by kernel_rfl) ?_
        (try (change wpAnyIn _ _ _ _ _ _ _ _ _ (World.drew _)))
        refine wpAnyIn_take (i := 0) (v := ?_) rfl rfl (by kernel_rfl) (by kernel_rfl) (by kernel_rfl) (fun _ _ _ h => h) ⟨Or.inl ⟨by rfl, ?_⟩, fun _ => rfl⟩ ?_
        rotate_left
        · intro w; go_simp; (try with_reducible rfl)
        (try simp only [Act.put, pt8])
        refine wpAnyIn_take (i := 1) (v := ?_) rfl rfl (by kernel_rfl) (by kernel_rfl) (by kernel_rfl) (fun _ _ _ h => h) ⟨Or.inl ⟨by rfl, ?_⟩, fun _ => rfl⟩ ?_
        rotate_left
        · intro w; go_simp; (try with_reducible rfl)
        (try simp only [Act.put, pt8])
        refine wpAnyIn_take (i := 2) (v := ?_) rfl rfl (by kernel_rfl) (by kernel_rfl) (by kernel_rfl) (fun _ _ _ h => h) ⟨Or.inl ⟨by rfl, ?_⟩, fun _ => rfl⟩ ?_
        rotate_left
        · intro w; go_simp; (try with_reducible rfl)
        (try simp only [Act.put, pt8])
        refine wpAnyIn_take (i := 3) (v := undef) rfl rfl (by kernel_rfl) (by kernel_rfl) (by kernel_rfl) (fun _ _ _ h => h) ⟨Or.inr ⟨by rfl, rfl⟩, fun _ => rfl⟩ ?_
        (try simp only [Act.put, pt8])
        refine wpAnyIn_take (i := 4) (v := undef) rfl rfl (by kernel_rfl) (by kernel_rfl) (by kernel_rfl) (fun _ _ _ h => h) ⟨Or.inr ⟨by rfl, rfl⟩, fun _ => rfl⟩ ?_
        (try simp only [Act.put, pt8])
        refine wpAnyIn_take (i := 5) (v := undef) rfl rfl (by kernel_rfl) (by kernel_rfl) (by kernel_rfl) (fun _ _ _ h => h) ⟨Or.inr ⟨by rfl, rfl⟩, fun _ => rfl⟩ ?_
        (try simp only [Act.put, pt8])
        refine wpAnyIn_take (i := 6) (v := undef) rfl rfl (by kernel_rfl) (by kernel_rfl) (by kernel_rfl) (fun _ _ _ h => h) ⟨Or.inr ⟨by rfl, rfl⟩, fun _ => rfl⟩ ?_
        (try simp only [Act.put, pt8])
        refine wpAnyIn_take (i := 7) (v := undef) rfl rfl (by kernel_rfl) (by kernel_rfl) (by kernel_rfl) (fun _ _ _ h => h) ⟨Or.inr ⟨by rfl, rfl⟩, fun _ => rfl⟩ ?_
        (try simp only [Act.put, pt8])
        refine wpAnyIn_ready (rs := [8]) (by kernel_rfl) (by simp) ?_
        refine AllReadyIn.cons rfl (fun K hK => ?_) AllReadyIn.nil
        rw [if_neg (Bool.eq_false_iff.1 (by rfl))]
        refine ⟨fun _ _ => trivial, hK _ _ ?_⟩
        clear hK K
        (try simp only [Act.put, pt8])
        refine wpAnyIn_ready (rs := [9]) (by kernel_rfl) (by simp) ?_
        refine AllReadyIn.cons rfl (fun K hK => ?_) AllReadyIn.nil
        rw [if_neg (Bool.eq_false_iff.1 (by rfl))]
        refine ⟨fun _ _ => trivial, hK _ _ ?_⟩
        clear hK K
        (try simp only [Act.put, pt8])
        refine wpAnyIn_take (i := 10) (v := undef) rfl rfl (by kernel_rfl) (by kernel_rfl) (by kernel_rfl) (fun _ _ _ h => h) ⟨Or.inr ⟨by rfl, rfl⟩, fun _ => rfl⟩ ?_
        (try simp only [Act.put, pt8])
        refine wpAnyIn_take (i := 11) (v := ?_) rfl rfl (by kernel_rfl) (by kernel_rfl) (by kernel_rfl) (fun _ _ _ h => h) ⟨Or.inl ⟨by rfl, ?_⟩, fun _ => rfl⟩ ?_
        rotate_left
        · intro w; go_simp; (try with_reducible rfl)
        (try simp only [Act.put, pt8])
        refine wpAnyIn_done (by kernel_rfl) ?_ _
        clear x0 x1 z0 z1 q0 q1
        gi_wp2
        refine bodyPost_ret (results_none rfl _ _ _) rfl ?_
        exact ⟨⟨_, rfl⟩, .inl (by rw [HE.out]; exact HJ.out.own HJ6.out (below_drewN (Below.refl _ _) 1))⟩
      | some s5 =>
        have HST := Lib.hid hst
        have HWE := Lib.hid (HWA.out s5 hst)
        have HWL := Lib.hid (List.getElem?_eq_some_iff.1 HWE.out).1
        have HNX := Lib.hid (HWN.out s5 hst)
        rw [hst] at HO6
        have HO7 := Lib.hid (show OwnSt W.heap.size X6 (.slice A5 m5 c5) (.slice B5 n5 e5) s5 ps5 from HO6.out)
        clear HO6 hst
        have HKX := Lib.hid (show d = false → ∃ j : Nat, t = j ∧ j < s.ths.length from fun hd => by subst hd; exact tst_in HST.out)
        have HN9 := Lib.hid (show s.ths.length ≤ 9 from HSS.out.2.ths)
        have HBF := Lib.hid (show ∀ x ∈ s.ths, x.buf.length ≤ 1000000 from fun x hx => Nat.le_trans (HSS.out.2.regs x hx).2 (by decide))
        have HDR := Lib.hid (show Below X6.heap.size X6 X6.drew from below_drewN (Below.refl _ _) 1)
        have HAT := Lib.hid (crat_any (B := X6.drew.heap.size) (P := P) (s := s) t d X6.drew (HK2.out X6.drew (HKO.out _ _ HKV6.out HDR.out)).v ⟨_, _, rfl, (HOS.out.below HDR.out).read (Nat.le_refl _)⟩ (Nat.le_refl _) HRP.out HKX.out HN9.out HBF.out)
        have HYK := Lib.hid (fun X (hj : J k X) => show ∃ fn tmps assign body, (Instr.yield lp (encwy ((t, d), wayS P s t d))).run Tryz.prog X = .ok (.round lp fn tmps assign body) X ∧ RoundIn Fence.wide (10 - 1) Tryz.prog lp fn tmps assign body X (fun e W' => ∃ b, e = .returned (.bool b) ∧ (b = true → J (k + 1) W' ∧ (KpR B n2 X W' ∧ (KV X → KV W'))) ∧ (b = false → Jx W')) from by
          have hE := (List.getElem?_eq_some_iff.1 HWE.out).2
          obtain ⟨fn, tm, ac, bo, hy, hR⟩ := HY.out k HWL.out X hj
          rw [hE] at hy
          refine ⟨fn, tm, ac, bo, hy, hR.mono fun e W' h => ?_⟩
          rcases h with ⟨rfl, h1, h2⟩ | ⟨rfl, h1⟩
          · exact ⟨true, rfl, fun _ => ⟨h1, h2⟩, fun h => by cases h⟩
          · exact ⟨false, rfl, fun h => (by cases h), fun _ => h1⟩)
        gi_wp2_with fail

        refine wpIn_region_any (by kernel_rfl) ?_
        (try (change wpAnyIn _ _ _ _ _ _ _ _ _ (World.drew _)))
        refine wpAnyIn_take (i := 0) (v := ?_) rfl rfl (by kernel_rfl) (by kernel_rfl) (by kernel_rfl) (fun _ _ _ h => h) ⟨Or.inl ⟨by rfl, ?_⟩, fun _ => rfl⟩ ?_
        rotate_left
        · intro w; go_simp; (try with_reducible rfl)
        (try simp only [Act.put, pt8])
        refine wpAnyIn_take (i := 1) (v := ?_) rfl rfl (by kernel_rfl) (by kernel_rfl) (by kernel_rfl) (fun _ _ _ h => h) ⟨Or.inl ⟨by rfl, ?_⟩, fun _ => rfl⟩ ?_
        rotate_left
        · intro w; go_simp; (try with_reducible rfl)
        (try simp only [Act.put, pt8])
        refine wpAnyIn_take (i := 2) (v := ?_) rfl rfl (by kernel_rfl) (by kernel_rfl) (by kernel_rfl) (fun _ _ _ h => h) ⟨Or.inl ⟨by rfl, ?_⟩, fun _ => rfl⟩ ?_
        rotate_left
        · intro w; go_simp; (try with_reducible rfl)
        (try simp only [Act.put, pt8])
        refine wpAnyIn_take (i := 3) (v := ?_) rfl rfl (by kernel_rfl) (by kernel_rfl) (by kernel_rfl) (fun _ _ _ h => h) ⟨Or.inl ⟨by rfl, ?_⟩, fun _ => rfl⟩ ?_
        rotate_left
        · intro w; go_simp; (try with_reducible rfl)
        (try simp only [Act.put, pt8])
        refine wpAnyIn_ready (rs := [4, 5, 6, 7]) (by kernel_rfl) (by simp) ?_
        refine AllReadyIn.cons rfl (fun K hK => ?_) (AllReadyIn.cons rfl (fun K hK => ?_) (AllReadyIn.cons rfl (fun K hK => ?_) (AllReadyIn.cons rfl (fun K hK => ?_) (AllReadyIn.nil))))
        rw [if_pos (by rfl)]
        go_simp
        refine hK _ _ ?_
        clear hK K
        (try simp only [Act.put, pt8])
        refine wpAnyIn_ready (rs := [5, 6, 7]) (by kernel_rfl) (by simp) ?_
        refine AllReadyIn.cons rfl (fun K hK => ?_) (AllReadyIn.cons rfl (fun K hK => ?_) (AllReadyIn.cons rfl (fun K hK => ?_) (AllReadyIn.nil)))
        rw [if_pos (by rfl)]
        go_simp
        refine hK _ _ ?_
        clear hK K
        (try simp only [Act.put, pt8])
        refine wpAnyIn_ready (rs := [6, 7]) (by kernel_rfl) (by simp) ?_
        refine AllReadyIn.cons rfl (fun K hK => ?_) (AllReadyIn.cons rfl (fun K hK => ?_) (AllReadyIn.nil))
        rw [if_pos (by rfl)]
        go_simp
        refine hK _ _ ?_
        clear hK K
        (try simp only [Act.put, pt8])
        refine wpAnyIn_ready (rs := [7]) (by kernel_rfl) (by simp) ?_
        refine AllReadyIn.cons rfl (fun K hK => ?_) (AllReadyIn.nil)
        rw [if_pos (by rfl)]
        go_simp
        refine hK _ _ ?_
        clear hK K
        (try simp only [Act.put, pt8])
        refine wpAnyIn_ready (rs := [8]) (by kernel_rfl) (by simp) ?_
        refine AllReadyIn.cons rfl (fun K hK => ?_) (AllReadyIn.nil)
        rw [if_pos (by rfl)]
        focus gi_wp2_with (gi_at_call 66; refine (callsIn_wide.2 HAT.out).mono ?_; rintro e X8 ⟨rfl, hb8⟩)
        have HD8 := Lib.hid (chain HDR.out hb8)
        have HJ8 := Lib.hid (HJ.out.own HJ6.out HD8.out)
        obtain ⟨fn, tmps, assign, body, hy, hR⟩ := HYK.out X8 HJ8.out
        dsimp only [encwy] at hy
        (try (refine hK _ _ ?_; clear hK K))
        (try simp only [Act.put, pt8])
        refine wpAnyIn_ready (rs := [9]) (by kernel_rfl) (by simp) ?_
        refine AllReadyIn.cons rfl (fun K hK => ?_) (AllReadyIn.nil)
        rw [if_pos (by rfl)]
        focus gi_wp2_with fail
        refine hR.mono ?_
        rintro e X9 ⟨b9, rfl, hT9, hF9⟩
        (try (refine hK _ _ ?_; clear hK K))
        (try simp only [Act.put, pt8])
        refine wpAnyIn_take (i := 10) (v := ?_) rfl rfl (by kernel_rfl) (by kernel_rfl) (by kernel_rfl) (fun _ _ _ h => h) ⟨Or.inl ⟨by rfl, ?_⟩, fun _ => rfl⟩ ?_
        rotate_left
        · intro w; go_simp; (try with_reducible rfl)
        (try simp only [Act.put, pt8])
        refine wpAnyIn_take (i := 11) (v := ?_) rfl rfl (by kernel_rfl) (by kernel_rfl) (by kernel_rfl) (fun _ _ _ h => h) ⟨Or.inl ⟨by rfl, ?_⟩, fun _ => rfl⟩ ?_
        rotate_left
        · intro w; go_simp; (try with_reducible rfl)
        (try simp only [Act.put, pt8])
        refine wpAnyIn_done (by kernel_rfl) ?_ _
        rotate_left
        rw [if_pos (by rfl)]
        go_simp
        refine hK _ _ ?_
        clear hK K
        (try simp only [Act.put, pt8])
        refine wpAnyIn_ready (rs := [6]) (by kernel_rfl) (by simp) ?_
        refine AllReadyIn.cons rfl (fun K hK => ?_) (AllReadyIn.nil)
        rw [if_pos (by rfl)]
        go_simp
        refine hK _ _ ?_
        clear hK K
        (try simp only [Act.put, pt8])
        refine wpAnyIn_ready (rs := [8]) (by kernel_rfl) (by simp) ?_
        refine AllReadyIn.cons rfl (fun K hK => ?_) (AllReadyIn.nil)
        rw [if_pos (by rfl)]
        focus gi_wp2_with (gi_at_call 66; refine (callsIn_wide.2 HAT.out).mono ?_; rintro e X8 ⟨rfl, hb8⟩)
        have HD8 := Lib.hid (chain HDR.out hb8)
        have HJ8 := Lib.hid (HJ.out.own HJ6.out HD8.out)
        obtain ⟨fn, tmps, assign, body, hy, hR⟩ := HYK.out X8 HJ8.out
        dsimp only [encwy] at hy
        (try (refine hK _ _ ?_; clear hK K))
        (try simp only [Act.put, pt8])
        refine wpAnyIn_ready (rs := [9]) (by kernel_rfl) (by simp) ?_
        refine AllReadyIn.cons rfl (fun K hK => ?_) (AllReadyIn.nil)
        rw [if_pos (by rfl)]
        focus gi_wp2_with fail
        refine hR.mono ?_
        rintro e X9 ⟨b9, rfl, hT9, hF9⟩
        (try (refine hK _ _ ?_; clear hK K))
        (try simp only [Act.put, pt8])
        refine wpAnyIn_take (i := 10) (v := ?_) rfl rfl (by kernel_rfl) (by kernel_rfl) (by kernel_rfl) (fun _ _ _ h => h) ⟨Or.inl ⟨by rfl, ?_⟩, fun _ => rfl⟩ ?_
        rotate_left
        · intro w; go_simp; (try with_reducible rfl)
        (try simp only [Act.put, pt8])
        refine wpAnyIn_take (i := 11) (v := ?_) rfl rfl (by kernel_rfl) (by kernel_rfl) (by kernel_rfl) (fun _ _ _ h => h) ⟨Or.inl ⟨by rfl, ?_⟩, fun _ => rfl⟩ ?_
        rotate_left
        · intro w; go_simp; (try with_reducible rfl)
        (try simp only [Act.put, pt8])
        refine wpAnyIn_done (by kernel_rfl) ?_ _
        rotate_left
        rw [if_pos (by rfl)]
        go_simp
        refine hK _ _ ?_
        clear hK K
        (try simp only [Act.put, pt8])
        refine wpAnyIn_ready (rs := [5, 7]) (by kernel_rfl) (by simp) ?_
        refine AllReadyIn.cons rfl (fun K hK => ?_) (AllReadyIn.cons rfl (fun K hK => ?_) (AllReadyIn.nil))
        rw [if_pos (by rfl)]
        go_simp
        refine hK _ _ ?_
        clear hK K
        (try simp only [Act.put, pt8])
        refine wpAnyIn_ready (rs := [7]) (by kernel_rfl) (by simp) ?_
        refine AllReadyIn.cons rfl (fun K hK => ?_) (AllReadyIn.nil)
        rw [if_pos (by rfl)]
        go_simp
        refine hK _ _ ?_
        clear hK K
        (try simp only [Act.put, pt8])
        refine wpAnyIn_ready (rs := [8]) (by kernel_rfl) (by simp) ?_
        refine AllReadyIn.cons rfl (fun K hK => ?_) (AllReadyIn.nil)
        rw [if_pos (by rfl)]
        focus gi_wp2_with (gi_at_call 66; refine (callsIn_wide.2 HAT.out).mono ?_; rintro e X8 ⟨rfl, hb8⟩)
        have HD8 := Lib.hid (chain HDR.out hb8)
        have HJ8 := Lib.hid (HJ.out.own HJ6.out HD8.out)
        obtain ⟨fn, tmps, assign, body, hy, hR⟩ := HYK.out X8 HJ8.out
        dsimp only [encwy] at hy
        (try (refine hK _ _ ?_; clear hK K))
        (try simp only [Act.put, pt8])
        refine wpAnyIn_ready (rs := [9]) (by kernel_rfl) (by simp) ?_
        refine AllReadyIn.cons rfl (fun K hK => ?_) (AllReadyIn.nil)
        rw [if_pos (by rfl)]
        focus gi_wp2_with fail
        refine hR.mono ?_
        rintro e X9 ⟨b9, rfl, hT9, hF9⟩
        (try (refine hK _ _ ?_; clear hK K))
        (try simp only [Act.put, pt8])
        refine wpAnyIn_take (i := 10) (v := ?_) rfl rfl (by kernel_rfl) (by kernel_rfl) (by kernel_rfl) (fun _ _ _ h => h) ⟨Or.inl ⟨by rfl, ?_⟩, fun _ => rfl⟩ ?_
        rotate_left
        · intro w; go_simp; (try with_reducible rfl)
        (try simp only [Act.put, pt8])
        refine wpAnyIn_take (i := 11) (v := ?_) rfl rfl (by kernel_rfl) (by kernel_rfl) (by kernel_rfl) (fun _ _ _ h => h) ⟨Or.inl ⟨by rfl, ?_⟩, fun _ => rfl⟩ ?_
        rotate_left
        · intro w; go_simp; (try with_reducible rfl)
        (try simp only [Act.put, pt8])
        refine wpAnyIn_done (by kernel_rfl) ?_ _
        rotate_left
        rw [if_pos (by rfl)]
        go_simp
        refine hK _ _ ?_
        clear hK K
        (try simp only [Act.put, pt8])
        refine wpAnyIn_ready (rs := [5]) (by kernel_rfl) (by simp) ?_
        refine AllReadyIn.cons rfl (fun K hK => ?_) (AllReadyIn.nil)
        rw [if_pos (by rfl)]
        go_simp
        refine hK _ _ ?_
        clear hK K
        (try simp only [Act.put, pt8])
        refine wpAnyIn_ready (rs := [8]) (by kernel_rfl) (by simp) ?_
        refine AllReadyIn.cons rfl (fun K hK => ?_) (AllReadyIn.nil)
        rw [if_pos (by rfl)]
        focus gi_wp2_with (gi_at_call 66; refine (callsIn_wide.2 HAT.out).mono ?_; rintro e X8 ⟨rfl, hb8⟩)
        have HD8 := Lib.hid (chain HDR.out hb8)
        have HJ8 := Lib.hid (HJ.out.own HJ6.out HD8.out)
        obtain ⟨fn, tmps, assign, body, hy, hR⟩ := HYK.out X8 HJ8.out
        dsimp only [encwy] at hy
        (try (refine hK _ _ ?_; clear hK K))
        (try simp only [Act.put, pt8])
        refine wpAnyIn_ready (rs := [9]) (by kernel_rfl) (by simp) ?_
        refine AllReadyIn.cons rfl (fun K hK => ?_) (AllReadyIn.nil)
        rw [if_pos (by rfl)]
        focus gi_wp2_with fail
        refine hR.mono ?_
        rintro e X9 ⟨b9, rfl, hT9, hF9⟩
        (try (refine hK _ _ ?_; clear hK K))
        (try simp only [Act.put, pt8])
        refine wpAnyIn_take (i := 10) (v := ?_) rfl rfl (by kernel_rfl) (by kernel_rfl) (by kernel_rfl) (fun _ _ _ h => h) ⟨Or.inl ⟨by rfl, ?_⟩, fun _ => rfl⟩ ?_
        rotate_left
        · intro w; go_simp; (try with_reducible rfl)
        (try simp only [Act.put, pt8])
        refine wpAnyIn_take (i := 11) (v := ?_) rfl rfl (by kernel_rfl) (by kernel_rfl) (by kernel_rfl) (fun _ _ _ h => h) ⟨Or.inl ⟨by rfl, ?_⟩, fun _ => rfl⟩ ?_
        rotate_left
        · intro w; go_simp; (try with_reducible rfl)
        (try simp only [Act.put, pt8])
        refine wpAnyIn_done (by kernel_rfl) ?_ _
        rotate_left
        rw [if_pos (by rfl)]
        go_simp
        refine hK _ _ ?_
        clear hK K
        (try simp only [Act.put, pt8])
        refine wpAnyIn_ready (rs := [5, 6]) (by kernel_rfl) (by simp) ?_
        refine AllReadyIn.cons rfl (fun K hK => ?_) (AllReadyIn.cons rfl (fun K hK => ?_) (AllReadyIn.nil))
        rw [if_pos (by rfl)]
        go_simp
        refine hK _ _ ?_
        clear hK K
        (try simp only [Act.put, pt8])
        refine wpAnyIn_ready (rs := [6]) (by kernel_rfl) (by simp) ?_
        refine AllReadyIn.cons rfl (fun K hK => ?_) (AllReadyIn.nil)
        rw [if_pos (by rfl)]
        go_simp
        refine hK _ _ ?_
        clear hK K
        (try simp only [Act.put, pt8])
        refine wpAnyIn_ready (rs := [8]) (by kernel_rfl) (by simp) ?_
        refine AllReadyIn.cons rfl (fun K hK => ?_) (AllReadyIn.nil)
        rw [if_pos (by rfl)]
        focus gi_wp2_with (gi_at_call 66; refine (callsIn_wide.2 HAT.out).mono ?_; rintro e X8 ⟨rfl, hb8⟩)
        have HD8 := Lib.hid (chain HDR.out hb8)
        have HJ8 := Lib.hid (HJ.out.own HJ6.out HD8.out)
        obtain ⟨fn, tmps, assign, body, hy, hR⟩ := HYK.out X8 HJ8.out
        dsimp only [encwy] at hy
        (try (refine hK _ _ ?_; clear hK K))
        (try simp only [Act.put, pt8])
        refine wpAnyIn_ready (rs := [9]) (by kernel_rfl) (by simp) ?_
        refine AllReadyIn.cons rfl (fun K hK => ?_) (AllReadyIn.nil)
        rw [if_pos (by rfl)]
        focus gi_wp2_with fail
        refine hR.mono ?_
        rintro e X9 ⟨b9, rfl, hT9, hF9⟩
        (try (refine hK _ _ ?_; clear hK K))
        (try simp only [Act.put, pt8])
        refine wpAnyIn_take (i := 10) (v := ?_) rfl rfl (by kernel_rfl) (by kernel_rfl) (by kernel_rfl) (fun _ _ _ h => h) ⟨Or.inl ⟨by rfl, ?_⟩, fun _ => rfl⟩ ?_
        rotate_left
        · intro w; go_simp; (try with_reducible rfl)
        (try simp only [Act.put, pt8])
        refine wpAnyIn_take (i := 11) (v := ?_) rfl rfl (by kernel_rfl) (by kernel_rfl) (by kernel_rfl) (fun _ _ _ h => h) ⟨Or.inl ⟨by rfl, ?_⟩, fun _ => rfl⟩ ?_
        rotate_left
        · intro w; go_simp; (try with_reducible rfl)
        (try simp only [Act.put, pt8])
        refine wpAnyIn_done (by kernel_rfl) ?_ _
        rotate_left
        rw [if_pos (by rfl)]
        go_simp
        refine hK _ _ ?_
        clear hK K
        (try simp only [Act.put, pt8])
        refine wpAnyIn_ready (rs := [5]) (by kernel_rfl) (by simp) ?_
        refine AllReadyIn.cons rfl (fun K hK => ?_) (AllReadyIn.nil)
        rw [if_pos (by rfl)]
        go_simp
        refine hK _ _ ?_
        clear hK K
        (try simp only [Act.put, pt8])
        refine wpAnyIn_ready (rs := [8]) (by kernel_rfl) (by simp) ?_
        refine AllReadyIn.cons rfl (fun K hK => ?_) (AllReadyIn.nil)
        rw [if_pos (by rfl)]
        focus gi_wp2_with (gi_at_call 66; refine (callsIn_wide.2 HAT.out).mono ?_; rintro e X8 ⟨rfl, hb8⟩)
        have HD8 := Lib.hid (chain HDR.out hb8)
        have HJ8 := Lib.hid (HJ.out.own HJ6.out HD8.out)
        obtain ⟨fn, tmps, assign, body, hy, hR⟩ := HYK.out X8 HJ8.out
        dsimp only [encwy] at hy
        (try (refine hK _ _ ?_; clear hK K))
        (try simp only [Act.put, pt8])
        refine wpAnyIn_ready (rs := [9]) (by kernel_rfl) (by simp) ?_
        refine AllReadyIn.cons rfl (fun K hK => ?_) (AllReadyIn.nil)
        rw [if_pos (by rfl)]
        focus gi_wp2_with fail
        refine hR.mono ?_
        rintro e X9 ⟨b9, rfl, hT9, hF9⟩
        (try (refine hK _ _ ?_; clear hK K))
        (try simp only [Act.put, pt8])
        refine wpAnyIn_take (i := 10) (v := ?_) rfl rfl (by kernel_rfl) (by kernel_rfl) (by kernel_rfl) (fun _ _ _ h => h) ⟨Or.inl ⟨by rfl, ?_⟩, fun _ => rfl⟩ ?_
        rotate_left
        · intro w; go_simp; (try with_reducible rfl)
        (try simp only [Act.put, pt8])
        refine wpAnyIn_take (i := 11) (v := ?_) rfl rfl (by kernel_rfl) (by kernel_rfl) (by kernel_rfl) (fun _ _ _ h => h) ⟨Or.inl ⟨by rfl, ?_⟩, fun _ => rfl⟩ ?_
        rotate_left
        · intro w; go_simp; (try with_reducible rfl)
        (try simp only [Act.put, pt8])
        refine wpAnyIn_done (by kernel_rfl) ?_ _
        rotate_left
        rw [if_pos (by rfl)]
        go_simp
        refine hK _ _ ?_
        clear hK K
        (try simp only [Act.put, pt8])
        refine wpAnyIn_ready (rs := [4, 6, 7]) (by kernel_rfl) (by simp) ?_
        refine AllReadyIn.cons rfl (fun K hK => ?_) (AllReadyIn.cons rfl (fun K hK => ?_) (AllReadyIn.cons rfl (fun K hK => ?_) (AllReadyIn.nil)))
        rw [if_pos (by rfl)]
        go_simp
        refine hK _ _ ?_
        clear hK K
        (try simp only [Act.put, pt8])
        refine wpAnyIn_ready (rs := [6, 7]) (by kernel_rfl) (by simp) ?_
        refine AllReadyIn.cons rfl (fun K hK => ?_) (AllReadyIn.cons rfl (fun K hK => ?_) (AllReadyIn.nil))
        rw [if_pos (by rfl)]
        go_simp
        refine hK _ _ ?_
        clear hK K
        (try simp only [Act.put, pt8])
        refine wpAnyIn_ready (rs := [7]) (by kernel_rfl) (by simp) ?_
        refine AllReadyIn.cons rfl (fun K hK => ?_) (AllReadyIn.nil)
        rw [if_pos (by rfl)]
        go_simp
        refine hK _ _ ?_
        clear hK K
        (try simp only [Act.put, pt8])
        refine wpAnyIn_ready (rs := [8]) (by kernel_rfl) (by simp) ?_
        refine AllReadyIn.cons rfl (fun K hK => ?_) (AllReadyIn.nil)
        rw [if_pos (by rfl)]
        focus gi_wp2_with (gi_at_call 66; refine (callsIn_wide.2 HAT.out).mono ?_; rintro e X8 ⟨rfl, hb8⟩)
        have HD8 := Lib.hid (chain HDR.out hb8)
        have HJ8 := Lib.hid (HJ.out.own HJ6.out HD8.out)
        obtain ⟨fn, tmps, assign, body, hy, hR⟩ := HYK.out X8 HJ8.out
        dsimp only [encwy] at hy
        (try (refine hK _ _ ?_; clear hK K))
        (try simp only [Act.put, pt8])
        refine wpAnyIn_ready (rs := [9]) (by kernel_rfl) (by simp) ?_
        refine AllReadyIn.cons rfl (fun K hK => ?_) (AllReadyIn.nil)
        rw [if_pos (by rfl)]
        focus gi_wp2_with fail
        refine hR.mono ?_
        rintro e X9 ⟨b9, rfl, hT9, hF9⟩
        (try (refine hK _ _ ?_; clear hK K))
        (try simp only [Act.put, pt8])
        refine wpAnyIn_take (i := 10) (v := ?_) rfl rfl (by kernel_rfl) (by kernel_rfl) (by kernel_rfl) (fun _ _ _ h => h) ⟨Or.inl ⟨by rfl, ?_⟩, fun _ => rfl⟩ ?_
        rotate_left
        · intro w; go_simp; (try with_reducible rfl)
        (try simp only [Act.put, pt8])
        refine wpAnyIn_take (i := 11) (v := ?_) rfl rfl (by kernel_rfl) (by kernel_rfl) (by kernel_rfl) (fun _ _ _ h => h) ⟨Or.inl ⟨by rfl, ?_⟩, fun _ => rfl⟩ ?_
        rotate_left
        · intro w; go_simp; (try with_reducible rfl)
        (try simp only [Act.put, pt8])
        refine wpAnyIn_done (by kernel_rfl) ?_ _
        rotate_left
        rw [if_pos (by rfl)]
        go_simp
        refine hK _ _ ?_
        clear hK K
        (try simp only [Act.put, pt8])
        refine wpAnyIn_ready (rs := [6]) (by kernel_rfl) (by simp) ?_
        refine AllReadyIn.cons rfl (fun K hK => ?_) (AllReadyIn.nil)
        rw [if_pos (by rfl)]
        go_simp
        refine hK _ _ ?_
        clear hK K
        (try simp only [Act.put, pt8])
        refine wpAnyIn_ready (rs := [8]) (by kernel_rfl) (by simp) ?_
        refine AllReadyIn.cons rfl (fun K hK => ?_) (AllReadyIn.nil)
        rw [if_pos (by rfl)]
        focus gi_wp2_with (gi_at_call 66; refine (callsIn_wide.2 HAT.out).mono ?_; rintro e X8 ⟨rfl, hb8⟩)
        have HD8 := Lib.hid (chain HDR.out hb8)
        have HJ8 := Lib.hid (HJ.out.own HJ6.out HD8.out)
        obtain ⟨fn, tmps, assign, body, hy, hR⟩ := HYK.out X8 HJ8.out
        dsimp only [encwy] at hy
        (try (refine hK _ _ ?_; clear hK K))
        (try simp only [Act.put, pt8])
        refine wpAnyIn_ready (rs := [9]) (by kernel_rfl) (by simp) ?_
        refine AllReadyIn.cons rfl (fun K hK => ?_) (AllReadyIn.nil)
        rw [if_pos (by rfl)]
        focus gi_wp2_with fail
        refine hR.mono ?_
        rintro e X9 ⟨b9, rfl, hT9, hF9⟩
        (try (refine hK _ _ ?_; clear hK K))
        (try simp only [Act.put, pt8])
        refine wpAnyIn_take (i := 10) (v := ?_) rfl rfl (by kernel_rfl) (by kernel_rfl) (by kernel_rfl) (fun _ _ _ h => h) ⟨Or.inl ⟨by rfl, ?_⟩, fun _ => rfl⟩ ?_
        rotate_left
        · intro w; go_simp; (try with_reducible rfl)
        (try simp only [Act.put, pt8])
        refine wpAnyIn_take (i := 11) (v := ?_) rfl rfl (by kernel_rfl) (by kernel_rfl) (by kernel_rfl) (fun _ _ _ h => h) ⟨Or.inl ⟨by rfl, ?_⟩, fun _ => rfl⟩ ?_
        rotate_left
        · intro w; go_simp; (try with_reducible rfl)
        (try simp only [Act.put, pt8])
        refine wpAnyIn_done (by kernel_rfl) ?_ _
        rotate_left
        rw [if_pos (by rfl)]
        go_simp
        refine hK _ _ ?_
        clear hK K
        (try simp only [Act.put, pt8])
        refine wpAnyIn_ready (rs := [4, 7]) (by kernel_rfl) (by simp) ?_
        refine AllReadyIn.cons rfl (fun K hK => ?_) (AllReadyIn.cons rfl (fun K hK => ?_) (AllReadyIn.nil))
        rw [if_pos (by rfl)]
        go_simp
        refine hK _ _ ?_
        clear hK K
        (try simp only [Act.put, pt8])
        refine wpAnyIn_ready (rs := [7]) (by kernel_rfl) (by simp) ?_
        refine AllReadyIn.cons rfl (fun K hK => ?_) (AllReadyIn.nil)
        rw [if_pos (by rfl)]
        go_simp
        refine hK _ _ ?_
        clear hK K
        (try simp only [Act.put, pt8])
        refine wpAnyIn_ready (rs := [8]) (by kernel_rfl) (by simp) ?_
        refine AllReadyIn.cons rfl (fun K hK => ?_) (AllReadyIn.nil)
        rw [if_pos (by rfl)]
        focus gi_wp2_with (gi_at_call 66; refine (callsIn_wide.2 HAT.out).mono ?_; rintro e X8 ⟨rfl, hb8⟩)
        have HD8 := Lib.hid (chain HDR.out hb8)
        have HJ8 := Lib.hid (HJ.out.own HJ6.out HD8.out)
        obtain ⟨fn, tmps, assign, body, hy, hR⟩ := HYK.out X8 HJ8.out
        dsimp only [encwy] at hy
        (try (refine hK _ _ ?_; clear hK K))
        (try simp only [Act.put, pt8])
        refine wpAnyIn_ready (rs := [9]) (by kernel_rfl) (by simp) ?_
        refine AllReadyIn.cons rfl (fun K hK => ?_) (AllReadyIn.nil)
        rw [if_pos (by rfl)]
        focus gi_wp2_with fail
        refine hR.mono ?_
        rintro e X9 ⟨b9, rfl, hT9, hF9⟩
        (try (refine hK _ _ ?_; clear hK K))
        (try simp only [Act.put, pt8])
        refine wpAnyIn_take (i := 10) (v := ?_) rfl rfl (by kernel_rfl) (by kernel_rfl) (by kernel_rfl) (fun _ _ _ h => h) ⟨Or.inl ⟨by rfl, ?_⟩, fun _ => rfl⟩ ?_
        rotate_left
        · intro w; go_simp; (try with_reducible rfl)
        (try simp only [Act.put, pt8])
        refine wpAnyIn_take (i := 11) (v := ?_) rfl rfl (by kernel_rfl) (by kernel_rfl) (by kernel_rfl) (fun _ _ _ h => h) ⟨Or.inl ⟨by rfl, ?_⟩, fun _ => rfl⟩ ?_
        rotate_left
        · intro w; go_simp; (try with_reducible rfl)
        (try simp only [Act.put, pt8])
        refine wpAnyIn_done (by kernel_rfl) ?_ _
        rotate_left
        rw [if_pos (by rfl)]
        go_simp
        refine hK _ _ ?_
        clear hK K
        (try simp only [Act.put, pt8])
        refine wpAnyIn_ready (rs := [4, 8]) (by kernel_rfl) (by simp) ?_
        refine AllReadyIn.cons rfl (fun K hK => ?_) (AllReadyIn.cons rfl (fun K hK => ?_) (AllReadyIn.nil))
        rw [if_pos (by rfl)]
        go_simp
        refine hK _ _ ?_
        clear hK K
        (try simp only [Act.put, pt8])
        refine wpAnyIn_ready (rs := [8]) (by kernel_rfl) (by simp) ?_
        refine AllReadyIn.cons rfl (fun K hK => ?_) (AllReadyIn.nil)
        rw [if_pos (by rfl)]
        focus gi_wp2_with (gi_at_call 66; refine (callsIn_wide.2 HAT.out).mono ?_; rintro e X8 ⟨rfl, hb8⟩)
        have HD8 := Lib.hid (chain HDR.out hb8)
        have HJ8 := Lib.hid (HJ.out.own HJ6.out HD8.out)
        obtain ⟨fn, tmps, assign, body, hy, hR⟩ := HYK.out X8 HJ8.out
        dsimp only [encwy] at hy
        (try (refine hK _ _ ?_; clear hK K))
        (try simp only [Act.put, pt8])
        refine wpAnyIn_ready (rs := [9]) (by kernel_rfl) (by simp) ?_
        refine AllReadyIn.cons rfl (fun K hK => ?_) (AllReadyIn.nil)
        rw [if_pos (by rfl)]
        focus gi_wp2_with fail
        refine hR.mono ?_
        rintro e X9 ⟨b9, rfl, hT9, hF9⟩
        (try (refine hK _ _ ?_; clear hK K))
        (try simp only [Act.put, pt8])
        refine wpAnyIn_take (i := 10) (v := ?_) rfl rfl (by kernel_rfl) (by kernel_rfl) (by kernel_rfl) (fun _ _ _ h => h) ⟨Or.inl ⟨by rfl, ?_⟩, fun _ => rfl⟩ ?_
        rotate_left
        · intro w; go_simp; (try with_reducible rfl)
        (try simp only [Act.put, pt8])
        refine wpAnyIn_take (i := 11) (v := ?_) rfl rfl (by kernel_rfl) (by kernel_rfl) (by kernel_rfl) (fun _ _ _ h => h) ⟨Or.inl ⟨by rfl, ?_⟩, fun _ => rfl⟩ ?_
        rotate_left
        · intro w; go_simp; (try with_reducible rfl)
        (try simp only [Act.put, pt8])
        refine wpAnyIn_done (by kernel_rfl) ?_ _
        rotate_left
        rw [if_pos (by rfl)]
        focus gi_wp2_with (gi_at_call 66; refine (callsIn_wide.2 HAT.out).mono ?_; rintro e X8 ⟨rfl, hb8⟩)
        have HD8 := Lib.hid (chain HDR.out hb8)
        have HJ8 := Lib.hid (HJ.out.own HJ6.out HD8.out)
        obtain ⟨fn, tmps, assign, body, hy, hR⟩ := HYK.out X8 HJ8.out
        dsimp only [encwy] at hy
        (try (refine hK _ _ ?_; clear hK K))
        (try simp only [Act.put, pt8])
        refine wpAnyIn_ready (rs := [4]) (by kernel_rfl) (by simp) ?_
        refine AllReadyIn.cons rfl (fun K hK => ?_) (AllReadyIn.nil)
        replace q0 := kc HD8.out q0
        replace q1 := kc HD8.out q1
        rw [if_pos (by rfl)]
        go_simp
        refine hK _ _ ?_
        clear hK K
        (try simp only [Act.put, pt8])
        refine wpAnyIn_ready (rs := [9]) (by kernel_rfl) (by simp) ?_
        refine AllReadyIn.cons rfl (fun K hK => ?_) (AllReadyIn.nil)
        rw [if_pos (by rfl)]
        focus gi_wp2_with fail
        refine hR.mono ?_
        rintro e X9 ⟨b9, rfl, hT9, hF9⟩
        (try (refine hK _ _ ?_; clear hK K))
        (try simp only [Act.put, pt8])
        refine wpAnyIn_take (i := 10) (v := ?_) rfl rfl (by kernel_rfl) (by kernel_rfl) (by kernel_rfl) (fun _ _ _ h => h) ⟨Or.inl ⟨by rfl, ?_⟩, fun _ => rfl⟩ ?_
        rotate_left
        · intro w; go_simp; (try with_reducible rfl)
        (try simp only [Act.put, pt8])
        refine wpAnyIn_take (i := 11) (v := ?_) rfl rfl (by kernel_rfl) (by kernel_rfl) (by kernel_rfl) (fun _ _ _ h => h) ⟨Or.inl ⟨by rfl, ?_⟩, fun _ => rfl⟩ ?_
        rotate_left
        · intro w; go_simp; (try with_reducible rfl)
        (try simp only [Act.put, pt8])
        refine wpAnyIn_done (by kernel_rfl) ?_ _
        rotate_left
        rw [if_pos (by rfl)]
        go_simp
        refine hK _ _ ?_
        clear hK K
        (try simp only [Act.put, pt8])
        refine wpAnyIn_ready (rs := [4, 6]) (by kernel_rfl) (by simp) ?_
        refine AllReadyIn.cons rfl (fun K hK => ?_) (AllReadyIn.cons rfl (fun K hK => ?_) (AllReadyIn.nil))
        rw [if_pos (by rfl)]
        go_simp
        refine hK _ _ ?_
        clear hK K
        (try simp only [Act.put, pt8])
        refine wpAnyIn_ready (rs := [6]) (by kernel_rfl) (by simp) ?_
        refine AllReadyIn.cons rfl (fun K hK => ?_) (AllReadyIn.nil)
        rw [if_pos (by rfl)]
        go_simp
        refine hK _ _ ?_
        clear hK K
        (try simp only [Act.put, pt8])
        refine wpAnyIn_ready (rs := [8]) (by kernel_rfl) (by simp) ?_
        refine AllReadyIn.cons rfl (fun K hK => ?_) (AllReadyIn.nil)
        rw [if_pos (by rfl)]
        focus gi_wp2_with (gi_at_call 66; refine (callsIn_wide.2 HAT.out).mono ?_; rintro e X8 ⟨rfl, hb8⟩)
        have HD8 := Lib.hid (chain HDR.out hb8)
        have HJ8 := Lib.hid (HJ.out.own HJ6.out HD8.out)
        obtain ⟨fn, tmps, assign, body, hy, hR⟩ := HYK.out X8 HJ8.out
        dsimp only [encwy] at hy
        (try (refine hK _ _ ?_; clear hK K))
        (try simp only [Act.put, pt8])
        refine wpAnyIn_ready (rs := [9]) (by kernel_rfl) (by simp) ?_
        refine AllReadyIn.cons rfl (fun K hK => ?_) (AllReadyIn.nil)
        rw [if_pos (by rfl)]
        focus gi_wp2_with fail
        refine hR.mono ?_
        rintro e X9 ⟨b9, rfl, hT9, hF9⟩
        (try (refine hK _ _ ?_; clear hK K))
        (try simp only [Act.put, pt8])
        refine wpAnyIn_take (i := 10) (v := ?_) rfl rfl (by kernel_rfl) (by kernel_rfl) (by kernel_rfl) (fun _ _ _ h => h) ⟨Or.inl ⟨by rfl, ?_⟩, fun _ => rfl⟩ ?_
        rotate_left
        · intro w; go_simp; (try with_reducible rfl)
        (try simp only [Act.put, pt8])
        refine wpAnyIn_take (i := 11) (v := ?_) rfl rfl (by kernel_rfl) (by kernel_rfl) (by kernel_rfl) (fun _ _ _ h => h) ⟨Or.inl ⟨by rfl, ?_⟩, fun _ => rfl⟩ ?_
        rotate_left
        · intro w; go_simp; (try with_reducible rfl)
        (try simp only [Act.put, pt8])
        refine wpAnyIn_done (by kernel_rfl) ?_ _
        rotate_left
        rw [if_pos (by rfl)]
        go_simp
        refine hK _ _ ?_
        clear hK K
        (try simp only [Act.put, pt8])
        refine wpAnyIn_ready (rs := [4, 8]) (by kernel_rfl) (by simp) ?_
        refine AllReadyIn.cons rfl (fun K hK => ?_) (AllReadyIn.cons rfl (fun K hK => ?_) (AllReadyIn.nil))
        rw [if_pos (by rfl)]
        go_simp
        refine hK _ _ ?_
        clear hK K
        (try simp only [Act.put, pt8])
        refine wpAnyIn_ready (rs := [8]) (by kernel_rfl) (by simp) ?_
        refine AllReadyIn.cons rfl (fun K hK => ?_) (AllReadyIn.nil)
        rw [if_pos (by rfl)]
        focus gi_wp2_with (gi_at_call 66; refine (callsIn_wide.2 HAT.out).mono ?_; rintro e X8 ⟨rfl, hb8⟩)
        have HD8 := Lib.hid (chain HDR.out hb8)
        have HJ8 := Lib.hid (HJ.out.own HJ6.out HD8.out)
        obtain ⟨fn, tmps, assign, body, hy, hR⟩ := HYK.out X8 HJ8.out
        dsimp only [encwy] at hy
        (try (refine hK _ _ ?_; clear hK K))
        (try simp only [Act.put, pt8])
        refine wpAnyIn_ready (rs := [9]) (by kernel_rfl) (by simp) ?_
        refine AllReadyIn.cons rfl (fun K hK => ?_) (AllReadyIn.nil)
        rw [if_pos (by rfl)]
        focus gi_wp2_with fail
        refine hR.mono ?_
        rintro e X9 ⟨b9, rfl, hT9, hF9⟩
        (try (refine hK _ _ ?_; clear hK K))
        (try simp only [Act.put, pt8])
        refine wpAnyIn_take (i := 10) (v := ?_) rfl rfl (by kernel_rfl) (by kernel_rfl) (by kernel_rfl) (fun _ _ _ h => h) ⟨Or.inl ⟨by rfl, ?_⟩, fun _ => rfl⟩ ?_
        rotate_left
        · intro w; go_simp; (try with_reducible rfl)
        (try simp only [Act.put, pt8])
        refine wpAnyIn_take (i := 11) (v := ?_) rfl rfl (by kernel_rfl) (by kernel_rfl) (by kernel_rfl) (fun _ _ _ h => h) ⟨Or.inl ⟨by rfl, ?_⟩, fun _ => rfl⟩ ?_
        rotate_left
        · intro w; go_simp; (try with_reducible rfl)
        (try simp only [Act.put, pt8])
        refine wpAnyIn_done (by kernel_rfl) ?_ _
        rotate_left
        rw [if_pos (by rfl)]
        focus gi_wp2_with (gi_at_call 66; refine (callsIn_wide.2 HAT.out).mono ?_; rintro e X8 ⟨rfl, hb8⟩)
        have HD8 := Lib.hid (chain HDR.out hb8)
        have HJ8 := Lib.hid (HJ.out.own HJ6.out HD8.out)
        obtain ⟨fn, tmps, assign, body, hy, hR⟩ := HYK.out X8 HJ8.out
        dsimp only [encwy] at hy
        (try (refine hK _ _ ?_; clear hK K))
        (try simp only [Act.put, pt8])
        refine wpAnyIn_ready (rs := [4]) (by kernel_rfl) (by simp) ?_
        refine AllReadyIn.cons rfl (fun K hK => ?_) (AllReadyIn.nil)
        replace q0 := kc HD8.out q0
        replace q1 := kc HD8.out q1
        rw [if_pos (by rfl)]
        go_simp
        refine hK _ _ ?_
        clear hK K
        (try simp only [Act.put, pt8])
        refine wpAnyIn_ready (rs := [9]) (by kernel_rfl) (by simp) ?_
        refine AllReadyIn.cons rfl (fun K hK => ?_) (AllReadyIn.nil)
        rw [if_pos (by rfl)]
        focus gi_wp2_with fail
        refine hR.mono ?_
        rintro e X9 ⟨b9, rfl, hT9, hF9⟩
        (try (refine hK _ _ ?_; clear hK K))
        (try simp only [Act.put, pt8])
        refine wpAnyIn_take (i := 10) (v := ?_) rfl rfl (by kernel_rfl) (by kernel_rfl) (by kernel_rfl) (fun _ _ _ h => h) ⟨Or.inl ⟨by rfl, ?_⟩, fun _ => rfl⟩ ?_
        rotate_left
        · intro w; go_simp; (try with_reducible rfl)
        (try simp only [Act.put, pt8])
        refine wpAnyIn_take (i := 11) (v := ?_) rfl rfl (by kernel_rfl) (by kernel_rfl) (by kernel_rfl) (fun _ _ _ h => h) ⟨Or.inl ⟨by rfl, ?_⟩, fun _ => rfl⟩ ?_
        rotate_left
        · intro w; go_simp; (try with_reducible rfl)
        (try simp only [Act.put, pt8])
        refine wpAnyIn_done (by kernel_rfl) ?_ _
        rotate_left
        rw [if_pos (by rfl)]
        go_simp
        refine hK _ _ ?_
        clear hK K
        (try simp only [Act.put, pt8])
        refine wpAnyIn_ready (rs := [4, 5, 7]) (by kernel_rfl) (by simp) ?_
        refine AllReadyIn.cons rfl (fun K hK => ?_) (AllReadyIn.cons rfl (fun K hK => ?_) (AllReadyIn.cons rfl (fun K hK => ?_) (AllReadyIn.nil)))
        rw [if_pos (by rfl)]
        go_simp
        refine hK _ _ ?_
        clear hK K
        (try simp only [Act.put, pt8])
        refine wpAnyIn_ready (rs := [5, 7]) (by kernel_rfl) (by simp) ?_
        refine AllReadyIn.cons rfl (fun K hK => ?_) (AllReadyIn.cons rfl (fun K hK => ?_) (AllReadyIn.nil))
        rw [if_pos (by rfl)]
        go_simp
        refine hK _ _ ?_
        clear hK K
        (try simp only [Act.put, pt8])
        refine wpAnyIn_ready (rs := [7]) (by kernel_rfl) (by simp) ?_
        refine AllReadyIn.cons rfl (fun K hK => ?_) (AllReadyIn.nil)
        rw [if_pos (by rfl)]
        go_simp
        refine hK _ _ ?_
        clear hK K
        (try simp only [Act.put, pt8])
        refine wpAnyIn_ready (rs := [8]) (by kernel_rfl) (by simp) ?_
        refine AllReadyIn.cons rfl (fun K hK => ?_) (AllReadyIn.nil)
        rw [if_pos (by rfl)]
        focus gi_wp2_with (gi_at_call 66; refine (callsIn_wide.2 HAT.out).mono ?_; rintro e X8 ⟨rfl, hb8⟩)
        have HD8 := Lib.hid (chain HDR.out hb8)
        have HJ8 := Lib.hid (HJ.out.own HJ6.out HD8.out)
        obtain ⟨fn, tmps, assign, body, hy, hR⟩ := HYK.out X8 HJ8.out
        dsimp only [encwy] at hy
        (try (refine hK _ _ ?_; clear hK K))
        (try simp only [Act.put, pt8])
        refine wpAnyIn_ready (rs := [9]) (by kernel_rfl) (by simp) ?_
        refine AllReadyIn.cons rfl (fun K hK => ?_) (AllReadyIn.nil)
        rw [if_pos (by rfl)]
        focus gi_wp2_with fail
        refine hR.mono ?_
        rintro e X9 ⟨b9, rfl, hT9, hF9⟩
        (try (refine hK _ _ ?_; clear hK K))
        (try simp only [Act.put, pt8])
        refine wpAnyIn_take (i := 10) (v := ?_) rfl rfl (by kernel_rfl) (by kernel_rfl) (by kernel_rfl) (fun _ _ _ h => h) ⟨Or.inl ⟨by rfl, ?_⟩, fun _ => rfl⟩ ?_
        rotate_left
        · intro w; go_simp; (try with_reducible rfl)
        (try simp only [Act.put, pt8])
        refine wpAnyIn_take (i := 11) (v := ?_) rfl rfl (by kernel_rfl) (by kernel_rfl) (by kernel_rfl) (fun _ _ _ h => h) ⟨Or.inl ⟨by rfl, ?_⟩, fun _ => rfl⟩ ?_
        rotate_left
        · intro w; go_simp; (try with_reducible rfl)
        (try simp only [Act.put, pt8])
        refine wpAnyIn_done (by kernel_rfl) ?_ _
        rotate_left
        rw [if_pos (by rfl)]
        go_simp
        refine hK _ _ ?_
        clear hK K
        (try simp only [Act.put, pt8])
        refine wpAnyIn_ready (rs := [5]) (by kernel_rfl) (by simp) ?_
        refine AllReadyIn.cons rfl (fun K hK => ?_) (AllReadyIn.nil)
        rw [if_pos (by rfl)]
        go_simp
        refine hK _ _ ?_
        clear hK K
        (try simp only [Act.put, pt8])
        refine wpAnyIn_ready (rs := [8]) (by kernel_rfl) (by simp) ?_
        refine AllReadyIn.cons rfl (fun K hK => ?_) (AllReadyIn.nil)
        rw [if_pos (by rfl)]
        focus gi_wp2_with (gi_at_call 66; refine (callsIn_wide.2 HAT.out).mono ?_; rintro e X8 ⟨rfl, hb8⟩)
        have HD8 := Lib.hid (chain HDR.out hb8)
        have HJ8 := Lib.hid (HJ.out.own HJ6.out HD8.out)
        obtain ⟨fn, tmps, assign, body, hy, hR⟩ := HYK.out X8 HJ8.out
        dsimp only [encwy] at hy
        (try (refine hK _ _ ?_; clear hK K))
        (try simp only [Act.put, pt8])
        refine wpAnyIn_ready (rs := [9]) (by kernel_rfl) (by simp) ?_
        refine AllReadyIn.cons rfl (fun K hK => ?_) (AllReadyIn.nil)
        rw [if_pos (by rfl)]
        focus gi_wp2_with fail
        refine hR.mono ?_
        rintro e X9 ⟨b9, rfl, hT9, hF9⟩
        (try (refine hK _ _ ?_; clear hK K))
        (try simp only [Act.put, pt8])
        refine wpAnyIn_take (i := 10) (v := ?_) rfl rfl (by kernel_rfl) (by kernel_rfl) (by kernel_rfl) (fun _ _ _ h => h) ⟨Or.inl ⟨by rfl, ?_⟩, fun _ => rfl⟩ ?_
        rotate_left
        · intro w; go_simp; (try with_reducible rfl)
        (try simp only [Act.put, pt8])
        refine wpAnyIn_take (i := 11) (v := ?_) rfl rfl (by kernel_rfl) (by kernel_rfl) (by kernel_rfl) (fun _ _ _ h => h) ⟨Or.inl ⟨by rfl, ?_⟩, fun _ => rfl⟩ ?_
        rotate_left
        · intro w; go_simp; (try with_reducible rfl)
        (try simp only [Act.put, pt8])
        refine wpAnyIn_done (by kernel_rfl) ?_ _
        rotate_left
        rw [if_pos (by rfl)]
        go_simp
        refine hK _ _ ?_
        clear hK K
        (try simp only [Act.put, pt8])
        refine wpAnyIn_ready (rs := [4, 7]) (by kernel_rfl) (by simp) ?_
        refine AllReadyIn.cons rfl (fun K hK => ?_) (AllReadyIn.cons rfl (fun K hK => ?_) (AllReadyIn.nil))
        rw [if_pos (by rfl)]
        go_simp
        refine hK _ _ ?_
        clear hK K
        (try simp only [Act.put, pt8])
        refine wpAnyIn_ready (rs := [7]) (by kernel_rfl) (by simp) ?_
        refine AllReadyIn.cons rfl (fun K hK => ?_) (AllReadyIn.nil)
        rw [if_pos (by rfl)]
        go_simp
        refine hK _ _ ?_
        clear hK K
        (try simp only [Act.put, pt8])
        refine wpAnyIn_ready (rs := [8]) (by kernel_rfl) (by simp) ?_
        refine AllReadyIn.cons rfl (fun K hK => ?_) (AllReadyIn.nil)
        rw [if_pos (by rfl)]
        focus gi_wp2_with (gi_at_call 66; refine (callsIn_wide.2 HAT.out).mono ?_; rintro e X8 ⟨rfl, hb8⟩)
        have HD8 := Lib.hid (chain HDR.out hb8)
        have HJ8 := Lib.hid (HJ.out.own HJ6.out HD8.out)
        obtain ⟨fn, tmps, assign, body, hy, hR⟩ := HYK.out X8 HJ8.out
        dsimp only [encwy] at hy
        (try (refine hK _ _ ?_; clear hK K))
        (try simp only [Act.put, pt8])
        refine wpAnyIn_ready (rs := [9]) (by kernel_rfl) (by simp) ?_
        refine AllReadyIn.cons rfl (fun K hK => ?_) (AllReadyIn.nil)
        rw [if_pos (by rfl)]
        focus gi_wp2_with fail
        refine hR.mono ?_
        rintro e X9 ⟨b9, rfl, hT9, hF9⟩
        (try (refine hK _ _ ?_; clear hK K))
        (try simp only [Act.put, pt8])
        refine wpAnyIn_take (i := 10) (v := ?_) rfl rfl (by kernel_rfl) (by kernel_rfl) (by kernel_rfl) (fun _ _ _ h => h) ⟨Or.inl ⟨by rfl, ?_⟩, fun _ => rfl⟩ ?_
        rotate_left
        · intro w; go_simp; (try with_reducible rfl)
        (try simp only [Act.put, pt8])
        refine wpAnyIn_take (i := 11) (v := ?_) rfl rfl (by kernel_rfl) (by kernel_rfl) (by kernel_rfl) (fun _ _ _ h => h) ⟨Or.inl ⟨by rfl, ?_⟩, fun _ => rfl⟩ ?_
        rotate_left
        · intro w; go_simp; (try with_reducible rfl)
        (try simp only [Act.put, pt8])
        refine wpAnyIn_done (by kernel_rfl) ?_ _
        rotate_left
        rw [if_pos (by rfl)]
        go_simp
        refine hK _ _ ?_
        clear hK K
        (try simp only [Act.put, pt8])
        refine wpAnyIn_ready (rs := [4, 8]) (by kernel_rfl) (by simp) ?_
        refine AllReadyIn.cons rfl (fun K hK => ?_) (AllReadyIn.cons rfl (fun K hK => ?_) (AllReadyIn.nil))
        rw [if_pos (by rfl)]
        go_simp
        refine hK _ _ ?_
        clear hK K
        (try simp only [Act.put, pt8])
        refine wpAnyIn_ready (rs := [8]) (by kernel_rfl) (by simp) ?_
        refine AllReadyIn.cons rfl (fun K hK => ?_) (AllReadyIn.nil)
        rw [if_pos (by rfl)]
        focus gi_wp2_with (gi_at_call 66; refine (callsIn_wide.2 HAT.out).mono ?_; rintro e X8 ⟨rfl, hb8⟩)
        have HD8 := Lib.hid (chain HDR.out hb8)
        have HJ8 := Lib.hid (HJ.out.own HJ6.out HD8.out)
        obtain ⟨fn, tmps, assign, body, hy, hR⟩ := HYK.out X8 HJ8.out
        dsimp only [encwy] at hy
        (try (refine hK _ _ ?_; clear hK K))
        (try simp only [Act.put, pt8])
        refine wpAnyIn_ready (rs := [9]) (by kernel_rfl) (by simp) ?_
        refine AllReadyIn.cons rfl (fun K hK => ?_) (AllReadyIn.nil)
        rw [if_pos (by rfl)]
        focus gi_wp2_with fail
        refine hR.mono ?_
        rintro e X9 ⟨b9, rfl, hT9, hF9⟩
        (try (refine hK _ _ ?_; clear hK K))
        (try simp only [Act.put, pt8])
        refine wpAnyIn_take (i := 10) (v := ?_) rfl rfl (by kernel_rfl) (by kernel_rfl) (by kernel_rfl) (fun _ _ _ h => h) ⟨Or.inl ⟨by rfl, ?_⟩, fun _ => rfl⟩ ?_
        rotate_left
        · intro w; go_simp; (try with_reducible rfl)
        (try simp only [Act.put, pt8])
        refine wpAnyIn_take (i := 11) (v := ?_) rfl rfl (by kernel_rfl) (by kernel_rfl) (by kernel_rfl) (fun _ _ _ h => h) ⟨Or.inl ⟨by rfl, ?_⟩, fun _ => rfl⟩ ?_
        rotate_left
        · intro w; go_simp; (try with_reducible rfl)
        (try simp only [Act.put, pt8])
        refine wpAnyIn_done (by kernel_rfl) ?_ _
        rotate_left
        rw [if_pos (by rfl)]
        focus gi_wp2_with (gi_at_call 66; refine (callsIn_wide.2 HAT.out).mono ?_; rintro e X8 ⟨rfl, hb8⟩)
        have HD8 := Lib.hid (chain HDR.out hb8)
        have HJ8 := Lib.hid (HJ.out.own HJ6.out HD8.out)
        obtain ⟨fn, tmps, assign, body, hy, hR⟩ := HYK.out X8 HJ8.out
        dsimp only [encwy] at hy
        (try (refine hK _ _ ?_; clear hK K))
        (try simp only [Act.put, pt8])
        refine wpAnyIn_ready (rs := [4]) (by kernel_rfl) (by simp) ?_
        refine AllReadyIn.cons rfl (fun K hK => ?_) (AllReadyIn.nil)
        replace q0 := kc HD8.out q0
        replace q1 := kc HD8.out q1
        rw [if_pos (by rfl)]
        go_simp
        refine hK _ _ ?_
        clear hK K
        (try simp only [Act.put, pt8])
        refine wpAnyIn_ready (rs := [9]) (by kernel_rfl) (by simp) ?_
        refine AllReadyIn.cons rfl (fun K hK => ?_) (AllReadyIn.nil)
        rw [if_pos (by rfl)]
        focus gi_wp2_with fail
        refine hR.mono ?_
        rintro e X9 ⟨b9, rfl, hT9, hF9⟩
        (try (refine hK _ _ ?_; clear hK K))
        (try simp only [Act.put, pt8])
        refine wpAnyIn_take (i := 10) (v := ?_) rfl rfl (by kernel_rfl) (by kernel_rfl) (by kernel_rfl) (fun _ _ _ h => h) ⟨Or.inl ⟨by rfl, ?_⟩, fun _ => rfl⟩ ?_
        rotate_left
        · intro w; go_simp; (try with_reducible rfl)
        (try simp only [Act.put, pt8])
        refine wpAnyIn_take (i := 11) (v := ?_) rfl rfl (by kernel_rfl) (by kernel_rfl) (by kernel_rfl) (fun _ _ _ h => h) ⟨Or.inl ⟨by rfl, ?_⟩, fun _ => rfl⟩ ?_
        rotate_left
        · intro w; go_simp; (try with_reducible rfl)
        (try simp only [Act.put, pt8])
        refine wpAnyIn_done (by kernel_rfl) ?_ _
        rotate_left
        rw [if_pos (by rfl)]
        go_simp
        refine hK _ _ ?_
        clear hK K
        (try simp only [Act.put, pt8])
        refine wpAnyIn_ready (rs := [4, 5]) (by kernel_rfl) (by simp) ?_
        refine AllReadyIn.cons rfl (fun K hK => ?_) (AllReadyIn.cons rfl (fun K hK => ?_) (AllReadyIn.nil))
        rw [if_pos (by rfl)]
        go_simp
        refine hK _ _ ?_
        clear hK K
        (try simp only [Act.put, pt8])
        refine wpAnyIn_ready (rs := [5]) (by kernel_rfl) (by simp) ?_
        refine AllReadyIn.cons rfl (fun K hK => ?_) (AllReadyIn.nil)
        rw [if_pos (by rfl)]
        go_simp
        refine hK _ _ ?_
        clear hK K
        (try simp only [Act.put, pt8])
        refine wpAnyIn_ready (rs := [8]) (by kernel_rfl) (by simp) ?_
        refine AllReadyIn.cons rfl (fun K hK => ?_) (AllReadyIn.nil)
        rw [if_pos (by rfl)]
        focus gi_wp2_with (gi_at_call 66; refine (callsIn_wide.2 HAT.out).mono ?_; rintro e X8 ⟨rfl, hb8⟩)
        have HD8 := Lib.hid (chain HDR.out hb8)
        have HJ8 := Lib.hid (HJ.out.own HJ6.out HD8.out)
        obtain ⟨fn, tmps, assign, body, hy, hR⟩ := HYK.out X8 HJ8.out
        dsimp only [encwy] at hy
        (try (refine hK _ _ ?_; clear hK K))
        (try simp only [Act.put, pt8])
        refine wpAnyIn_ready (rs := [9]) (by kernel_rfl) (by simp) ?_
        refine AllReadyIn.cons rfl (fun K hK => ?_) (AllReadyIn.nil)
        rw [if_pos (by rfl)]
        focus gi_wp2_with fail
        refine hR.mono ?_
        rintro e X9 ⟨b9, rfl, hT9, hF9⟩
        (try (refine hK _ _ ?_; clear hK K))
        (try simp only [Act.put, pt8])
        refine wpAnyIn_take (i := 10) (v := ?_) rfl rfl (by kernel_rfl) (by kernel_rfl) (by kernel_rfl) (fun _ _ _ h => h) ⟨Or.inl ⟨by rfl, ?_⟩, fun _ => rfl⟩ ?_
        rotate_left
        · intro w; go_simp; (try with_reducible rfl)
        (try simp only [Act.put, pt8])
        refine wpAnyIn_take (i := 11) (v := ?_) rfl rfl (by kernel_rfl) (by kernel_rfl) (by kernel_rfl) (fun _ _ _ h => h) ⟨Or.inl ⟨by rfl, ?_⟩, fun _ => rfl⟩ ?_
        rotate_left
        · intro w; go_simp; (try with_reducible rfl)
        (try simp only [Act.put, pt8])
        refine wpAnyIn_done (by kernel_rfl) ?_ _
        rotate_left
        rw [if_pos (by rfl)]
        go_simp
        refine hK _ _ ?_
        clear hK K
        (try simp only [Act.put, pt8])
        refine wpAnyIn_ready (rs := [4, 8]) (by kernel_rfl) (by simp) ?_
        refine AllReadyIn.cons rfl (fun K hK => ?_) (AllReadyIn.cons rfl (fun K hK => ?_) (AllReadyIn.nil))
        rw [if_pos (by rfl)]
        go_simp
        refine hK _ _ ?_
        clear hK K
        (try simp only [Act.put, pt8])
        refine wpAnyIn_ready (rs := [8]) (by kernel_rfl) (by simp) ?_
        refine AllReadyIn.cons rfl (fun K hK => ?_) (AllReadyIn.nil)
        rw [if_pos (by rfl)]
        focus gi_wp2_with (gi_at_call 66; refine (callsIn_wide.2 HAT.out).mono ?_; rintro e X8 ⟨rfl, hb8⟩)
        have HD8 := Lib.hid (chain HDR.out hb8)
        have HJ8 := Lib.hid (HJ.out.own HJ6.out HD8.out)
        obtain ⟨fn, tmps, assign, body, hy, hR⟩ := HYK.out X8 HJ8.out
        dsimp only [encwy] at hy
        (try (refine hK _ _ ?_; clear hK K))
        (try simp only [Act.put, pt8])
        refine wpAnyIn_ready (rs := [9]) (by kernel_rfl) (by simp) ?_
        refine AllReadyIn.cons rfl (fun K hK => ?_) (AllReadyIn.nil)
        rw [if_pos (by rfl)]
        focus gi_wp2_with fail
        refine hR.mono ?_
        rintro e X9 ⟨b9, rfl, hT9, hF9⟩
        (try (refine hK _ _ ?_; clear hK K))
        (try simp only [Act.put, pt8])
        refine wpAnyIn_take (i := 10) (v := ?_) rfl rfl (by kernel_rfl) (by kernel_rfl) (by kernel_rfl) (fun _ _ _ h => h) ⟨Or.inl ⟨by rfl, ?_⟩, fun _ => rfl⟩ ?_
        rotate_left
        · intro w; go_simp; (try with_reducible rfl)
        (try simp only [Act.put, pt8])
        refine wpAnyIn_take (i := 11) (v := ?_) rfl rfl (by kernel_rfl) (by kernel_rfl) (by kernel_rfl) (fun _ _ _ h => h) ⟨Or.inl ⟨by rfl, ?_⟩, fun _ => rfl⟩ ?_
        rotate_left
        · intro w; go_simp; (try with_reducible rfl)
        (try simp only [Act.put, pt8])
        refine wpAnyIn_done (by kernel_rfl) ?_ _
        rotate_left
        rw [if_pos (by rfl)]
        focus gi_wp2_with (gi_at_call 66; refine (callsIn_wide.2 HAT.out).mono ?_; rintro e X8 ⟨rfl, hb8⟩)
        have HD8 := Lib.hid (chain HDR.out hb8)
        have HJ8 := Lib.hid (HJ.out.own HJ6.out HD8.out)
        obtain ⟨fn, tmps, assign, body, hy, hR⟩ := HYK.out X8 HJ8.out
        dsimp only [encwy] at hy
        (try (refine hK _ _ ?_; clear hK K))
        (try simp only [Act.put, pt8])
        refine wpAnyIn_ready (rs := [4]) (by kernel_rfl) (by simp) ?_
        refine AllReadyIn.cons rfl (fun K hK => ?_) (AllReadyIn.nil)
        replace q0 := kc HD8.out q0
        replace q1 := kc HD8.out q1
        rw [if_pos (by rfl)]
        go_simp
        refine hK _ _ ?_
        clear hK K
        (try simp only [Act.put, pt8])
        refine wpAnyIn_ready (rs := [9]) (by kernel_rfl) (by simp) ?_
        refine AllReadyIn.cons rfl (fun K hK => ?_) (AllReadyIn.nil)
        rw [if_pos (by rfl)]
        focus gi_wp2_with fail
        refine hR.mono ?_
        rintro e X9 ⟨b9, rfl, hT9, hF9⟩
        (try (refine hK _ _ ?_; clear hK K))
        (try simp only [Act.put, pt8])
        refine wpAnyIn_take (i := 10) (v := ?_) rfl rfl (by kernel_rfl) (by kernel_rfl) (by kernel_rfl) (fun _ _ _ h => h) ⟨Or.inl ⟨by rfl, ?_⟩, fun _ => rfl⟩ ?_
        rotate_left
        · intro w; go_simp; (try with_reducible rfl)
        (try simp only [Act.put, pt8])
        refine wpAnyIn_take (i := 11) (v := ?_) rfl rfl (by kernel_rfl) (by kernel_rfl) (by kernel_rfl) (fun _ _ _ h => h) ⟨Or.inl ⟨by rfl, ?_⟩, fun _ => rfl⟩ ?_
        rotate_left
        · intro w; go_simp; (try with_reducible rfl)
        (try simp only [Act.put, pt8])
        refine wpAnyIn_done (by kernel_rfl) ?_ _
        rotate_left
        rw [if_pos (by rfl)]
        go_simp
        refine hK _ _ ?_
        clear hK K
        (try simp only [Act.put, pt8])
        refine wpAnyIn_ready (rs := [4, 5, 6]) (by kernel_rfl) (by simp) ?_
        refine AllReadyIn.cons rfl (fun K hK => ?_) (AllReadyIn.cons rfl (fun K hK => ?_) (AllReadyIn.cons rfl (fun K hK => ?_) (AllReadyIn.nil)))
        rw [if_pos (by rfl)]
        go_simp
        refine hK _ _ ?_
        clear hK K
        (try simp only [Act.put, pt8])
        refine wpAnyIn_ready (rs := [5, 6]) (by kernel_rfl) (by simp) ?_
        refine AllReadyIn.cons rfl (fun K hK => ?_) (AllReadyIn.cons rfl (fun K hK => ?_) (AllReadyIn.nil))
        rw [if_pos (by rfl)]
        go_simp
        refine hK _ _ ?_
        clear hK K
        (try simp only [Act.put, pt8])
        refine wpAnyIn_ready (rs := [6]) (by kernel_rfl) (by simp) ?_
        refine AllReadyIn.cons rfl (fun K hK => ?_) (AllReadyIn.nil)
        rw [if_pos (by rfl)]
        go_simp
        refine hK _ _ ?_
        clear hK K
        (try simp only [Act.put, pt8])
        refine wpAnyIn_ready (rs := [8]) (by kernel_rfl) (by simp) ?_
        refine AllReadyIn.cons rfl (fun K hK => ?_) (AllReadyIn.nil)
        rw [if_pos (by rfl)]
        focus gi_wp2_with (gi_at_call 66; refine (callsIn_wide.2 HAT.out).mono ?_; rintro e X8 ⟨rfl, hb8⟩)
        have HD8 := Lib.hid (chain HDR.out hb8)
        have HJ8 := Lib.hid (HJ.out.own HJ6.out HD8.out)
        obtain ⟨fn, tmps, assign, body, hy, hR⟩ := HYK.out X8 HJ8.out
        dsimp only [encwy] at hy
        (try (refine hK _ _ ?_; clear hK K))
        (try simp only [Act.put, pt8])
        refine wpAnyIn_ready (rs := [9]) (by kernel_rfl) (by simp) ?_
        refine AllReadyIn.cons rfl (fun K hK => ?_) (AllReadyIn.nil)
        rw [if_pos (by rfl)]
        focus gi_wp2_with fail
        refine hR.mono ?_
        rintro e X9 ⟨b9, rfl, hT9, hF9⟩
        (try (refine hK _ _ ?_; clear hK K))
        (try simp only [Act.put, pt8])
        refine wpAnyIn_take (i := 10) (v := ?_) rfl rfl (by kernel_rfl) (by kernel_rfl) (by kernel_rfl) (fun _ _ _ h => h) ⟨Or.inl ⟨by rfl, ?_⟩, fun _ => rfl⟩ ?_
        rotate_left
        · intro w; go_simp; (try with_reducible rfl)
        (try simp only [Act.put, pt8])
        refine wpAnyIn_take (i := 11) (v := ?_) rfl rfl (by kernel_rfl) (by kernel_rfl) (by kernel_rfl) (fun _ _ _ h => h) ⟨Or.inl ⟨by rfl, ?_⟩, fun _ => rfl⟩ ?_
        rotate_left
        · intro w; go_simp; (try with_reducible rfl)
        (try simp only [Act.put, pt8])
        refine wpAnyIn_done (by kernel_rfl) ?_ _
        rotate_left
        rw [if_pos (by rfl)]
        go_simp
        refine hK _ _ ?_
        clear hK K
        (try simp only [Act.put, pt8])
        refine wpAnyIn_ready (rs := [5]) (by kernel_rfl) (by simp) ?_
        refine AllReadyIn.cons rfl (fun K hK => ?_) (AllReadyIn.nil)
        rw [if_pos (by rfl)]
        go_simp
        refine hK _ _ ?_
        clear hK K
        (try simp only [Act.put, pt8])
        refine wpAnyIn_ready (rs := [8]) (by kernel_rfl) (by simp) ?_
        refine AllReadyIn.cons rfl (fun K hK => ?_) (AllReadyIn.nil)
        rw [if_pos (by rfl)]
        focus gi_wp2_with (gi_at_call 66; refine (callsIn_wide.2 HAT.out).mono ?_; rintro e X8 ⟨rfl, hb8⟩)
        have HD8 := Lib.hid (chain HDR.out hb8)
        have HJ8 := Lib.hid (HJ.out.own HJ6.out HD8.out)
        obtain ⟨fn, tmps, assign, body, hy, hR⟩ := HYK.out X8 HJ8.out
        dsimp only [encwy] at hy
        (try (refine hK _ _ ?_; clear hK K))
        (try simp only [Act.put, pt8])
        refine wpAnyIn_ready (rs := [9]) (by kernel_rfl) (by simp) ?_
        refine AllReadyIn.cons rfl (fun K hK => ?_) (AllReadyIn.nil)
        rw [if_pos (by rfl)]
        focus gi_wp2_with fail
        refine hR.mono ?_
        rintro e X9 ⟨b9, rfl, hT9, hF9⟩
        (try (refine hK _ _ ?_; clear hK K))
        (try simp only [Act.put, pt8])
        refine wpAnyIn_take (i := 10) (v := ?_) rfl rfl (by kernel_rfl) (by kernel_rfl) (by kernel_rfl) (fun _ _ _ h => h) ⟨Or.inl ⟨by rfl, ?_⟩, fun _ => rfl⟩ ?_
        rotate_left
        · intro w; go_simp; (try with_reducible rfl)
        (try simp only [Act.put, pt8])
        refine wpAnyIn_take (i := 11) (v := ?_) rfl rfl (by kernel_rfl) (by kernel_rfl) (by kernel_rfl) (fun _ _ _ h => h) ⟨Or.inl ⟨by rfl, ?_⟩, fun _ => rfl⟩ ?_
        rotate_left
        · intro w; go_simp; (try with_reducible rfl)
        (try simp only [Act.put, pt8])
        refine wpAnyIn_done (by kernel_rfl) ?_ _
        rotate_left
        rw [if_pos (by rfl)]
        go_simp
        refine hK _ _ ?_
        clear hK K
        (try simp only [Act.put, pt8])
        refine wpAnyIn_ready (rs := [4, 6]) (by kernel_rfl) (by simp) ?_
        refine AllReadyIn.cons rfl (fun K hK => ?_) (AllReadyIn.cons rfl (fun K hK => ?_) (AllReadyIn.nil))
        rw [if_pos (by rfl)]
        go_simp
        refine hK _ _ ?_
        clear hK K
        (try simp only [Act.put, pt8])
        refine wpAnyIn_ready (rs := [6]) (by kernel_rfl) (by simp) ?_
        refine AllReadyIn.cons rfl (fun K hK => ?_) (AllReadyIn.nil)
        rw [if_pos (by rfl)]
        go_simp
        refine hK _ _ ?_
        clear hK K
        (try simp only [Act.put, pt8])
        refine wpAnyIn_ready (rs := [8]) (by kernel_rfl) (by simp) ?_
        refine AllReadyIn.cons rfl (fun K hK => ?_) (AllReadyIn.nil)
        rw [if_pos (by rfl)]
        focus gi_wp2_with (gi_at_call 66; refine (callsIn_wide.2 HAT.out).mono ?_; rintro e X8 ⟨rfl, hb8⟩)
        have HD8 := Lib.hid (chain HDR.out hb8)
        have HJ8 := Lib.hid (HJ.out.own HJ6.out HD8.out)
        obtain ⟨fn, tmps, assign, body, hy, hR⟩ := HYK.out X8 HJ8.out
        dsimp only [encwy] at hy
        (try (refine hK _ _ ?_; clear hK K))
        (try simp only [Act.put, pt8])
        refine wpAnyIn_ready (rs := [9]) (by kernel_rfl) (by simp) ?_
        refine AllReadyIn.cons rfl (fun K hK => ?_) (AllReadyIn.nil)
        rw [if_pos (by rfl)]
        focus gi_wp2_with fail
        refine hR.mono ?_
        rintro e X9 ⟨b9, rfl, hT9, hF9⟩
        (try (refine hK _ _ ?_; clear hK K))
        (try simp only [Act.put, pt8])
        refine wpAnyIn_take (i := 10) (v := ?_) rfl rfl (by kernel_rfl) (by kernel_rfl) (by kernel_rfl) (fun _ _ _ h => h) ⟨Or.inl ⟨by rfl, ?_⟩, fun _ => rfl⟩ ?_
        rotate_left
        · intro w; go_simp; (try with_reducible rfl)
        (try simp only [Act.put, pt8])
        refine wpAnyIn_take (i := 11) (v := ?_) rfl rfl (by kernel_rfl) (by kernel_rfl) (by kernel_rfl) (fun _ _ _ h => h) ⟨Or.inl ⟨by rfl, ?_⟩, fun _ => rfl⟩ ?_
        rotate_left
        · intro w; go_simp; (try with_reducible rfl)
        (try simp only [Act.put, pt8])
        refine wpAnyIn_done (by kernel_rfl) ?_ _
        rotate_left
        rw [if_pos (by rfl)]
        go_simp
        refine hK _ _ ?_
        clear hK K
        (try simp only [Act.put, pt8])
        refine wpAnyIn_ready (rs := [4, 8]) (by kernel_rfl) (by simp) ?_
        refine AllReadyIn.cons rfl (fun K hK => ?_) (AllReadyIn.cons rfl (fun K hK => ?_) (AllReadyIn.nil))
        rw [if_pos (by rfl)]
        go_simp
        refine hK _ _ ?_
        clear hK K
        (try simp only [Act.put, pt8])
        refine wpAnyIn_ready (rs := [8]) (by kernel_rfl) (by simp) ?_
        refine AllReadyIn.cons rfl (fun K hK => ?_) (AllReadyIn.nil)
        rw [if_pos (by rfl)]
        focus gi_wp2_with (gi_at_call 66; refine (callsIn_wide.2 HAT.out).mono ?_; rintro e X8 ⟨rfl, hb8⟩)
        have HD8 := Lib.hid (chain HDR.out hb8)
        have HJ8 := Lib.hid (HJ.out.own HJ6.out HD8.out)
        obtain ⟨fn, tmps, assign, body, hy, hR⟩ := HYK.out X8 HJ8.out
        dsimp only [encwy] at hy
        (try (refine hK _ _ ?_; clear hK K))
        (try simp only [Act.put, pt8])
        refine wpAnyIn_ready (rs := [9]) (by kernel_rfl) (by simp) ?_
        refine AllReadyIn.cons rfl (fun K hK => ?_) (AllReadyIn.nil)
        rw [if_pos (by rfl)]
        focus gi_wp2_with fail
        refine hR.mono ?_
        rintro e X9 ⟨b9, rfl, hT9, hF9⟩
        (try (refine hK _ _ ?_; clear hK K))
        (try simp only [Act.put, pt8])
        refine wpAnyIn_take (i := 10) (v := ?_) rfl rfl (by kernel_rfl) (by kernel_rfl) (by kernel_rfl) (fun _ _ _ h => h) ⟨Or.inl ⟨by rfl, ?_⟩, fun _ => rfl⟩ ?_
        rotate_left
        · intro w; go_simp; (try with_reducible rfl)
        (try simp only [Act.put, pt8])
        refine wpAnyIn_take (i := 11) (v := ?_) rfl rfl (by kernel_rfl) (by kernel_rfl) (by kernel_rfl) (fun _ _ _ h => h) ⟨Or.inl ⟨by rfl, ?_⟩, fun _ => rfl⟩ ?_
        rotate_left
        · intro w; go_simp; (try with_reducible rfl)
        (try simp only [Act.put, pt8])
        refine wpAnyIn_done (by kernel_rfl) ?_ _
        rotate_left
        rw [if_pos (by rfl)]
        focus gi_wp2_with (gi_at_call 66; refine (callsIn_wide.2 HAT.out).mono ?_; rintro e X8 ⟨rfl, hb8⟩)
        have HD8 := Lib.hid (chain HDR.out hb8)
        have HJ8 := Lib.hid (HJ.out.own HJ6.out HD8.out)
        obtain ⟨fn, tmps, assign, body, hy, hR⟩ := HYK.out X8 HJ8.out
        dsimp only [encwy] at hy
        (try (refine hK _ _ ?_; clear hK K))
        (try simp only [Act.put, pt8])
        refine wpAnyIn_ready (rs := [4]) (by kernel_rfl) (by simp) ?_
        refine AllReadyIn.cons rfl (fun K hK => ?_) (AllReadyIn.nil)
        replace q0 := kc HD8.out q0
        replace q1 := kc HD8.out q1
        rw [if_pos (by rfl)]
        go_simp
        refine hK _ _ ?_
        clear hK K
        (try simp only [Act.put, pt8])
        refine wpAnyIn_ready (rs := [9]) (by kernel_rfl) (by simp) ?_
        refine AllReadyIn.cons rfl (fun K hK => ?_) (AllReadyIn.nil)
        rw [if_pos (by rfl)]
        focus gi_wp2_with fail
        refine hR.mono ?_
        rintro e X9 ⟨b9, rfl, hT9, hF9⟩
        (try (refine hK _ _ ?_; clear hK K))
        (try simp only [Act.put, pt8])
        refine wpAnyIn_take (i := 10) (v := ?_) rfl rfl (by kernel_rfl) (by kernel_rfl) (by kernel_rfl) (fun _ _ _ h => h) ⟨Or.inl ⟨by rfl, ?_⟩, fun _ => rfl⟩ ?_
        rotate_left
        · intro w; go_simp; (try with_reducible rfl)
        (try simp only [Act.put, pt8])
        refine wpAnyIn_take (i := 11) (v := ?_) rfl rfl (by kernel_rfl) (by kernel_rfl) (by kernel_rfl) (fun _ _ _ h => h) ⟨Or.inl ⟨by rfl, ?_⟩, fun _ => rfl⟩ ?_
        rotate_left
        · intro w; go_simp; (try with_reducible rfl)
        (try simp only [Act.put, pt8])
        refine wpAnyIn_done (by kernel_rfl) ?_ _
        rotate_left
        rw [if_pos (by rfl)]
        go_simp
        refine hK _ _ ?_
        clear hK K
        (try simp only [Act.put, pt8])
        refine wpAnyIn_ready (rs := [4, 5]) (by kernel_rfl) (by simp) ?_
        refine AllReadyIn.cons rfl (fun K hK => ?_) (AllReadyIn.cons rfl (fun K hK => ?_) (AllReadyIn.nil))
        rw [if_pos (by rfl)]
        go_simp
        refine hK _ _ ?_
        clear hK K
        (try simp only [Act.put, pt8])
        refine wpAnyIn_ready (rs := [5]) (by kernel_rfl) (by simp) ?_
        refine AllReadyIn.cons rfl (fun K hK => ?_) (AllReadyIn.nil)
        rw [if_pos (by rfl)]
        go_simp
        refine hK _ _ ?_
        clear hK K
        (try simp only [Act.put, pt8])
        refine wpAnyIn_ready (rs := [8]) (by kernel_rfl) (by simp) ?_
        refine AllReadyIn.cons rfl (fun K hK => ?_) (AllReadyIn.nil)
        rw [if_pos (by rfl)]
        focus gi_wp2_with (gi_at_call 66; refine (callsIn_wide.2 HAT.out).mono ?_; rintro e X8 ⟨rfl, hb8⟩)
        have HD8 := Lib.hid (chain HDR.out hb8)
        have HJ8 := Lib.hid (HJ.out.own HJ6.out HD8.out)
        obtain ⟨fn, tmps, assign, body, hy, hR⟩ := HYK.out X8 HJ8.out
        dsimp only [encwy] at hy
        (try (refine hK _ _ ?_; clear hK K))
        (try simp only [Act.put, pt8])
        refine wpAnyIn_ready (rs := [9]) (by kernel_rfl) (by simp) ?_
        refine AllReadyIn.cons rfl (fun K hK => ?_) (AllReadyIn.nil)
        rw [if_pos (by rfl)]
        focus gi_wp2_with fail
        refine hR.mono ?_
        rintro e X9 ⟨b9, rfl, hT9, hF9⟩
        (try (refine hK _ _ ?_; clear hK K))
        (try simp only [Act.put, pt8])
        refine wpAnyIn_take (i := 10) (v := ?_) rfl rfl (by kernel_rfl) (by kernel_rfl) (by kernel_rfl) (fun _ _ _ h => h) ⟨Or.inl ⟨by rfl, ?_⟩, fun _ => rfl⟩ ?_
        rotate_left
        · intro w; go_simp; (try with_reducible rfl)
        (try simp only [Act.put, pt8])
        refine wpAnyIn_take (i := 11) (v := ?_) rfl rfl (by kernel_rfl) (by kernel_rfl) (by kernel_rfl) (fun _ _ _ h => h) ⟨Or.inl ⟨by rfl, ?_⟩, fun _ => rfl⟩ ?_
        rotate_left
        · intro w; go_simp; (try with_reducible rfl)
        (try simp only [Act.put, pt8])
        refine wpAnyIn_done (by kernel_rfl) ?_ _
        rotate_left
        rw [if_pos (by rfl)]
        go_simp
        refine hK _ _ ?_
        clear hK K
        (try simp only [Act.put, pt8])
        refine wpAnyIn_ready (rs := [4, 8]) (by kernel_rfl) (by simp) ?_
        refine AllReadyIn.cons rfl (fun K hK => ?_) (AllReadyIn.cons rfl (fun K hK => ?_) (AllReadyIn.nil))
        rw [if_pos (by rfl)]
        go_simp
        refine hK _ _ ?_
        clear hK K
        (try simp only [Act.put, pt8])
        refine wpAnyIn_ready (rs := [8]) (by kernel_rfl) (by simp) ?_
        refine AllReadyIn.cons rfl (fun K hK => ?_) (AllReadyIn.nil)
        rw [if_pos (by rfl)]
        focus gi_wp2_with (gi_at_call 66; refine (callsIn_wide.2 HAT.out).mono ?_; rintro e X8 ⟨rfl, hb8⟩)
        have HD8 := Lib.hid (chain HDR.out hb8)
        have HJ8 := Lib.hid (HJ.out.own HJ6.out HD8.out)
        obtain ⟨fn, tmps, assign, body, hy, hR⟩ := HYK.out X8 HJ8.out
        dsimp only [encwy] at hy
        (try (refine hK _ _ ?_; clear hK K))
        (try simp only [Act.put, pt8])
        refine wpAnyIn_ready (rs := [9]) (by kernel_rfl) (by simp) ?_
        refine AllReadyIn.cons rfl (fun K hK => ?_) (AllReadyIn.nil)
        rw [if_pos (by rfl)]
        focus gi_wp2_with fail
        refine hR.mono ?_
        rintro e X9 ⟨b9, rfl, hT9, hF9⟩
        (try (refine hK _ _ ?_; clear hK K))
        (try simp only [Act.put, pt8])
        refine wpAnyIn_take (i := 10) (v := ?_) rfl rfl (by kernel_rfl) (by kernel_rfl) (by kernel_rfl) (fun _ _ _ h => h) ⟨Or.inl ⟨by rfl, ?_⟩, fun _ => rfl⟩ ?_
        rotate_left
        · intro w; go_simp; (try with_reducible rfl)
        (try simp only [Act.put, pt8])
        refine wpAnyIn_take (i := 11) (v := ?_) rfl rfl (by kernel_rfl) (by kernel_rfl) (by kernel_rfl) (fun _ _ _ h => h) ⟨Or.inl ⟨by rfl, ?_⟩, fun _ => rfl⟩ ?_
        rotate_left
        · intro w; go_simp; (try with_reducible rfl)
        (try simp only [Act.put, pt8])
        refine wpAnyIn_done (by kernel_rfl) ?_ _
        rotate_left
        rw [if_pos (by rfl)]
        focus gi_wp2_with (gi_at_call 66; refine (callsIn_wide.2 HAT.out).mono ?_; rintro e X8 ⟨rfl, hb8⟩)
        have HD8 := Lib.hid (chain HDR.out hb8)
        have HJ8 := Lib.hid (HJ.out.own HJ6.out HD8.out)
        obtain ⟨fn, tmps, assign, body, hy, hR⟩ := HYK.out X8 HJ8.out
        dsimp only [encwy] at hy
        (try (refine hK _ _ ?_; clear hK K))
        (try simp only [Act.put, pt8])
        refine wpAnyIn_ready (rs := [4]) (by kernel_rfl) (by simp) ?_
        refine AllReadyIn.cons rfl (fun K hK => ?_) (AllReadyIn.nil)
        replace q0 := kc HD8.out q0
        replace q1 := kc HD8.out q1
        rw [if_pos (by rfl)]
        go_simp
        refine hK _ _ ?_
        clear hK K
        (try simp only [Act.put, pt8])
        refine wpAnyIn_ready (rs := [9]) (by kernel_rfl) (by simp) ?_
        refine AllReadyIn.cons rfl (fun K hK => ?_) (AllReadyIn.nil)
        rw [if_pos (by rfl)]
        focus gi_wp2_with fail
        refine hR.mono ?_
        rintro e X9 ⟨b9, rfl, hT9, hF9⟩
        (try (refine hK _ _ ?_; clear hK K))
        (try simp only [Act.put, pt8])
        refine wpAnyIn_take (i := 10) (v := ?_) rfl rfl (by kernel_rfl) (by kernel_rfl) (by kernel_rfl) (fun _ _ _ h => h) ⟨Or.inl ⟨by rfl, ?_⟩, fun _ => rfl⟩ ?_
        rotate_left
        · intro w; go_simp; (try with_reducible rfl)
        (try simp only [Act.put, pt8])
        refine wpAnyIn_take (i := 11) (v := ?_) rfl rfl (by kernel_rfl) (by kernel_rfl) (by kernel_rfl) (fun _ _ _ h => h) ⟨Or.inl ⟨by rfl, ?_⟩, fun _ => rfl⟩ ?_
        rotate_left
        · intro w; go_simp; (try with_reducible rfl)
        (try simp only [Act.put, pt8])
        refine wpAnyIn_done (by kernel_rfl) ?_ _
        rotate_left
        all_goals
          have HF9 := Lib.hid hF9
          have HT9 := Lib.hid hT9
          clear hF9 hT9 hy hR hb8 x0 x1 z0 z1 q0 q1
          cases b9
          · have HX9 := Lib.hid (HF9.out rfl)
            gi_wp2
            refine bodyPost_ret (results_none rfl _ _ _) rfl ?_
            exact ⟨⟨_, rfl⟩, .inr HX9.out⟩
          · have HJ9 := Lib.hid (HT9.out rfl).1
            have HK9 := Lib.hid (HT9.out rfl).2.1
            have HKV9 := Lib.hid ((HT9.out rfl).2.2 (HKO.out _ _ HKV6.out HD8.out))
            have H79 := Lib.hid ((H7.out.below HD8.out H7.out.lt).kr HK9.out (Nat.le_trans HNW.out HG7.out.1) (by decide))
            have HS9 := Lib.hid ((HS6.out.below HD8.out HS6.out.lt).kr HK9.out (Nat.le_trans HNW.out HGS.out) (by decide))
            have HO9 := Lib.hid ((HO7.out.below HD8.out).kr HK9.out HNW.out)
            have HV9 := Lib.hid ((HV6.out.trans (HD8.out.mono (Nat.le_trans HBZ.out HV6.out.size))).trans HK9.out.1)
            have z0 := H79.out.cell 0 _ rfl
            have z1 := H79.out.cell 1 _ rfl
            have u0 := HS9.out.cell 0 _ rfl
            have u1 := HS9.out.cell 1 _ rfl
            have f0 := HS9.out.frozen 0
            have f1 := HS9.out.frozen 1
            obtain ⟨Y1, hY1⟩ : ∃ W, W = (X9.setCell ⟨gs, 0, none⟩ (.slice A5 m5 c5)).setCell ⟨gs, 1, none⟩ (.slice B5 n5 e5) := ⟨_, rfl⟩
            have HSZ9 := Lib.hid (show BoxC Y1 gs 39 #[.slice A5 m5 c5, .slice B5 n5 e5] from by rw [hY1]; exact (HS9.out.set 0 _).set 1 _)
            have HOZ9 := Lib.hid (show OwnSt W.heap.size Y1 (.slice A5 m5 c5) (.slice B5 n5 e5) s5 ps5 from by rw [hY1]; exact (HO9.out.box HS9.out (by decide) (by decide) (by decide) 0 _).box (HS9.out.set 0 _) (by decide) (by decide) (by decide) 1 _)
            have HVZ9 := Lib.hid (show Below B W Y1 from by rw [hY1]; exact (HV9.out.setCell (p := ⟨gs, 0, none⟩) (Nat.le_trans HBZ.out HGS.out) _).setCell (p := ⟨gs, 1, none⟩) (Nat.le_trans HBZ.out HGS.out) _)
            have HGZ9 := Lib.hid (show BoxC Y1 gp 25 #[.slice P0 P.init.length d0, .slice P1 P.ths.length d1] from by rw [hY1]; exact (((HGW6.out.below HD8.out HGW6.out.lt).kr HK9.out HG2.out (by decide)).other (Nat.ne_of_lt (Nat.lt_of_lt_of_le HLT.out HGS.out)) 0 _).other (Nat.ne_of_lt (Nat.lt_of_lt_of_le HLT.out HGS.out)) 1 _)
            have HJZ9 := Lib.hid (show J (k + 1) Y1 from by
              rw [hY1]
              have h1 := HJ.out (k + 1) _ _ (some gs) HJ9.out (grown_set X9 gs 0 (.slice A5 m5 c5)) (fun r e => by cases e; exact ⟨HGS.out, _, HS9.out, .inr ⟨_, _, rfl⟩⟩)
              exact HJ.out (k + 1) _ _ (some gs) h1 (grown_set _ gs 1 (.slice B5 n5 e5)) (fun r e => by cases e; exact ⟨HGS.out, _, HS9.out.set 0 _, .inr ⟨_, _, rfl⟩⟩))
            have HKZ9 := Lib.hid (show KV Y1 from by
              rw [hY1]
              have h1 := HK1.out 0 _ _ (some gs) HKV9.out (grown_set X9 gs 0 (.slice A5 m5 c5)) (fun r e => by cases e; exact ⟨Nat.le_trans HN3.out HGS.out, _, HS9.out, .inr ⟨_, _, _, rfl, by decide⟩⟩)
              exact HK1.out 0 _ _ (some gs) h1 (grown_set _ gs 1 (.slice B5 n5 e5)) (fun r e => by cases e; exact ⟨Nat.le_trans HN3.out HGS.out, _, HS9.out.set 0 _, .inr ⟨_, _, _, rfl, by decide⟩⟩))
            have HYW := Lib.hid hY1
            clear hY1
            gi_wp2
            rw [← HYW.out]
            go_roundw
            case rel => exact ⟨⟨k + 1, s5, _, _, ps5, by omega, by go_num, HNX.out, HJZ9.out, HSZ9.out, HOZ9.out, HVZ9.out, HGZ9.out⟩, HKZ9.out⟩
            case measure => simp [intOf]; omega

    · obtain rfl : l.length = k := by omega
      have HE := Lib.hid (wys_all P HRUN.out)
      gi_wp2
      go_end0
      exact ⟨⟨_, rfl⟩, .inl (by rw [HE.out]; exact HJK.out)⟩
end Go.Proofs.YtlpjgaeelnlipaaGreat
