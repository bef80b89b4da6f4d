/-
  THE SEARCH: how it begins.
  tso.able: the picks that can be done, one by one, for every loop body.
-/
import Derived.Test.YtbffjhdocicfoaaEyR
import Derived.RangeFuncNested
import Derived.RangeFuncBound
import Derived.RangeFuncCalls
import Derived.RangeFuncLeaves
import Derived.RangeFuncBox
import Derived.Shelf.Abstract
import Derived.WalkKit
import Derived.OwnWalkIn
import Derived.TacticsInMore
import Derived.LoopNIn
import Derived.LoopIn
import Derived.Maps.OwnIn
import Derived.Test.YtbffjhdocicfoaaK15
import Derived.Test.YtbffjhdocicfoaaK27
import Derived.Test.YtbffjhdocicfoaaK19
set_option linter.unusedVariables false
set_option linter.unusedSimpArgs false
namespace Go.Proofs.Ytbffjhdocicfoaa
open Go.RowKit Go.WideMaps
set_option linter.unusedVariables false
set_option linter.unusedSimpArgs false
open CodM (St Pg rightP hReg hLoc)
open BfM (Wr plc)
open NumM (inR)
open ScM EnM ExM ExN ExP EyP

/-- What begin hands back: a search that has reached the first state alone. -/
def BgRet (P : Pg) (wk : Bool) (pi pt : Value) (w : World) (e : Ending) (w' : World) : Prop := ∃ g mb vr x, e = .returned (.pointer (some ⟨g, 0, none⟩)) ∧ x.n = ⟨beg P, 0, (0, false)⟩ ∧ SrB w.heap.size g mb wk pi pt [x] vr w' ∧ Below w.heap.size w w'
set_option maxHeartbeats 8000000 in
set_option maxRecDepth 100000 in
theorem xbegin_any {B : Nat} {wk : Bool} {pi pt : Value} {P : Pg} (w : World) (hv : PgZ B w (.agg #[pi, pt]) P) (hBB : B ≤ w.heap.size) (hp : rightP P = true) (hin : InP P) :
    Calls Try.prog 24 #[.agg #[pi, pt], .bool wk] w (BgRet P wk pi pt w) := by
  have HBG := Lib.hid (fun (W : World) (hW : Below w.heap.size w W) => sbegin_any W ((hv.below (hW.mono hBB)).more (Nat.le_trans hBB hW.size)) (Nat.le_refl _) hp)
  have HRD := Lib.hid (leads_rd hp hin (wk := wk) (.nil : ExM.Leads (nx P wk) (beg P) [] (beg P)))
  obtain ⟨pi', pt', e3, hpm, -⟩ := hv
  injection e3 with e3
  obtain ⟨rfl, rfl⟩ : pi = pi' ∧ pt = pt' := by simpa using e3
  obtain ⟨⟨P0, d0, rfl, -⟩, ⟨P1, d1, rfl, -⟩⟩ := hpm
  clear e3 hp hin
  have hmm := @run_makeMap Try.prog
  go_enter Try.func24, Try.ntmps24
  go_upto_region 2 with fail
  clear hmm
  obtain ⟨W1, hW1⟩ : ∃ W, W = ((w.alloc (.cells #[.slice P0 P.init.length d0, .slice P1 P.ths.length d1] 25)).alloc (.map #[] 0)).alloc (.cells #[.slice P0 P.init.length d0, .slice P1 P.ths.length d1, .bool wk, .slice none 0 0, .map (some (w.heap.size + 1))] 59) := ⟨_, rfl⟩
  obtain ⟨gp, hgp⟩ : ∃ x, x = w.heap.size := ⟨_, rfl⟩
  obtain ⟨gm, hgm⟩ : ∃ x, x = w.heap.size + 1 := ⟨_, rfl⟩
  obtain ⟨g, hg⟩ : ∃ x, x = w.heap.size + 1 + 1 := ⟨_, rfl⟩
  have HPB := Lib.hid (show BoxC W1 gp 25 #[.slice P0 P.init.length d0, .slice P1 P.ths.length d1] from by rw [hW1, hgp]; exact ((BoxC.new w _ _).alloc _).alloc _)
  have HB1 := Lib.hid (show Below w.heap.size w W1 from by rw [hW1]; exact below_al (below_al (below_al (Below.refl _ _) _) _) _)
  have HSR := Lib.hid (show SrB w.heap.size g gm wk (.slice P0 P.init.length d0) (.slice P1 P.ths.length d1) [] (.slice none 0 0) W1 from by
    rw [hW1, hg, hgm]
    refine ⟨?_, World.ownsRow_nil _ _ _ _, fun y hy => (by cases hy), ?_, by omega⟩
    · have := BoxC.new ((w.alloc (.cells #[.slice P0 P.init.length d0, .slice P1 P.ths.length d1] 25)).alloc (.map #[] 0)) 59 #[.slice P0 P.init.length d0, .slice P1 P.ths.length d1, .bool wk, .slice none 0 0, .map (some (w.heap.size + 1))]
      rw [World.size_alloc, World.size_alloc] at this; exact this
    · have := MapK.made (w.alloc (.cells #[.slice P0 P.init.length d0, .slice P1 P.ths.length d1] 25))
      rw [World.size_alloc] at this
      refine ((this.heap ((below_al (Below.refl _ _) _).block _ (by simp))).mono (Nat.le_refl _) fun s => ?_)
      unfold keyed; simp)
  rw [← hW1]
  (try rw [← hg])
  (try rw [← hgm])
  (try rw [← hgp])
  clear hW1 hgp hgm hg
  have x0 := HPB.out.cell 0 (.slice P0 P.init.length d0) rfl
  have x1 := HPB.out.cell 1 (.slice P1 P.ths.length d1) rfl
  go_wp2_with fail
  refine (HBG.out _ HB1.out).mono ?_
  rintro e V ⟨vm, vt, ps, rfl, hos, hb⟩
  obtain ⟨A3, c3, rfl⟩ := own_slice hos.mem
  obtain ⟨A4, c4, rfl⟩ := own_slice hos.ths
  have HOS := Lib.hid (show RvOk w.heap.size V ⟨⟨beg P, 0, (0, false)⟩, .slice A3 (beg P).mem.length c3, .slice A4 (beg P).ths.length c4⟩ from ⟨ps, hos.base HB1.out.size⟩)
  have HSV := Lib.hid (HSR.out.below hb)
  have HBV := Lib.hid (chain HB1.out hb)
  have HMT := Lib.hid (xmeet_any ⟨⟨beg P, 0, (0, false)⟩, .slice A3 (beg P).mem.length c3, .slice A4 (beg P).ths.length c4⟩ V HSV.out HOS.out HBV.out.size HRD.out.nums HRD.out.len (fun y hy => (by cases hy)) (by simp))
  clear hos hb x0 x1
  go_wp2_with fail
  refine HMT.out.mono ?_
  rintro e V2 ⟨rfl, vr, hs, hk⟩
  have HS2 := Lib.hid (show SrB w.heap.size g gm wk (.slice P0 P.init.length d0) (.slice P1 P.ths.length d1) [⟨⟨beg P, 0, (0, false)⟩, .slice A3 (beg P).mem.length c3, .slice A4 (beg P).ths.length c4⟩] vr V2 from hs)
  have HB2 := Lib.hid (HBV.out.trans (hk.below HBV.out.size))
  clear hs hk
  go_wp2
  go_ret
  exact ⟨g, gm, vr, _, rfl, rfl, HS2.out, HB2.out⟩
end Go.Proofs.Ytbffjhdocicfoaa
namespace Go.Proofs.Ytbffjhdocicfoaa
open Go.RowKit Go.Shelf
set_option linter.unusedVariables false
set_option linter.unusedSimpArgs false
attribute [local go_sem] Oper.semAt_some
open CodM (St Pg rightP)
open ScM

abbrev encp (x : Nat × Bool) : Array Value := #[.agg #[.int .i64 (x.1 : Int), .bool x.2]]
/-- What a round keeps: whatever lay below n₀, and the two blocks, where they hold cells. -/
def KpD (n₀ g1 g2 : Nat) (W W' : World) : Prop := KpS n₀ g1 W W' ∧ KpS n₀ g2 W W'
theorem KpD.t {n₀ g1 g2 : Nat} {A B C : World} (h : KpD n₀ g1 g2 A B) (k : KpD n₀ g1 g2 B C) : KpD n₀ g1 g2 A C := ⟨h.1.t k.1, h.2.t k.2⟩
theorem KpD.b {n₀ g1 g2 : Nat} {w : World} (hn : n₀ ≤ w.heap.size) (W : World) (l : Nat) (o o' : Obj) (hl : w.heap.size ≤ l) (h : W.heap[l]? = some o) (hc : o.isCells = false) (hw : o.isWalk = false) : KpD n₀ g1 g2 W (W.putObj l o') :=
  ⟨KpS.b hn W l o o' hl h hc hw, KpS.b hn W l o o' hl h hc hw⟩
theorem KpD.grown {n₀ g1 g2 : Nat} {W W' : World} {row : Option Nat} (hn : n₀ ≤ W.heap.size) (hg : W.grownBy W' row) (hr : ∀ r, row = some r → n₀ ≤ r ∧ r ≠ g1 ∧ r ≠ g2) : KpD n₀ g1 g2 W W' :=
  ⟨KpS.grown hn hg (fun r e => ⟨(hr r e).1, (hr r e).2.1⟩), KpS.grown hn hg (fun r e => ⟨(hr r e).1, (hr r e).2.2⟩)⟩
theorem KpS.box {n₀ g : Nat} {W W' : World} {T : TypeId} {cs : Array Value} (h : KpS n₀ g W W') (hb : BoxC W g T cs) : BoxC W' g T cs := h.2 _ hb rfl
theorem grown_of_below {w w' : World} (h : Below w.heap.size w w') : w.grownBy w' none := ⟨h.os, h.tape, h.output, h.size, fun k hk _ => h.block k hk⟩
/-- The picks of the first j threads, and of the next one the first i. -/
def pkA (P : Pg) (s : Sta) (j i : Nat) : List (Nat × Bool) := pkN P s j ++ ((if 0 < i then cnd P s j false else []) ++ (if 1 < i then cnd P s j true else []))
theorem pkA_zero (P : Pg) (s : Sta) (j : Nat) : pkA P s j 0 = pkN P s j := by simp [pkA]
theorem pkA_one (P : Pg) (s : Sta) (j : Nat) : pkA P s j 1 = pkA P s j 0 ++ cnd P s j false := by simp [pkA]
theorem pkA_two (P : Pg) (s : Sta) (j : Nat) : pkA P s j 2 = pkA P s j 1 ++ cnd P s j true := by simp [pkA]
theorem pkA_end (P : Pg) (s : Sta) (j : Nat) : pkA P s j 2 = pkN P s (j + 1) := by rw [pkN_next]; simp [pkA]
theorem pkN_pre (P : Pg) (s : Sta) {j n : Nat} (h : j ≤ n) : pkN P s j <+: pkN P s n := by
  obtain ⟨d, rfl⟩ : ∃ d, n = j + d := ⟨n - j, by omega⟩
  clear h
  induction d with
  | zero => exact List.prefix_refl _
  | succ d ih => rw [show j + (d + 1) = (j + d) + 1 by omega, pkN_next]; exact ih.trans (List.prefix_append _ _)
theorem pkA_pre (P : Pg) (s : Sta) {j n i : Nat} (h : j < n) (hi : i ≤ 2) : pkA P s j i <+: pkN P s n := by
  have h2 : pkA P s j i <+: pkA P s j 2 := by
    match i, hi with
    | 0, _ => rw [pkA_two, pkA_one, List.append_assoc]; exact List.prefix_append _ _
    | 1, _ => rw [pkA_two]; exact List.prefix_append _ _
    | 2, _ => exact List.prefix_refl _
  rw [pkA_end] at h2
  exact h2.trans (pkN_pre P s h)
theorem ix0 (w : World) : (Instr.index 115 (.agg #[.bool false, .bool true]) (.int .i64 0)).run Try.prog w = .ok (.bool false) w := by kernel_rfl
theorem ix1 (w : World) : (Instr.index 115 (.agg #[.bool false, .bool true]) (.int .i64 1)).run Try.prog w = .ok (.bool true) w := by kernel_rfl
def AbR (P : Pg) (s : Sta) (J : List (Nat × Bool) → World → Prop) (n₀ gp gs : Nat) (cp cs : Array Value) (W : World) (i : Value) (wr : World) : Prop :=
  ∃ j : Nat, j ≤ s.ths.length ∧ i = .int .i64 j ∧ J (pkN P s j) wr ∧ Below n₀ W wr ∧ BoxC wr gp 25 cp ∧ BoxC wr gs 62 cs
def AbR2 (P : Pg) (s : Sta) (j : Nat) (J : List (Nat × Bool) → World → Prop) (n₀ gp gs : Nat) (cp cs : Array Value) (W : World) (i : Value) (wr : World) : Prop :=
  ∃ q : Nat, q ≤ 2 ∧ i = .int .i64 q ∧ J (pkA P s j q) wr ∧ Below n₀ W wr ∧ BoxC wr gp 25 cp ∧ BoxC wr gs 62 cs
set_option maxRecDepth 100000 in
set_option maxHeartbeats 8000000 in
theorem able1_in (n : Nat) (hn : 2 ≤ n) (l n₀ n₁ gp gs : Nat) {vi vt um ut : Value} {P : Pg} {s : Sta} (J Jx : List (Nat × Bool) → World → Prop)
    (hJ : AbidesFrom n₁ J)
    (hY : ∀ pre x W, J pre W → pre.length < (pks P s).length → YieldAt Fence.wide (n - 1) Try.prog l (encp x) W fun e W' =>
      (e = .returned (.bool true) ∧ J (pre ++ [x]) W' ∧ KpD n₀ gp gs W W') ∨ (e = .returned (.bool false) ∧ Jx (pre ++ [x]) W'))
    (W : World) (hn₀ : n₀ ≤ W.heap.size) (hv : PgM n₀ W vi vt P) (hu : StaM n₀ W um ut s) (ho : OkSt P s)
    (bp : BoxC W gp 25 #[vi, vt]) (bs : BoxC W gs 62 #[um, ut]) (h0 : J [] W) :
    CallsIn Fence.wide n Try.prog 62 #[.func (.yield l) #[] #[], .pointer (some ⟨gp, 0, none⟩), .pointer (some ⟨gs, 0, none⟩)] W fun e W' => (∃ v, e = .returned v) ∧
      ((∃ ys : List (Nat × Bool), ys = pks P s ∧ J ys W') ∨ (∃ pre : List (Nat × Bool), pre <+: pks P s ∧ Jx pre W')) := by
  have h1 : 1 ≤ n := by omega
  have hix0 := ix0
  have hix1 := ix1
  have HJ := Lib.hid hJ
  have HY := Lib.hid hY
  have HCAN := Lib.hid (fun (t : Int) (d : Bool) (X : World) (hX : Below n₀ W X) (hs : n₀ ≤ X.heap.size) => callsIn_wide (n := n - 1).2 (tcan_any t d X (show PgV X.heap.size X (.agg #[vi, vt]) P from ⟨_, _, rfl, (hv.below hX).more hs⟩) (show StaV X.heap.size X (.agg #[um, ut]) s from ⟨_, _, rfl, (hu.below hX).more hs⟩) (Nat.le_refl _) ho))
  have HTL := Lib.hid ho.ths
  have HPN := Lib.hid (fun j (hj : j < s.ths.length) q (hq : q ≤ 2) => pkA_pre P s hj hq)
  have hths : (0 : Nat) ≤ 1 := by omega
  obtain ⟨⟨P0, d0, rfl, -⟩, ⟨P1, d1, rfl, l1, l2, -⟩⟩ := hv
  obtain ⟨⟨A7, c7, rfl, -⟩, ⟨A1, c1, rfl, m1, m2, -⟩⟩ := hu
  unfold maxLen at l2 m2
  have x1 := bp.cell 1 _ rfl
  rw [← ho.ths] at l1
  have HP1 := Lib.hid (show P.ths.length = s.ths.length from ho.ths.symm)
  rw [HP1.out] at bp x1 HCAN
  clear hJ hY ho hths
  refine callsIn_of_wp Try.func62 rfl trivial ?_ rfl
  simp only [Try.ntmps62, List.size_toArray, List.length_cons, List.length_nil, Nat.reduceAdd, Nat.reduceSub, Array.replicate_succ, Array.replicate_zero, List.push_toArray, List.append_toArray, List.nil_append, List.cons_append]
  gi_wp2
  gi_loopw [11] (fun i wr => AbR P s J n₀ gp gs #[.slice P0 P.init.length d0, .slice P1 s.ths.length d1] #[.slice A7 s.mem.length c7, .slice A1 s.ths.length c1] W i wr) (fun i _ => s.ths.length - (intOf i).toNat)
  case atStart => exact ⟨0, Nat.zero_le _, rfl, h0, Below.refl _ _, bp, bs⟩
  case round =>
    obtain ⟨j, hj, rfl, hJs, hB, hbp, hbs⟩ := hrel
    by_cases hlt : j < s.ths.length
    · have hB0 := hB
      gi_wp2
      gi_loopw [15] (fun i wr => AbR2 P s j J n₀ gp gs #[.slice P0 P.init.length d0, .slice P1 s.ths.length d1] #[.slice A7 s.mem.length c7, .slice A1 s.ths.length c1] W i wr) (fun i _ => 2 - (intOf i).toNat)
      case atStart => exact ⟨0, by omega, rfl, by rw [pkA_zero]; exact hJs, hB, hbp, hbs⟩
      case round =>
        clear hJs hB hbp hbs hB0
        obtain ⟨q, hq, rfl, hJs, hB, hbp, hbs⟩ := hrel
        by_cases hq0 : q = 0
        · subst hq0
          have hwz := Nat.le_trans hn₀ hB.size
          have HCN := Lib.hid (HCAN.out (j : Int) false (wr.alloc (.cells #[.int .i64 (j : Int), .bool false] 76)) (hB.alloc hwz _) (by rw [World.size_alloc]; omega))
          have ha := World.grownBy_alloc wr (.cells #[.int .i64 (j : Int), .bool false] 76) none
          have HE := Lib.hid (BoxC.new wr 76 #[.int .i64 (j : Int), .bool false])
          have HNX := Lib.hid (pkA_one P s j)
          have HPR := Lib.hid (HPN.out j hlt 1 (by omega))
          have p0 := (hbp.alloc (.cells #[.int .i64 (j : Int), .bool false] 76)).cell 0 _ rfl
          have p1 := (hbp.alloc (.cells #[.int .i64 (j : Int), .bool false] 76)).cell 1 _ rfl
          have s0 := (hbs.alloc (.cells #[.int .i64 (j : Int), .bool false] 76)).cell 0 _ rfl
          have s1 := (hbs.alloc (.cells #[.int .i64 (j : Int), .bool false] 76)).cell 1 _ rfl
          cases htt : (tst P s (j : Int) false).isSome
          case false =>
            rw [htt] at HCN
            have HC0 := Lib.hid (show cnd P s j false = [] from by unfold cnd; rw [htt]; rfl)
            clear htt
            gi_wp2_with (refine ⟨trivial, HCN.out.mono ?_⟩; rintro e w3 ⟨rfl, hb3⟩)
            refine ⟨fun f h => (by cases h), ?_⟩
            have hg := ha.trans (grown_of_below hb3)
            have hJ3 := HJ.out _ _ _ none hJs hg (fun r e => by cases e)
            gi_wp2
            go_roundw
            case rel => exact ⟨1, by omega, by go_num, by rw [HNX.out, HC0.out, List.append_nil]; exact hJ3, hB.grown hg hwz (fun r e => by cases e), hbp.below (below_al (Below.refl wr.heap.size wr) _ |>.trans (hb3.mono (by simp))) hbp.lt, hbs.below (below_al (Below.refl wr.heap.size wr) _ |>.trans (hb3.mono (by simp))) hbs.lt⟩
            case measure => simp [intOf]
          case true =>
            rw [htt] at HCN
            have HC0 := Lib.hid (show cnd P s j false = [(j, false)] from by unfold cnd; rw [htt]; rfl)
            rw [HNX.out, HC0.out] at HPR
            have hnl : (pkA P s j 0).length < (pks P s).length := by
              have := HPR.out.length_le
              rw [List.length_append] at this
              exact this
            clear htt
            gi_wp2_with (refine ⟨trivial, HCN.out.mono ?_⟩; rintro e w3 ⟨rfl, hb3⟩; have hg := ha.trans (grown_of_below hb3); have e0 := (HE.out.below hb3 HE.out.lt).cell 0 _ rfl; have e1 := (HE.out.below hb3 HE.out.lt).cell 1 _ rfl; have hJ3 := HJ.out _ _ _ none hJs hg (fun r e => by cases e); obtain ⟨fn, tmps, assign, body, hy, hR⟩ := HY.out _ (j, false) w3 hJ3 hnl; dsimp only [encp] at hy)
            refine hR.mono ?_
            rintro e W4 (⟨rfl, hJ4, hk4⟩ | ⟨rfl, hJx4⟩)
            · have hkd : KpD n₀ gp gs wr w3 := KpD.grown (by omega) hg (fun r e => by cases e)
              gi_wp2
              go_roundw
              case rel => exact ⟨1, by omega, by go_num, by rw [HNX.out, HC0.out]; exact hJ4, hB.trans (hkd.t hk4).1.1, (hkd.t hk4).1.box hbp, (hkd.t hk4).2.box hbs⟩
              case measure => simp [intOf]
            · gi_wp2
              refine bodyPost_ret (results_none rfl _ _ _) rfl ?_
              exact ⟨⟨_, rfl⟩, .inr ⟨_, HPR.out, hJx4⟩⟩
        by_cases hq1 : q = 1
        · subst hq1
          have hwz := Nat.le_trans hn₀ hB.size
          have HCN := Lib.hid (HCAN.out (j : Int) true (wr.alloc (.cells #[.int .i64 (j : Int), .bool true] 76)) (hB.alloc hwz _) (by rw [World.size_alloc]; omega))
          have ha := World.grownBy_alloc wr (.cells #[.int .i64 (j : Int), .bool true] 76) none
          have HE := Lib.hid (BoxC.new wr 76 #[.int .i64 (j : Int), .bool true])
          have HNX := Lib.hid (pkA_two P s j)
          have HPR := Lib.hid (HPN.out j hlt 2 (by omega))
          have p0 := (hbp.alloc (.cells #[.int .i64 (j : Int), .bool true] 76)).cell 0 _ rfl
          have p1 := (hbp.alloc (.cells #[.int .i64 (j : Int), .bool true] 76)).cell 1 _ rfl
          have s0 := (hbs.alloc (.cells #[.int .i64 (j : Int), .bool true] 76)).cell 0 _ rfl
          have s1 := (hbs.alloc (.cells #[.int .i64 (j : Int), .bool true] 76)).cell 1 _ rfl
          cases htt : (tst P s (j : Int) true).isSome
          case false =>
            rw [htt] at HCN
            have HC0 := Lib.hid (show cnd P s j true = [] from by unfold cnd; rw [htt]; rfl)
            clear htt
            gi_wp2_with (refine ⟨trivial, HCN.out.mono ?_⟩; rintro e w3 ⟨rfl, hb3⟩)
            refine ⟨fun f h => (by cases h), ?_⟩
            have hg := ha.trans (grown_of_below hb3)
            have hJ3 := HJ.out _ _ _ none hJs hg (fun r e => by cases e)
            gi_wp2
            go_roundw
            case rel => exact ⟨2, by omega, by go_num, by rw [HNX.out, HC0.out, List.append_nil]; exact hJ3, hB.grown hg hwz (fun r e => by cases e), hbp.below (below_al (Below.refl wr.heap.size wr) _ |>.trans (hb3.mono (by simp))) hbp.lt, hbs.below (below_al (Below.refl wr.heap.size wr) _ |>.trans (hb3.mono (by simp))) hbs.lt⟩
            case measure => simp [intOf]
          case true =>
            rw [htt] at HCN
            have HC0 := Lib.hid (show cnd P s j true = [(j, true)] from by unfold cnd; rw [htt]; rfl)
            rw [HNX.out, HC0.out] at HPR
            have hnl : (pkA P s j 1).length < (pks P s).length := by
              have := HPR.out.length_le
              rw [List.length_append] at this
              exact this
            clear htt
            gi_wp2_with (refine ⟨trivial, HCN.out.mono ?_⟩; rintro e w3 ⟨rfl, hb3⟩; have hg := ha.trans (grown_of_below hb3); have e0 := (HE.out.below hb3 HE.out.lt).cell 0 _ rfl; have e1 := (HE.out.below hb3 HE.out.lt).cell 1 _ rfl; have hJ3 := HJ.out _ _ _ none hJs hg (fun r e => by cases e); obtain ⟨fn, tmps, assign, body, hy, hR⟩ := HY.out _ (j, true) w3 hJ3 hnl; dsimp only [encp] at hy)
            refine hR.mono ?_
            rintro e W4 (⟨rfl, hJ4, hk4⟩ | ⟨rfl, hJx4⟩)
            · have hkd : KpD n₀ gp gs wr w3 := KpD.grown (by omega) hg (fun r e => by cases e)
              gi_wp2
              go_roundw
              case rel => exact ⟨2, by omega, by go_num, by rw [HNX.out, HC0.out]; exact hJ4, hB.trans (hkd.t hk4).1.1, (hkd.t hk4).1.box hbp, (hkd.t hk4).2.box hbs⟩
              case measure => simp [intOf]
            · gi_wp2
              refine bodyPost_ret (results_none rfl _ _ _) rfl ?_
              exact ⟨⟨_, rfl⟩, .inr ⟨_, HPR.out, hJx4⟩⟩
        obtain rfl : q = 2 := by omega
        rw [pkA_end] at hJs
        gi_wp2
        go_roundw
        case rel => exact ⟨j + 1, by omega, by go_num, hJs, hB, hbp, hbs⟩
        case measure => simp [intOf]; omega
    · obtain rfl : s.ths.length = j := by omega
      gi_wp2
      go_end0
      exact ⟨⟨_, rfl⟩, .inl ⟨_, rfl, hJs⟩⟩
/-- What a loop over them is handed. -/
theorem able_stops (n : Nat) (hn : 2 ≤ n) (n₀ gp gs : Nat) {vi vt um ut : Value} {P : Pg} {s : Sta} (w : World) (hn₀ : n₀ ≤ w.heap.size) (hv : PgM n₀ w vi vt P) (hu : StaM n₀ w um ut s) (ho : OkSt P s)
    (bp : BoxC w gp 25 #[vi, vt]) (bs : BoxC w gs 62 #[um, ut]) :
    SeqStopsK Fence.wide n Try.prog 62 #[.pointer (some ⟨gp, 0, none⟩), .pointer (some ⟨gs, 0, none⟩)] encp (KpD n₀ gp gs) (fun ys => ys = pks P s) (fun pre => pre <+: pks P s) (pks P s).length w :=
  fun l J Jx W hW hJ _ hY h0 => able1_in n hn l n₀ W.heap.size gp gs J Jx hJ hY W (Nat.le_trans hn₀ hW.size) (hv.below (hW.mono hn₀)) (hu.below (hW.mono hn₀)) ho (bp.below hW bp.lt) (bs.below hW bs.lt) h0
set_option maxHeartbeats 1000000 in
theorem able_in (n : Nat) (A0 : Option Addr) (n0 c0 : Nat) (A1 : Option Addr) (n1 c1 : Nat) (A2 : Option Addr) (n2 c2 : Nat) (A3 : Option Addr) (n3 c3 : Nat) (w : World) :
    CallsIn Fence.wide n Try.prog 48 #[.agg #[.slice A0 n0 c0, .slice A1 n1 c1], .agg #[.slice A2 n2 c2, .slice A3 n3 c3]] w fun e w' => e = .returned (.func (.func 62) #[] #[.pointer (some ⟨w.heap.size, 0, none⟩), .pointer (some ⟨w.heap.size + 1, 0, none⟩)]) ∧
      w' = (w.alloc (.cells #[.slice A0 n0 c0, .slice A1 n1 c1] 25)).alloc (.cells #[.slice A2 n2 c2, .slice A3 n3 c3] 62) := by
  refine callsIn_of_wp Try.func48 rfl trivial ?_ rfl
  simp only [Try.ntmps48, List.size_toArray, List.length_cons, List.length_nil, Nat.reduceAdd, Nat.reduceSub, Array.replicate_succ, Array.replicate_zero, List.push_toArray, List.append_toArray, List.nil_append, List.cons_append]
  gi_wp2
  go_ret
  exact ⟨rfl, rfl⟩
theorem own_none {w : World} {b T s n : Nat} {v : Value} {xs : List Value} (h : w.ownsRow b T s v n xs) {r : Nat} (e : v.ownBlock = some r) : b ≤ r ∧ ∃ cur, w.heap[r]? = some (.cells cur T (0, 0)) := by
  rcases h.2 with ⟨rfl, _⟩ | ⟨g, cap, cur, rfl, hbg, hg, _⟩
  · cases e
  · injection e with e
    have e : g = r := e
    subst e
    exact ⟨hbg, cur, hg⟩
theorem cell_two_new (W : World) (a b : Value) (T : TypeId) : ∀ j u, [a, b][j]? = some u → (W.alloc (.cells #[a, b] T)).cell? ((⟨W.heap.size, 0, none⟩ : Addr).add j) = some u := fun j u h => by
  have hb := BoxC.new W T #[a, b]
  match j, h with
  | 0, h => exact hb.cell 0 _ (by simpa using h)
  | 1, h => exact hb.cell 1 _ (by simpa using h)
  | j + 2, h => simp at h
set_option maxRecDepth 100000 in
set_option maxHeartbeats 8000000 in
theorem tpicks_any {B : Nat} {v u : Value} {P : Pg} {s : Sta} (w : World) (hv : PgV B w v P) (hu : StaV B w u s) (hBB : B ≤ w.heap.size) (ho : OkSt P s) (hw : s.ths.length ≤ 9) :
    Calls Try.prog 37 #[v, u] w fun e w' => ∃ x, e = .returned x ∧ OwnK w.heap.size w' x (pks P s) ∧ Below w.heap.size w w' := by
  obtain ⟨pi, pt, rfl, hpm⟩ := hv
  obtain ⟨um, ut, rfl, hum⟩ := hu
  have HPM := Lib.hid (fun W (hW : Below w.heap.size w W) => (hpm.below (hW.mono hBB)).more hBB)
  have HUM := Lib.hid (fun W (hW : Below w.heap.size w W) => (hum.below (hW.mono hBB)).more hBB)
  have HO := Lib.hid ho
  have HLEN := Lib.hid (show (pks P s).length ≤ 18 from by have := pkN_len P s s.ths.length; unfold pks; omega)
  obtain ⟨⟨P0, d0, rfl, -⟩, ⟨P1, d1, rfl, -⟩⟩ := hpm
  obtain ⟨⟨A7, c7, rfl, -⟩, ⟨A1, c1, rfl, -⟩⟩ := hum
  obtain ⟨i0, hi, hz0, hz1, hz2⟩ := info_parts info_pk
  refine callsIn_wide (n := 10).1 ?_
  refine callsIn_of_wp_marks Try.func37 rfl trivial ?_ rfl
  simp only [Try.ntmps37, List.size_toArray, List.length_cons, List.length_nil, Nat.reduceAdd, Nat.reduceSub, Array.replicate_succ, Array.replicate_zero, List.push_toArray, List.append_toArray, List.nil_append, List.cons_append]
  gi_wp2_with (refine ⟨trivial, (able_in _ _ _ _ _ _ _ _ _ _ _ _ _ _).mono ?_⟩; rintro e w' ⟨rfl, rfl⟩)
  obtain ⟨W0, hW0⟩ : ∃ W, W = ((w.alloc (.cells #[.slice P0 P.init.length d0, .slice P1 P.ths.length d1] 25)).alloc (.cells #[.slice A7 s.mem.length c7, .slice A1 s.ths.length c1] 62)) := ⟨_, rfl⟩
  have hs0 : W0.heap.size = w.heap.size + 1 + 1 := by rw [hW0]; simp
  have hB0 : Below w.heap.size w W0 := by rw [hW0]; exact below_al (below_al (Below.refl _ w) _) _
  rw [← hW0]
  clear hW0
  have b5 := ((Boxed.new W0 36 (.slice none 0 0)).alloc (.cells #[.slice P0 P.init.length d0, .slice P1 P.ths.length d1] 25)).alloc (.cells #[.slice A7 s.mem.length c7, .slice A1 s.ths.length c1] 62)
  have bA := (BoxC.new (W0.alloc (.cells #[.slice none 0 0] 36)) 25 #[.slice P0 P.init.length d0, .slice P1 P.ths.length d1]).alloc (.cells #[.slice A7 s.mem.length c7, .slice A1 s.ths.length c1] 62)
  have bB := BoxC.new ((W0.alloc (.cells #[.slice none 0 0] 36)).alloc (.cells #[.slice P0 P.init.length d0, .slice P1 P.ths.length d1] 25)) 62 #[.slice A7 s.mem.length c7, .slice A1 s.ths.length c1]
  rw [World.size_alloc, hs0] at bA
  rw [World.size_alloc, World.size_alloc, hs0] at bB
  rw [hs0] at b5
  obtain ⟨Wl, hWl⟩ : ∃ W, W = ((W0.alloc (.cells #[.slice none 0 0] 36)).alloc (.cells #[.slice P0 P.init.length d0, .slice P1 P.ths.length d1] 25)).alloc (.cells #[.slice A7 s.mem.length c7, .slice A1 s.ths.length c1] 62) := ⟨_, rfl⟩
  have hsl : Wl.heap.size = w.heap.size + 5 := by rw [hWl]; simp; omega
  have hB : Below w.heap.size w Wl := by rw [hWl]; exact below_al (below_al (below_al hB0 _) _) _
  rw [← hWl] at b5 bA bB ⊢
  clear hWl
  have hBw := hB
  clear hB
  refine wpIn_rangeFunc_ownH rfl (by decide) (gf := 62) (lb := #[.pointer (some ⟨w.heap.size + 1 + 1 + 1, 0, none⟩), .pointer (some ⟨w.heap.size + 1 + 1 + 1 + 1, 0, none⟩)]) rfl trivial (enters_of Try.func62 (by kernel_rfl) rfl)
    (able_stops (10 - 1) (by decide) w.heap.size _ _ Wl (by omega) (HPM.out _ hBw) (HUM.out _ hBw) HO.out bA bB) KpD.t (KpD.b (by omega)) (Below.refl _ _) (fun _ => rfl)
    (fun pre W => (∃ v, Boxed W (w.heap.size + 1 + 1) 36 v ∧ W.ownsRow (w.heap.size + 5) 76 2 v pre.length (pre.flatMap pkC) ∧ True) ∧ Below w.heap.size Wl W)
    (fun _ _ _ => False)
    (OwnFrom.and (Own.from (holdsRow_own (w.heap.size + 5) (w.heap.size + 1 + 1) 36 76 2 (fun pre : List (Nat × Bool) => pre.length) (fun pre => pre.flatMap pkC) (fun _ _ => True)) _) (ownFrom_below (by omega) (by omega)))
    (fun _ _ _ _ _ hs _ _ => hs)
    ⟨⟨_, b5, World.ownsRow_nil _ _ _ _, trivial⟩, Below.refl _ _⟩
    (fun x a' W => ∃ Bx, w.heap.size + 1 + 1 + 1 + 1 < Bx ∧ Box2 W Bx 76 (.int .i64 (x.1 : Int)) (.bool x.2) ∧ a' = { tmps := #[.agg #[.slice P0 P.init.length d0, .slice P1 P.ths.length d1], .agg #[.slice A7 s.mem.length c7, .slice A1 s.ths.length c1], .pointer (some ⟨w.heap.size, 0, none⟩), .pointer (some ⟨w.heap.size + 1, 0, none⟩), .slice none 0 0, .pointer (some ⟨w.heap.size + 1 + 1, 0, none⟩), .pointer (some ⟨Bx, 0, none⟩), .agg #[.slice P0 P.init.length d0, .slice P1 P.ths.length d1], .agg #[.slice A7 s.mem.length c7, .slice A1 s.ths.length c1], .func (.func 62) #[] #[.pointer (some ⟨w.heap.size + 1 + 1 + 1, 0, none⟩), .pointer (some ⟨w.heap.size + 1 + 1 + 1 + 1, 0, none⟩)], .agg #[.int .i64 (x.1 : Int), .bool x.2], undef, undef, undef, undef, undef], defers := [] })
    (fun x a' s A B row hs hg hr => by obtain ⟨Bx, h1, h2, h3⟩ := hs; exact ⟨Bx, h1, (box2_own (β := Unit) Bx _ _ _) () A B row h2 hg (fun r e => (hr r e).2), h3⟩)
    ?assign ?body ?done ?stop
  case assign =>
    rintro l pre x W K ⟨⟨xv, hb, hrow, -⟩, hB⟩ hK
    dsimp only [encp]
    gi_wp2
    have hsz := hB.size
    exact hK _ _ ((KeepsOthers.alloc _ _).from _) (KpD.grown (by omega) (World.grownBy_alloc _ _ none) (fun r e => by cases e)) ⟨⟨xv, hb.alloc _, hrow.alloc _, trivial⟩, hB.alloc (by omega) _⟩ ⟨W.heap.size, by omega, Box2.new W _ _ _, by simp⟩
  case body =>
    rintro l' pre x a' W hll ⟨r, hr⟩ ⟨⟨xv, hb, hrow, -⟩, hB⟩ ⟨Bx, hBx, hx, rfl⟩ hlt
    have c5 := hb.cell
    have x0 := hx.cell0
    have x1 := hx.cell1
    have hsz := hB.size
    have hsz2 : w.heap.size ≤ W.heap.size := by omega
    have hpl : pre.length < 18 := Nat.lt_of_lt_of_le hlt HLEN.out
    gi_wp2_with (gi_at_builtin; refine wpListIn_append_own _ rfl _ _ 36 rfl (w.heap.size + 5) 76 i0 (.agg #[.int .i64 0, .bool false]) 2 16 Try.underlying36 hi hz0 hz1 hz2 rfl (by decide) _ _ _ rfl (hrow.alloc _) ⟨W.heap.size, 0, none⟩ 1 1 [.int .i64 (x.1 : Int), .bool x.2] rfl rfl (cell_two_new _ _ _ _) (by simp [Value.oneCell']) (by unfold maxLen; omega) (by omega) (by rw [World.size_alloc]; omega) ?_; intro v' w1 hown' hgrow _; obtain ⟨hv1, hv2, -, hk2, hb2⟩ := hb.appended (by decide) (own_base hrow (show w.heap.size ≤ w.heap.size + 5 by omega)) hsz2 (by omega) (own_base hown' (show w.heap.size ≤ w.heap.size + 5 by omega)) hgrow; have hc1 := hv1.cell; have hf1 := hv1.frozen; obtain ⟨g', cap', rfl⟩ := ownsRow_succ hown')
    have hr2 := hown'.kept (grownBy_setCell' w1 (w.heap.size + 1 + 1) (.slice (some ⟨g', 0, none⟩) (pre.length + 1) cap')) (.inr (hv1.not_row (by decide) hown').symm)
    have hkp : KpD w.heap.size (w.heap.size + 1 + 1 + 1) (w.heap.size + 1 + 1 + 1 + 1) W w1 := (KpD.grown hsz2 (World.grownBy_alloc W (.cells #[.int .i64 (x.1 : Int), .bool x.2] 76) none) (fun r e => by cases e)).t (KpD.grown (by rw [World.size_alloc]; omega) hgrow (fun r e => by have := (own_none hrow e).1; omega))
    exact ⟨hk2.from _, hkp.t (KpD.grown (Nat.le_trans hsz2 hkp.1.1.size) (grownBy_setCell' w1 (w.heap.size + 1 + 1) _) (fun r e => by cases e; omega)), ⟨⟨_, hv2, by rw [List.length_append, List.flatMap_append]; exact hr2, trivial⟩, hB.trans hb2⟩⟩
  case done =>
    rintro D ys W hD rfl ⟨⟨xv, hb, hrow, -⟩, hB⟩ hK
    have c5 := hb.cell
    gi_wp2
    refine ⟨by simp, .inl ⟨_, _, rfl, run_takeDeferred hK, ?_⟩⟩
    exact ⟨_, results_tmp rfl _ _ _, xv, rfl, ownsRow_putObj (own_base hrow (by omega)) _ hK rfl, (hBw.trans hB).trans (belowK_b (w := w) (Nat.le_refl _) W D _ _ (by omega) hK rfl rfl)⟩
  case stop =>
    rintro D cc pre W _ _ h _
    exact h.elim
end Go.Proofs.Ytbffjhdocicfoaa
