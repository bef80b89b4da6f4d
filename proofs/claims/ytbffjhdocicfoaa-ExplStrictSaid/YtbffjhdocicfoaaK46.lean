/-
  EXPLORE.
  EXPL: the ends of what was found.
  WHAT THE HEAD OF LAYER 16 ASKS, as mathematics: a live question (exB), and a code without steps. Of no program.
-/
import Derived.Test.YtbffjhdocicfoaaEyW
import Derived.Test.YtbffjhdocicfoaaK16
set_option linter.unusedVariables false
set_option linter.unusedSimpArgs false
namespace Go.Proofs.Ytbffjhdocicfoaa
open Go.RowKit Go.WideMaps
set_option linter.unusedVariables false
set_option linter.unusedSimpArgs false
open CodM (St Pg rightP hReg hLoc)
open BfM (Wr plc)
open ScM EnM ExM ExN ExP EyP EyM ExR

def XpRet (P : Pg) (wk : Bool) (fuel : Int) (w : World) (e : Ending) (w' : World) : Prop := ∃ A c fs, e = .returned (.tuple #[.slice A fs.length c, .int .i64 ((expS P wk fuel).2.1 : Nat), .bool (expS P wk fuel).2.2]) ∧ OwnF w.heap.size w' (.slice A fs.length c) fs ∧ fs.map fvP = (expS P wk fuel).1 ∧ Below w.heap.size w w'
theorem exp_yes {P : Pg} {wk : Bool} {l : List (Nd Sta (Nat × Bool))} (h : Full (nx P wk) (beg P) l) {fuel : Int} (hf : (l.length : Int) ≤ min fuel 20000) : expS P wk fuel = (fnd (ExO.endsOf (overB P) enS l), l.length, true) := by rw [exp_full h, if_pos hf]
theorem exp_no {P : Pg} {wk : Bool} {fuel : Int} (h : ∀ L, Full (nx P wk) (beg P) L → min fuel 20000 < (L.length : Int)) : expS P wk fuel = ([], 0, false) := by
  rcases exp_cases P wk fuel with ⟨l, h1, h2, -⟩ | ⟨h1, -⟩
  · have := h l h1; omega
  · exact h1
set_option maxHeartbeats 8000000 in
set_option maxRecDepth 100000 in
theorem xexplore_any {B : Nat} {v : Value} {P : Pg} (wk : Bool) (fuel : Int) (w : World) (hv : PgZ B w v P) (hBB : B ≤ w.heap.size) (hp : rightP P = true) (hin : InP P) :
    Calls Try.prog 10 #[v, .bool wk, .int .i64 fuel] w (XpRet P wk fuel w) := by
  obtain ⟨pi, pt, rfl, hpm, hpz⟩ := hv
  have hv : PgZ B w (.agg #[pi, pt]) P := ⟨pi, pt, rfl, hpm, hpz⟩
  have HBG := Lib.hid (fun (W : World) (hW : Below w.heap.size w W) => xbegin_any (wk := wk) W ((hv.below (hW.mono hBB)).more (Nat.le_trans hBB hW.size)) (Nat.le_refl _) hp hin)
  have HPV := Lib.hid (fun (W : World) (hW : Below w.heap.size w W) => (hv.below (hW.mono hBB)).v)
  have HP := Lib.hid (And.intro hp hin)
  obtain ⟨⟨P0, d0, rfl, -⟩, ⟨P1, d1, rfl, -⟩⟩ := hpm
  obtain ⟨mo, hmo⟩ : ∃ m, m = min fuel 20000 := ⟨_, rfl⟩
  have HMO := Lib.hid hmo
  have hmo2 : mo ≤ 20000 := by omega
  clear hv hpz hp hin hmo
  obtain ⟨W1, hW1⟩ : ∃ W, W = w.alloc (.cells #[.slice P0 P.init.length d0, .slice P1 P.ths.length d1] 25) := ⟨_, rfl⟩
  obtain ⟨gp, hgp⟩ : ∃ x, x = w.heap.size := ⟨_, rfl⟩
  have HPB := Lib.hid (show BoxC W1 gp 25 #[.slice P0 P.init.length d0, .slice P1 P.ths.length d1] from by rw [hW1, hgp]; exact BoxC.new w _ _)
  have HB1 := Lib.hid (show Below w.heap.size w W1 from by rw [hW1]; exact below_al (Below.refl _ _) _)
  go_enter Try.func10, Try.ntmps10
  go_upto_region 1 with fail
  rw [← hW1]
  (try rw [← hgp])
  clear hW1 hgp
  have x0 := HPB.out.cell 0 (.slice P0 P.init.length d0) rfl
  have x1 := HPB.out.cell 1 (.slice P1 P.ths.length d1) rfl
  go_wp2_with fail
  refine (HBG.out _ HB1.out).mono ?_
  rintro e W2 ⟨g, mb, vr, xx, rfl, hxn, hs, hb⟩
  have HB2 := Lib.hid (chain HB1.out hb)
  have HS2 := Lib.hid hs
  have HAL := Lib.hid (xall_any mo W2 hs hxn (HPV.out _ HB2.out) (Nat.le_trans hBB HB1.out.size) hb.size HP.out.1 HP.out.2 hmo2)
  have HN0 := Lib.hid (show W1.heap.size ≤ W2.heap.size from hb.size)
  have HBN := Lib.hid (show B ≤ W1.heap.size from Nat.le_trans hBB HB1.out.size)
  clear hxn hs hb x0 x1
  go_upto_region 2 with fail
  go_wp2_with fail
  rw [← HMO.out]
  refine HAL.out.mono ?_
  rintro e W3 ⟨b, ys, vr2, rfl, hs3, hk3, hl3, ht3, hf3⟩
  have HS3 := Lib.hid hs3
  have HB3 := Lib.hid (HB2.out.trans ((hk3.below HN0.out).mono HB1.out.size))
  have HBW := Lib.hid (show W1.heap.size ≤ W3.heap.size from Nat.le_trans HN0.out hk3.size)
  clear hk3
  cases b
  · have HEX := Lib.hid (exp_no (P := P) (wk := wk) (fuel := fuel) (by rw [← HMO.out]; exact hf3 rfl))
    clear hs3 hl3 ht3 hf3
    go_wp2
    refine bodyPost_ret (v := .tuple #[.slice none 0 0, .int .i64 0, .bool false]) (by simp [results, Try.results10, go_sem]) rfl ?_
    exact ⟨none, 0, [], by rw [HEX.out]; rfl, ⟨World.ownsRow_nil _ _ _ _, fun f hf => (by cases hf)⟩, by rw [HEX.out]; rfl, HB3.out⟩
  · obtain ⟨hle, l, hfl, hlk⟩ := ht3 rfl
    have hyl : ys.length = l.length := by have := hlk.len; rwa [List.length_map] at this
    have HEX := Lib.hid (exp_yes hfl (fuel := fuel) (by rw [← HMO.out]; omega))
    have HRD := Lib.hid (show ∀ y ∈ ys, Rd P wk y.n.s from fun y hy => by
      obtain ⟨i, hi, rfl⟩ := List.mem_iff_getElem.1 hy
      have e := hlk.st i (by simpa using hi) (by omega)
      rw [(rn_at hi).2] at e
      rw [e]
      exact leads_rd HP.out.1 HP.out.2 (full_leads _ _ hfl _ (List.getElem_mem _)))
    have HFD := Lib.hid (fun (W : World) (hW : Below W3.heap.size W3 W) => xfound_any W (HS3.out.below hW) (HPV.out _ (HB3.out.trans (hW.mono HB3.out.size))) HBN.out (Nat.le_trans HBW.out hW.size) HP.out.1 HRD.out hl3 hlk hfl)
    obtain ⟨ln, hln⟩ : ∃ n, n = ys.length := ⟨_, rfl⟩
    obtain ⟨AR, cr, er⟩ := own_slice hs3.row
    rw [← hln] at er
    subst er
    have HLN := Lib.hid (show ln = l.length from by omega)
    have g3 := hs3.box.cell 3 (.slice AR ln cr) rfl
    clear hs3 hl3 ht3 hf3 hle hfl hlk hyl hln
    go_upto_region 4 with fail
    refine wp_region_held_drew (S := (fun w' => (w'.cell? ⟨g, 3, none⟩ = some (.slice AR ln cr) ∧ True) ∧ Below W3.heap.size W3 w')) (by kernel_rfl) ⟨⟨g3, trivial⟩, below_drewN (Below.refl _ _) 1⟩ (fun hHeld => ?_)
    refine wpAnyH_take (i := 0) (v := ?_) rfl (by kernel_rfl) (by kernel_rfl) (by kernel_rfl) (fun _ _ _ h => h) (Or.inl ⟨by rfl, ?_⟩) (by assumption) ?_
    rotate_left
    · intro w hSw; (try dsimp only at hSw); go_simp; (try with_reducible rfl)
    (try simp only [Act.put, pt8])
    refine wpAnyH_take (i := 2) (v := ?_) rfl (by kernel_rfl) (by kernel_rfl) (by kernel_rfl) (fun _ _ _ h => h) (Or.inl ⟨by rfl, ?_⟩) (by assumption) ?_
    rotate_left
    · intro w hSw; (try dsimp only at hSw); go_simp; (try with_reducible rfl)
    (try simp only [Act.put, pt8])
    refine wpAnyH_take (i := 3) (v := ?_) rfl (by kernel_rfl) (by kernel_rfl) (by kernel_rfl) (fun _ _ _ h => h) (Or.inl ⟨by rfl, ?_⟩) (by assumption) ?_
    rotate_left
    · intro w hSw; (try dsimp only at hSw); go_simp; (try with_reducible rfl)
    (try simp only [Act.put, pt8])
    refine wpAnyH_take (i := 4) (v := ?_) rfl (by kernel_rfl) (by kernel_rfl) (by kernel_rfl) (fun _ _ _ h => h) (Or.inl ⟨by rfl, ?_⟩) (by assumption) ?_
    rotate_left
    · intro w hSw; (try dsimp only at hSw); go_simp; (try with_reducible rfl)
    (try simp only [Act.put, pt8])
    refine wpAnyH_take (i := 5) (v := ?_) rfl (by kernel_rfl) (by kernel_rfl) (by kernel_rfl) (fun _ _ _ h => h) (Or.inl ⟨by rfl, ?_⟩) (by assumption) ?_
    rotate_left
    · intro w hSw; (try dsimp only at hSw); go_simp; (try with_reducible rfl)
    (try simp only [Act.put, pt8])
    refine wpAnyH_take (i := 6) (v := ?_) rfl (by kernel_rfl) (by kernel_rfl) (by kernel_rfl) (fun _ _ _ h => h) (Or.inl ⟨by rfl, ?_⟩) (by assumption) ?_
    rotate_left
    · intro w hSw; (try dsimp only at hSw); go_simp; (try with_reducible rfl)
    (try simp only [Act.put, pt8])
    refine wpAnyH_ready (rs := [1]) (by kernel_rfl) (by simp) ?_
    refine AllReadyH.cons rfl (fun K hK => ?_) AllReadyH.nil
    go_simp
    refine (HFD.out _ hHeld.2).mono ?_
    have HSX := Lib.hid hHeld.2.size
    rintro e V ⟨vf, fs, rfl, hfo, hfe, hb⟩
    have HBV := Lib.hid (chain hHeld.2 hb)
    have HFO := Lib.hid hfo
    have HFE := Lib.hid hfe
    obtain ⟨A7, c7, rfl⟩ := own_slice HFO.out.own
    clear hfo hfe hb
    refine hK.out _ _ ⟨⟨kc HBV.out g3, trivial⟩, HBV.out⟩ (fun hHeld => ?_)
    clear hK K
    (try simp only [Act.put, pt8])
    refine wpAnyH_ready (rs := [7]) (by kernel_rfl) (by simp) ?_
    refine AllReadyH.cons rfl (fun K hK => ?_) AllReadyH.nil
    go_simp
    refine hK.out _ _ hHeld (fun hHeld => ?_)
    clear hK K
    (try simp only [Act.put, pt8])
    refine wpAnyH_ready (rs := [8]) (by kernel_rfl) (by simp) ?_
    refine AllReadyH.cons rfl (fun K hK => ?_) AllReadyH.nil
    go_simp
    refine hK.out _ _ hHeld (fun hHeld => ?_)
    clear hK K
    (try simp only [Act.put, pt8])
    refine wpAnyH_ready (rs := [9]) (by kernel_rfl) (by simp) ?_
    refine AllReadyH.cons rfl (fun K hK => ?_) AllReadyH.nil
    go_simp
    refine hK.out _ _ hHeld (fun hHeld => ?_)
    clear hK K
    (try simp only [Act.put, pt8])
    refine wpAnyH_done (by kernel_rfl) ?_ _
    clear hHeld g3
    go_wp2
    refine bodyPost_ret (v := .tuple #[.slice A7 fs.length c7, .int .i64 (ln : Int), .bool true]) (by simp [results, Try.results10, go_sem]) rfl ?_
    exact ⟨A7, c7, fs, by rw [HEX.out, HLN.out], ⟨own_base HFO.out.own (Nat.le_trans HB3.out.size HSX.out), fun f hf => (HFO.out.ok f hf).base (Nat.le_trans HB3.out.size HSX.out)⟩, by rw [HFE.out, HEX.out], HB3.out.trans (HBV.out.mono HB3.out.size)⟩
end Go.Proofs.Ytbffjhdocicfoaa
namespace Go.Proofs.Ytbffjhdocicfoaa
open Go.RowKit Go.WideMaps
set_option linter.unusedVariables false
set_option linter.unusedSimpArgs false
open CodM (St Pg rightP hReg hLoc)
open BfM (Wr plc)
open NumM (inR)
open ScM EnM ExM ExN ExP EyP

open EyM ExR
/-- The first k ends, in rows of the call's own. -/
structure EnsK (b k : Nat) (fs : List FV) (zs : List OV) (v u : Value) (w W : World) : Prop where
  len : zs.length = k
  own : W.ownsRow w.heap.size 33 2 v k (zs.flatMap ovC)
  ok : ∀ z ∈ zs, OwnI w.heap.size W z.m z.o.1 ∧ OwnI w.heap.size W z.r z.o.2
  eq : zs.map (·.o) = (fs.take k).map (·.o)
  fd : OwnF b W u fs
  below : Below w.heap.size w W
theorem EnsK.grow {b k : Nat} {fs : List FV} {zs : List OV} {v u : Value} {w W W' : World} (h : EnsK b k fs zs v u w W) (hb : Below W.heap.size W W') : EnsK b k fs zs v u w W' :=
  { h with own := own_below h.own hb, ok := fun z hz => ⟨own_below (h.ok z hz).1 hb, own_below (h.ok z hz).2 hb⟩, fd := h.fd.grow hb, below := h.below.trans (hb.mono h.below.size) }
theorem EnsK.next {b k : Nat} {fs : List FV} {zs : List OV} {v v' u : Value} {w W W' : World} {x : OV} (h : EnsK b k fs zs v u w W) (hk : k < fs.length) (hx : x.o = fs[k].o) (hxi : OwnI w.heap.size W x.m x.o.1 ∧ OwnI w.heap.size W x.r x.o.2) (ho : W'.ownsRow w.heap.size 33 2 v' (k + 1) (zs.flatMap ovC ++ ovC x)) (hg : W.grownBy W' v.ownBlock) : EnsK b (k + 1) fs (zs ++ [x]) v' u w W' where
  len := by rw [List.length_append, h.len]; rfl
  own := by rw [List.flatMap_append]; simpa using ho
  ok := fun z hz => by
    have h1 : OwnI w.heap.size W z.m z.o.1 ∧ OwnI w.heap.size W z.r z.o.2 := by
      rcases List.mem_append.1 hz with hz | hz
      · exact h.ok z hz
      · rw [List.mem_singleton.1 hz]; exact hxi
    exact ⟨own_grown (by decide) h1.1 h.own hg, own_grown (by decide) h1.2 h.own hg⟩
  eq := by rw [List.map_append, h.eq, List.take_succ_eq_append_getElem hk, List.map_append, List.map_singleton, List.map_singleton, hx]
  fd := ⟨own_grown (by decide) h.fd.own h.own hg, fun f hf => ⟨own_grown (by decide) (h.fd.ok f hf).1 h.own hg, own_grown (by decide) (h.fd.ok f hf).2.1 h.own hg, own_grown (by decide) (h.fd.ok f hf).2.2 h.own hg⟩⟩
  below := below_append h.below h.own (Nat.le_refl _) h.below.size hg
def EnsRet (b : Nat) (fs : List FV) (u : Value) (w : World) (e : Ending) (w' : World) : Prop := ∃ A c zs, e = .returned (.slice A fs.length c) ∧ EnsK b fs.length fs zs (.slice A fs.length c) u w w'
theorem fd_at {b : Nat} {W : World} {A : Option Addr} {n c : Nat} {fs : List FV} (h : OwnF b W (.slice A n c) fs) {k : Nat} (hk : k < fs.length) : ∃ g, A = some ⟨g, 0, none⟩ ∧ W.cell? ⟨g, k * 3, none⟩ = some fs[k].m ∧ W.cell? ⟨g, k * 3 + 1, none⟩ = some fs[k].r ∧ W.cell? ⟨g, k * 3 + 2, none⟩ = some fs[k].p := by
  have ho := h.own
  rcases id ho.2 with ⟨e, h0⟩ | ⟨g, cp, cur, e, -⟩
  · omega
  · injection e with e1 e0 e2
    subst e1 e0 e2
    exact ⟨g, rfl, (ho.cellAt _ (by omega)).trans ((fl_at fvC_len fs k 0 hk (by omega)).trans rfl), (ho.cellAt _ (by omega)).trans ((fl_at fvC_len fs k 1 hk (by omega)).trans rfl), (ho.cellAt _ (by omega)).trans ((fl_at fvC_len fs k 2 hk (by omega)).trans rfl)⟩
theorem FvI.sl {b : Nat} {W : World} {x : FV} (h : FvI b W x) : (∃ A c, x.m = .slice A x.o.1.length c) ∧ (∃ A c, x.r = .slice A x.o.2.length c) ∧ ∃ A c, x.p = .slice A x.k.length c := ⟨own_slice h.1, own_slice h.2.1, own_slice h.2.2⟩
set_option maxHeartbeats 8000000 in
set_option maxRecDepth 100000 in
theorem xens_any {b n c : Nat} {A : Option Addr} {fs : List FV} (w : World) (h : OwnF b w (.slice A n c) fs) (hn : n = fs.length) (hl : n ≤ 30000) (hs : ∀ f ∈ fs, f.o.1.length ≤ 1000000 ∧ f.o.2.length ≤ 1000000) :
    Calls Try.prog 21 #[.slice A n c] w (EnsRet b fs (.slice A n c) w) := by
  have HN := Lib.hid hn
  have HL := Lib.hid hs
  obtain ⟨i0, hi0, hz0, hz1, hz2⟩ := info_parts info_out
  obtain ⟨W0, hmk, hown0, hg0⟩ := run_make_own (P := Try.prog) w w.heap.size 43 33 i0 (.agg #[.slice none 0 0, .slice none 0 0]) 2 Try.underlying43 hi0 hz0 hz1 .i64 .i64 n (by rw [hz2]; omega) (by unfold maxLen; omega) (Nat.le_refl _)
  have hgb : Below w.heap.size w W0 := ⟨hg0.os, hg0.tape, hg0.output, hg0.size, fun k hk => hg0.block k hk (by simp)⟩
  obtain ⟨g0, hg0e⟩ : ∃ g, g = w.heap.size := ⟨_, rfl⟩
  have HF0 := Lib.hid (show EnsK b 0 fs [] (.slice (some ⟨g0, 0, none⟩) 0 n) (.slice A n c) w W0 from ⟨rfl, by rw [hg0e]; exact hown0, fun z hz => (by cases hz), rfl, h.grow hgb, hgb⟩)
  rw [← hg0e] at hmk
  clear hn hs h hown0 hg0 hgb hg0e
  go_enter Try.func21, Try.ntmps21
  go_wp2
  go_loopw [3, 11] (fun x y wr => ∃ (k : Nat) (zs : List OV) (A2 : Option Addr) (c2 : Nat), x = .slice A2 k c2 ∧ y = .int .i64 k ∧ k ≤ n ∧ Hid (EnsK b k fs zs (.slice A2 k c2) (.slice A n c) w wr)) (fun _ y _ => n - (intOf y).toNat)
  case atStart => exact ⟨0, [], _, _, rfl, rfl, Nat.zero_le _, HF0⟩
  case round =>
    obtain ⟨k, zs, AF, cf, rfl, rfl, hk, HK5⟩ := hrel
    by_cases hlt : k < n
    · have hkr : k < fs.length := by have := HN.out; omega
      obtain ⟨ge, rfl, e0, e1, e2⟩ := fd_at HK5.out.fd hkr
      obtain ⟨⟨A1, q1, em1⟩, ⟨A2, q2, em2⟩, A3, q3, em3⟩ := (HK5.out.fd.ok _ (List.getElem_mem hkr)).sl
      have hfi := HK5.out.fd.ok _ (List.getElem_mem hkr)
      have hll := HL.out _ (List.getElem_mem hkr)
      have HNX := Lib.hid (fun (v v' W W') (x : OV) h hx hxi ho hg => EnsK.next (b := b) (u := .slice (some ⟨ge, 0, none⟩) n c) (w := w) (zs := zs) (v := v) (v' := v') (W := W) (W' := W') (x := x) h hkr hx hxi ho hg)
      obtain ⟨x, hx⟩ : ∃ z, z = fs[k] := ⟨_, rfl⟩
      rw [← hx] at e0 e1 e2 hfi em1 em2 em3 hll
      simp only [← hx] at HNX
      clear hx hkr
      obtain ⟨xm, xr, xp, ⟨xa, xb⟩, xk⟩ := x
      dsimp only at e0 e1 e2 hfi em1 em2 em3 hll HNX
      subst em1 em2 em3
      have HFI := Lib.hid hfi
      have HLL := Lib.hid hll
      clear hfi hll
      obtain ⟨W6, hW6⟩ : ∃ W, W = wr.alloc (.cells #[.slice A1 xa.length q1, .slice A2 xb.length q2, .slice A3 xk.length q3] 38) := ⟨_, rfl⟩
      obtain ⟨gt, hgt⟩ : ∃ y, y = wr.heap.size := ⟨_, rfl⟩
      have HTB := Lib.hid (show BoxC W6 gt 38 #[.slice A1 xa.length q1, .slice A2 xb.length q2, .slice A3 xk.length q3] from by rw [hW6, hgt]; exact BoxC.new wr _ _)
      have HB6 := Lib.hid (show Below wr.heap.size wr W6 from by rw [hW6]; exact below_al (Below.refl _ _) _)
      have HK6 := Lib.hid (HK5.out.grow HB6.out)
      have HF6 := Lib.hid (HFI.out.grow HB6.out)
      go_upto_region 5 with fail
      rw [← hW6]
      (try rw [← hgt])
      clear hW6 hgt e0 e1 e2
      refine wp_region_held_drew (S := (fun w' => w'.cell? ⟨gt, 0, none⟩ = some (.slice A1 xa.length q1) ∧ w'.cell? ⟨gt, 1, none⟩ = some (.slice A2 xb.length q2) ∧ True)) (by kernel_rfl) ⟨HTB.out.cell 0 (.slice A1 xa.length q1) rfl, HTB.out.cell 1 (.slice A2 xb.length q2) rfl, trivial⟩ (fun hHeld => ?_)
      obtain ⟨Xs, hXs⟩ : ∃ W, W = W6.drew := ⟨_, rfl⟩
      have HDR := Lib.hid (show Below W6.heap.size W6 Xs from by rw [hXs]; exact below_drewN (Below.refl _ _) 1)
      rw [← hXs]
      rw [← hXs] at hHeld
      clear hXs
      have HKX := Lib.hid (HK6.out.grow HDR.out)
      have HFX := Lib.hid (HF6.out.grow HDR.out)
      have HTX := Lib.hid (HTB.out.below HDR.out HTB.out.lt)
      refine wpAnyH_take (i := 0) (v := ?_) rfl (by kernel_rfl) (by kernel_rfl) (by kernel_rfl) (fun _ _ _ h => h) (Or.inl ⟨by rfl, ?_⟩) (by assumption) ?_
      rotate_left
      · intro w hSw; (try dsimp only at hSw); go_simp; (try with_reducible rfl)
      (try simp only [Act.put, pt8])
      refine wpAnyH_take (i := 1) (v := ?_) rfl (by kernel_rfl) (by kernel_rfl) (by kernel_rfl) (fun _ _ _ h => h) (Or.inl ⟨by rfl, ?_⟩) (by assumption) ?_
      rotate_left
      · intro w hSw; (try dsimp only at hSw); go_simp; (try with_reducible rfl)
      (try simp only [Act.put, pt8])
      refine wpAnyH_take (i := 2) (v := ?_) rfl (by kernel_rfl) (by kernel_rfl) (by kernel_rfl) (fun _ _ _ h => h) (Or.inl ⟨by rfl, ?_⟩) (by assumption) ?_
      rotate_left
      · intro w hSw; (try dsimp only at hSw); go_simp; (try with_reducible rfl)
      (try simp only [Act.put, pt8])
      refine wpAnyH_take (i := 3) (v := ?_) rfl (by kernel_rfl) (by kernel_rfl) (by kernel_rfl) (fun _ _ _ h => h) (Or.inl ⟨by rfl, ?_⟩) (by assumption) ?_
      rotate_left
      · intro w hSw; (try dsimp only at hSw); go_simp; (try with_reducible rfl)
      (try simp only [Act.put, pt8])
      refine wpAnyH_take (i := 5) (v := ?_) rfl (by kernel_rfl) (by kernel_rfl) (by kernel_rfl) (fun _ _ _ h => h) (Or.inl ⟨by rfl, ?_⟩) (by assumption) ?_
      rotate_left
      · intro w hSw; (try dsimp only at hSw); go_simp; (try with_reducible rfl)
      (try simp only [Act.put, pt8])
      refine wpAnyH_take (i := 6) (v := ?_) rfl (by kernel_rfl) (by kernel_rfl) (by kernel_rfl) (fun _ _ _ h => h) (Or.inl ⟨by rfl, ?_⟩) (by assumption) ?_
      rotate_left
      · intro w hSw; (try dsimp only at hSw); go_simp; (try with_reducible rfl)
      (try simp only [Act.put, pt8])
      refine wpAnyH_take (i := 7) (v := ?_) rfl (by kernel_rfl) (by kernel_rfl) (by kernel_rfl) (fun _ _ _ h => h) (Or.inl ⟨by rfl, ?_⟩) (by assumption) ?_
      rotate_left
      · intro w hSw; (try dsimp only at hSw); go_simp; (try with_reducible rfl)
      (try simp only [Act.put, pt8])
      refine wpAnyH_ready (rs := [4]) (by kernel_rfl) (by simp) ?_
      refine AllReadyH.cons rfl (fun K hK => ?_) AllReadyH.nil
      go_simp
      refine (clonei_any _ (Rw.own HFX.out.1 (Nat.le_refl _)) (Nat.le_refl _) HLL.out.1).mono ?_
      rintro e V ⟨v4, rfl, hok, hb⟩
      have HM4 := Lib.hid (own_base hok HKX.out.below.size)
      obtain ⟨M4, m4, rfl⟩ := own_slice HM4.out
      have HKV := Lib.hid (HKX.out.grow hb)
      have HFV := Lib.hid (HFX.out.grow hb)
      have HTV := Lib.hid (HTX.out.below hb HTX.out.lt)
      clear hok hb
      refine hK.out _ _ ⟨HTV.out.cell 0 (.slice A1 xa.length q1) rfl, HTV.out.cell 1 (.slice A2 xb.length q2) rfl, trivial⟩ (fun hHeld => ?_)
      clear hK K
      (try simp only [Act.put, pt8])
      refine wpAnyH_ready (rs := [8]) (by kernel_rfl) (by simp) ?_
      refine AllReadyH.cons rfl (fun K hK => ?_) AllReadyH.nil
      go_simp
      refine (clonei_any _ (Rw.own HFV.out.2.1 (Nat.le_refl _)) (Nat.le_refl _) HLL.out.2).mono ?_
      rintro e V8 ⟨v4, rfl, hok, hb⟩
      have HM8 := Lib.hid (own_base hok HKV.out.below.size)
      obtain ⟨M8, m8, rfl⟩ := own_slice HM8.out
      have HK8 := Lib.hid (HKV.out.grow hb)
      have HM4b := Lib.hid (own_below HM4.out hb)
      have HT8 := Lib.hid (HTV.out.below hb HTV.out.lt)
      clear hok hb
      refine hK.out _ _ ⟨HT8.out.cell 0 (.slice A1 xa.length q1) rfl, HT8.out.cell 1 (.slice A2 xb.length q2) rfl, trivial⟩ (fun hHeld => ?_)
      clear hK K
      (try simp only [Act.put, pt8])
      refine wpAnyH_take (i := 9) (v := ?_) rfl (by kernel_rfl) (by kernel_rfl) (by kernel_rfl) (fun _ _ _ h => h) (Or.inl ⟨by rfl, ?_⟩) (by assumption) ?_
      rotate_left
      · intro w hSw; (try dsimp only at hSw); go_simp; (try with_reducible rfl)
      (try simp only [Act.put, pt8])
      refine wpAnyH_ready (rs := [10]) (by kernel_rfl) (by simp) ?_
      refine AllReadyH.cons rfl (fun K hK => ?_) AllReadyH.nil
      go_simp
      refine hK.out _ _ (show _ from by have hq := (HT8.out.below (below_al (Below.refl V8.heap.size V8) (.cells #[.slice M4 xa.length m4, .slice M8 xb.length m8] 33)) HT8.out.lt); exact ⟨hq.cell 0 (.slice A1 xa.length q1) rfl, hq.cell 1 (.slice A2 xb.length q2) rfl, trivial⟩) (fun hHeld => ?_)
      clear hK K
      (try simp only [Act.put, pt8])
      obtain ⟨Wb, hWb⟩ : ∃ W, W = V8.alloc (.cells #[.slice M4 xa.length m4, .slice M8 xb.length m8] 33) := ⟨_, rfl⟩
      obtain ⟨gs, hgs⟩ : ∃ y, y = V8.heap.size := ⟨_, rfl⟩
      have HNB := Lib.hid (show BoxC Wb gs 33 #[.slice M4 xa.length m4, .slice M8 xb.length m8] from by rw [hWb, hgs]; exact BoxC.new V8 _ _)
      have HBL := Lib.hid (show Below V8.heap.size V8 Wb from by rw [hWb]; exact below_al (Below.refl _ _) _)
      rw [← hWb]
      (try rw [← hgs])
      clear hWb hgs
      have HKB := Lib.hid (HK8.out.grow HBL.out)
      have HMa := Lib.hid (own_below HM4b.out HBL.out)
      have HMb := Lib.hid (own_below HM8.out HBL.out)
      have HTb := Lib.hid (HT8.out.below HBL.out HT8.out.lt)
      refine wpAnyH_ready (rs := [11]) (by kernel_rfl) (by simp) ?_
      refine AllReadyH.cons rfl (fun K hK => ?_) AllReadyH.nil
      refine step_append_src (by rfl) _ _ _ (by rfl) w.heap.size 33 i0 (.agg #[.slice none 0 0, .slice none 0 0]) 2 48 Try.underlying43 hi0 hz0 hz1 hz2 (by rfl) (by decide) _ k (zs.flatMap ovC) (by rfl) HKB.out.own (some ⟨gs, 0, none⟩) 1 1 [.slice M4 xa.length m4, .slice M8 xb.length m8] (by rfl) (by rfl) (fun c => (by cases c)) (lit_at HNB.out) (by simp [Value.oneCell']) (by unfold maxLen; omega) (by omega) HKB.out.below.size (fun v9 W9 hown hg => ?_)
      obtain ⟨A9, c9, rfl⟩ := own_slice hown
      have HT9 := Lib.hid (HTb.out.grown (by decide) HKB.out.own hg)
      have HK9 := Lib.hid (HNX.out _ _ _ _ ⟨.slice M4 xa.length m4, .slice M8 xb.length m8, (xa, xb)⟩ HKB.out rfl ⟨HMa.out, HMb.out⟩ hown hg)
      clear hown hg
      refine hK.out _ _ ⟨HT9.out.cell 0 (.slice A1 xa.length q1) rfl, HT9.out.cell 1 (.slice A2 xb.length q2) rfl, trivial⟩ (fun hHeld => ?_)
      clear hK K
      (try simp only [Act.put, pt8])
      refine wpAnyH_ready (rs := [12]) (by kernel_rfl) (by simp) ?_
      refine AllReadyH.cons rfl (fun K hK => ?_) AllReadyH.nil
      go_simp
      refine hK.out _ _ hHeld (fun hHeld => ?_)
      clear hK K
      (try simp only [Act.put, pt8])
      refine wpAnyH_done (by kernel_rfl) ?_ _
      clear hHeld
      go_wp2
      go_roundw
      case rel => exact ⟨k + 1, _, A9, c9, rfl, by go_num, by omega, HK9⟩
      case measure => simp [intOf]; omega
    · obtain rfl : k = n := by omega
      have HE := Lib.hid (show EnsRet b fs (.slice A k c) w (.returned (.slice AF k cf)) wr from by
        have h := HN.out
        refine ⟨AF, cf, zs, by rw [← h], ?_⟩
        have := HK5.out
        rw [h] at this ⊢; exact this)
      go_wp2
      go_ret
      exact HE.out
end Go.Proofs.Ytbffjhdocicfoaa
namespace Go.Proofs.Ytbffjhdocicfoaa
set_option linter.unusedVariables false
set_option linter.unusedSimpArgs false
open CodM (St Pg rightP hReg hLoc)
open ScM ExR
def exB : Pg := ⟨[0, 0], [[⟨4, 0, 0, 1, 0⟩, ⟨2, 0, 1, 0, 0⟩], [⟨4, 0, 1, 1, 0⟩, ⟨2, 0, 0, 0, 0⟩]]⟩
def exN : Pg := ⟨[], [[]]⟩
def exBw : List FdE := [(([1, 1], [0, 0, 0, 0, 0, 0, 0, 0]), [(0, false), (0, false), (1, false), (1, false), (0, true), (1, true)]),
  (([1, 1], [0, 0, 0, 0, 1, 0, 0, 0]), [(0, false), (0, false), (0, true), (1, false), (1, false), (1, true)]),
  (([1, 1], [1, 0, 0, 0, 0, 0, 0, 0]), [(0, false), (1, false), (1, false), (0, true), (1, true), (0, false)]),
  (([1, 1], [1, 0, 0, 0, 1, 0, 0, 0]), [(0, false), (0, true), (1, false), (1, false), (1, true), (0, false)])]
theorem exh_s2 : (expS exB false 100).2 = (13, true) := by decide +kernel
theorem exh_s1 : (expS exB false 100).1.length = 3 := by decide +kernel
theorem exh_w : expS exB true 100 = (exBw, 34, true) := by decide +kernel
theorem exh_5 : expS exB true 5 = ([], 0, false) := by decide +kernel
theorem exh_n : expS exN true 1 = ([(([], [0, 0, 0, 0]), [])], 1, true) := by decide +kernel
theorem exh_0 : expS exN false 0 = ([], 0, false) := by decide +kernel
end Go.Proofs.Ytbffjhdocicfoaa
