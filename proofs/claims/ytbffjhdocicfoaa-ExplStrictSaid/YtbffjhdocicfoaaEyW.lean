/-
  EXPLORE: the ends in order, each with its way.
-/
import Derived.Test.YtbffjhdocicfoaaEyX
namespace Go.Proofs.Ytbffjhdocicfoaa
open Go.RowKit Go.WideMaps
set_option linter.unusedVariables false
set_option linter.unusedSimpArgs false
open CodM (St Pg rightP hReg hLoc)
open BfM (Wr plc)
open NumM (inR)
open ScM EnM ExM ExN ExP EyP

open EyM ExR
/-- An end that was found, as three values that read as it. -/
structure FV where
  m : Value
  r : Value
  p : Value
  o : OtM.Ot
  k : List (Nat × Bool)
def fvC (x : FV) : List Value := [x.m, x.r, x.p]
theorem fvC_len (x : FV) : (fvC x).length = 3 := rfl
def FvI (b : Nat) (W : World) (x : FV) : Prop := OwnI b W x.m x.o.1 ∧ OwnI b W x.r x.o.2 ∧ OwnK b W x.p x.k
theorem FvI.grow {b : Nat} {W W' : World} {x : FV} (h : FvI b W x) (hb : Below W.heap.size W W') : FvI b W' x := ⟨own_below h.1 hb, own_below h.2.1 hb, own_below h.2.2 hb⟩
theorem FvI.base {b b' : Nat} {W : World} {x : FV} (h : FvI b W x) (hb : b' ≤ b) : FvI b' W x := ⟨own_base h.1 hb, own_base h.2.1 hb, own_base h.2.2 hb⟩
abbrev fvP (x : FV) : FdE := (x.o, x.k)
/-- A row of them, of the call's own. -/
structure OwnF (b : Nat) (W : World) (v : Value) (fs : List FV) : Prop where
  own : W.ownsRow b 38 3 v fs.length (fs.flatMap fvC)
  ok : ∀ f ∈ fs, FvI b W f
theorem OwnF.grow {b : Nat} {W W' : World} {v : Value} {fs : List FV} (h : OwnF b W v fs) (hb : Below W.heap.size W W') : OwnF b W' v fs := ⟨own_below h.own hb, fun f hf => (h.ok f hf).grow hb⟩
theorem info_fd : (Try.prog.info? 38).map (fun i => (i.zero, i.size, i.bytes)) = some (some (.agg #[.slice none 0 0, .slice none 0 0, .slice none 0 0]), 3, 72) := by kernel_rfl
/-- The first k of the ends have been put in. -/
structure FdK (l : List (Nd Sta (Nat × Bool))) (b m k : Nat) (rs : List EV) (fs : List FV) (v u : Value) (w W : World) : Prop where
  len : fs.length = k
  fd : OwnF b W v fs
  eq : fs.map fvP = (rs.take k).map fun e => endW l (evP e)
  row : W.ownsRow b 85 3 u m (rs.flatMap evC)
  rok : ∀ e ∈ rs, EvI b W e
  below : Below b w W
theorem FdK.grow {l : List (Nd Sta (Nat × Bool))} {b m k : Nat} {rs : List EV} {fs : List FV} {v u : Value} {w W W' : World} (h : FdK l b m k rs fs v u w W) (hb : Below W.heap.size W W') (hs : b ≤ W.heap.size) : FdK l b m k rs fs v u w W' :=
  { h with fd := h.fd.grow hb, row := own_below h.row hb, rok := fun e he => (h.rok e he).grow hb, below := h.below.trans (hb.mono hs) }
theorem FdK.next {l : List (Nd Sta (Nat × Bool))} {b m k n : Nat} {rs : List EV} {fs : List FV} {v v' u : Value} {w W W' : World} {x : FV} (h : FdK l b m k rs fs v u w W) (hk : k < rs.length) (hn : fs.length = n) (hx : fvP x = endW l (evP rs[k])) (hxi : FvI b W x) (ho : W'.ownsRow b 38 3 v' (n + 1) (fs.flatMap fvC ++ fvC x)) (hg : W.grownBy W' v.ownBlock) (hs : b ≤ W.heap.size) : FdK l b m (k + 1) rs (fs ++ [x]) v' u w W' where
  len := by rw [List.length_append, h.len]; rfl
  fd := by
    refine ⟨?_, fun f hf => ?_⟩
    · rw [List.length_append, List.flatMap_append]; subst hn; simpa using ho
    · have h1 : FvI b W f := by
        rcases List.mem_append.1 hf with hf | hf
        · exact h.fd.ok f hf
        · rw [List.mem_singleton.1 hf]; exact hxi
      exact ⟨own_grown (by decide) h1.1 h.fd.own hg, own_grown (by decide) h1.2.1 h.fd.own hg, own_grown (by decide) h1.2.2 h.fd.own hg⟩
  eq := by rw [List.map_append, h.eq, List.take_succ_eq_append_getElem hk, List.map_append, List.map_singleton, List.map_singleton, hx]
  row := own_grown (by decide) h.row h.fd.own hg
  rok := fun e he => ⟨own_grown (by decide) (h.rok e he).1 h.fd.own hg, own_grown (by decide) (h.rok e he).2 h.fd.own hg⟩
  below := below_append h.below h.fd.own (Nat.le_refl _) hs hg
def FdRet (P : Pg) (l : List (Nd Sta (Nat × Bool))) (w : World) (e : Ending) (w' : World) : Prop := ∃ v fs, e = .returned v ∧ OwnF w.heap.size w' v fs ∧ fs.map fvP = fnd (ExO.endsOf (overB P) enS l) ∧ Below w.heap.size w w'
theorem gb_below {w W W' : World} {b g : Nat} (h : Below b w W) (hg : W.grownBy W' (some g)) (hb : b ≤ g) (hs : b ≤ W.heap.size) : Below b w W' :=
  ⟨hg.os.trans h.os, hg.tape.trans h.tape, hg.output.trans h.output, Nat.le_trans h.size hg.size, fun k hk => (hg.block k (by omega) (fun e => by injection e with e; omega)).trans (h.block k hk)⟩
set_option maxHeartbeats 8000000 in
set_option maxRecDepth 100000 in
theorem xfound_any {B n0 g mb : Nat} {wk : Bool} {pi pt vr : Value} {ys : List RV} {P : Pg} {l : List (Nd Sta (Nat × Bool))} (w : World) (h : SrB n0 g mb wk pi pt ys vr w) (hP : PgV B w (.agg #[pi, pt]) P) (hB : B ≤ n0) (hn0 : n0 ≤ w.heap.size) (hp : rightP P = true) (hrd : ∀ y ∈ ys, Rd P wk y.n.s) (hn : ys.length ≤ 30000) (hl : Lk (rns ys) l) (hf : Full (nx P wk) (beg P) l) :
    Calls Try.prog 26 #[.pointer (some ⟨g, 0, none⟩)] w (FdRet P l w) := by
  have hlen : ys.length = l.length := by have := hl.len; rwa [List.length_map] at this
  have hss : ys.map (·.n.s) = l.map (·.1) := by have := hl.sts; rw [List.map_map] at this; exact this.symm
  have HED := Lib.hid (xends_any w h hP hB hn0 hp hrd hn)
  rw [hss] at HED
  have HNE := Lib.hid (some_end hp wk hf enS)
  have HWY := Lib.hid (fun (i : Nat) (hi : i < l.length) (W : World) (hW : Below w.heap.size w W) => xway_any W (h.below hW) hl hi hn)
  have HLL := Lib.hid (show l.length ≤ 30000 from by omega)
  obtain ⟨i0, hi0, hz0, hz1, hz2⟩ := info_parts info_fd
  clear h hP hrd hn hl hf hlen hss
  go_enter Try.func26, Try.ntmps26
  go_wp2_with fail
  refine HED.out.mono ?_
  rintro e W1 ⟨ne, es, A, c, rfl, hk⟩
  have HLS := Lib.hid (show (l.map (·.1)).length = l.length from List.length_map _)
  have HK := Lib.hid hk
  have hne : 0 < ne := by
    rcases Nat.eq_zero_or_pos ne with z | z
    · exfalso
      have he := hk.eq
      rw [List.length_eq_zero_iff.1 (hk.len.trans z)] at he
      have := endN_is P l l.length (Nat.le_refl _)
      rw [List.take_length, ← HLS.out, ← he] at this
      exact HNE.out (by rw [this]; rfl)
    · exact z
  have hneb : ne ≤ 30000 := by
    have h1 := congrArg List.length hk.eq
    have h2 := endN_len P (l.map (·.1)) (l.map (·.1)).length
    rw [List.length_map, hk.len] at h1
    have := HLL.out; have := HLS.out; omega
  obtain ⟨ge, rfl⟩ : ∃ ge, A = some ⟨ge, 0, none⟩ := by
    rcases hk.own.2 with ⟨e, h0⟩ | ⟨ge, cp, cur, e, -⟩
    · omega
    · injection e with e1; exact ⟨ge, e1⟩
  have HSO := Lib.hid (essort_any (B := w.heap.size) (b := w.heap.size) (g := ge) (cap := c) (zs := es) W1 ⟨hk.len, hk.own, ⟨rfl, rfl, rfl, Nat.le_refl _, fun _ _ _ => rfl⟩, hk.ok⟩ (ix_of hk.eq) (by omega))
  have HGE := Lib.hid (hk.own.lt ge rfl)
  clear hk
  go_wp2_with fail
  refine HSO.out.mono ?_
  rintro e W2 ⟨rfl, ss, hs2, hsx, hpm⟩
  have HS2 := Lib.hid hs2
  have HPM := Lib.hid hpm
  have HB2 := Lib.hid (gb_below HK.out.below hs2.kept HGE.out.1 HK.out.below.size)
  have HCM := Lib.hid (ecompact_any (B := w.heap.size) W2 hs2.own hs2.len (by omega) hs2.ok hsx)
  clear hs2 hsx hpm
  go_wp2_with fail
  refine HCM.out.mono ?_
  rintro e W3 ⟨m, rs, rfl, hm, hml, ho3, c1, c2, c3, hg3⟩
  have HFM := Lib.hid (found_math (P := P) (l := l) (by rw [← HLS.out]; exact HK.out.eq) HPM.out c1 c2 c3)
  have HB3 := Lib.hid (gb_below HB2.out hg3 HGE.out.1 HB2.out.size)
  have HRO := Lib.hid (show ∀ e ∈ rs, EvI w.heap.size W3 e from fun e he => (HS2.out.ok e (c2 e he).1).kept HS2.out.own hg3)
  have HRI := Lib.hid (show ∀ e ∈ rs, e.i < l.length from fun e he => by
    have h1 := HPM.out.mem_iff.1 (c2 e he).1
    have h2 : evP e ∈ endN P (l.map (·.1)) (l.map (·.1)).length := by rw [← HK.out.eq]; exact List.mem_map.2 ⟨e, h1, rfl⟩
    have := (endN_snd P (l.map (·.1)) _).2 _ h2
    rw [HLS.out] at this; exact this)
  have HM := Lib.hid hm
  have hmb : m ≤ 30000 := by have := HS2.out.len; omega
  have HO3 := Lib.hid ho3
  obtain ⟨W0, hmk, hown0, hg0⟩ := run_make_own (P := Try.prog) W3 w.heap.size 29 38 i0 (.agg #[.slice none 0 0, .slice none 0 0, .slice none 0 0]) 3 Try.underlying29 hi0 hz0 hz1 .i64 .i64 m (by rw [hz2]; omega) (by unfold maxLen; omega) HB3.out.size
  have hgb : Below W3.heap.size W3 W0 := ⟨hg0.os, hg0.tape, hg0.output, hg0.size, fun k hk => hg0.block k hk (by simp)⟩
  obtain ⟨g0, hg0e⟩ : ∃ g, g = W3.heap.size := ⟨_, rfl⟩
  have HF0 := Lib.hid (show FdK l w.heap.size m 0 rs [] (.slice (some ⟨g0, 0, none⟩) 0 m) (.slice (some ⟨ge, 0, none⟩) m c) w W0 from ⟨rfl, ⟨by rw [hg0e]; exact hown0, fun f hf => (by cases hf)⟩, rfl, own_below HO3.out hgb, fun e he => (HRO.out e he).grow hgb, HB3.out.trans (hgb.mono HB3.out.size)⟩)
  rw [← hg0e] at hmk
  clear hm hml ho3 c1 c2 c3 hg3 hown0 hg0 hgb hg0e
  go_wp2
  go_loopw [4, 18] (fun x y wr => ∃ (k : Nat) (fs : List FV) (A : Option Addr) (c2 : Nat), x = .slice A k c2 ∧ y = .int .i64 k ∧ k ≤ m ∧ Hid (FdK l w.heap.size m k rs fs (.slice A k c2) (.slice (some ⟨ge, 0, none⟩) m c) w wr)) (fun _ y _ => m - (intOf y).toNat)
  case atStart => exact ⟨0, [], _, _, rfl, rfl, Nat.zero_le _, HF0⟩
  case round =>
    obtain ⟨k, fs, AF, cf, rfl, rfl, hk, HK5⟩ := hrel
    by_cases hlt : k < m
    · have hkr : k < rs.length := by have := HM.out; omega
      obtain ⟨e0, e1, e2⟩ := ev_at HK5.out.row HM.out hkr
      have hev := HK5.out.rok _ (List.getElem_mem hkr)
      obtain ⟨⟨A1, n1, q1, em1⟩, A2, n2, q2, em2⟩ := And.intro hev.ok.1.sl hev.ok.2.sl
      have HWC := Lib.hid (fun (W : World) (hW : Below w.heap.size w W) => HWY.out rs[k].i (HRI.out _ (List.getElem_mem hkr)) W hW)
      have HWE := Lib.hid (show wayAt l rs[k].i = (l[rs[k].i]'(HRI.out _ (List.getElem_mem hkr))).2 from by unfold wayAt; rw [List.getElem?_eq_getElem (HRI.out _ (List.getElem_mem hkr))])
      have HNX := Lib.hid (fun (v v' W W') (x : FV) h hn hx hxi ho hg hs => FdK.next (l := l) (b := w.heap.size) (m := m) (u := .slice (some ⟨ge, 0, none⟩) m c) (w := w) (fs := fs) (n := k) (v := v) (v' := v') (W := W) (W' := W') (x := x) h hkr hn hx hxi ho hg hs)
      obtain ⟨wy, hwy⟩ : ∃ q, q = (l[rs[k].i]'(HRI.out _ (List.getElem_mem hkr))).2 := ⟨_, rfl⟩
      rw [← hwy] at HWE
      simp only [← hwy] at HWC
      have HEP := Lib.hid (show endW l (evP rs[k]) = (rs[k].o, wy) from by show (rs[k].o, wayAt l rs[k].i) = _; rw [HWE.out])
      obtain ⟨x, hx⟩ : ∃ z, z = rs[k] := ⟨_, rfl⟩
      rw [← hx] at e0 e1 e2 hev em1 em2 HEP
      simp only [← hx] at HWC HNX
      clear hx hwy HWE hkr
      obtain ⟨xm, xr, xo, xi⟩ := x
      dsimp only at e0 e1 e2 hev em1 em2 HWC HEP
      subst em1 em2
      have HEV := Lib.hid hev
      clear hev
      obtain ⟨W6, hW6⟩ : ∃ W, W = wr.alloc (.cells #[.slice A1 n1 q1, .slice A2 n2 q2, .int .i64 (xi : Int)] 85) := ⟨_, rfl⟩
      obtain ⟨gt, hgt⟩ : ∃ y, y = wr.heap.size := ⟨_, rfl⟩
      have HTB := Lib.hid (show BoxC W6 gt 85 #[.slice A1 n1 q1, .slice A2 n2 q2, .int .i64 (xi : Int)] from by rw [hW6, hgt]; exact BoxC.new wr _ _)
      have HB6 := Lib.hid (show Below wr.heap.size wr W6 from by rw [hW6]; exact below_al (Below.refl _ _) _)
      have HK6 := Lib.hid (HK5.out.grow HB6.out HK5.out.below.size)
      have HE6 := Lib.hid (HEV.out.grow HB6.out)
      go_upto_region 8 with fail
      rw [← hW6]
      (try rw [← hgt])
      clear hW6 hgt e0 e1 e2
      refine wp_region_held_drew (S := (fun w' => w'.cell? ⟨gt, 0, none⟩ = some (.slice A1 n1 q1) ∧ w'.cell? ⟨gt, 1, none⟩ = some (.slice A2 n2 q2) ∧ w'.cell? ⟨gt, 2, none⟩ = some (.int .i64 (xi : Int)) ∧ True)) (by kernel_rfl) ⟨HTB.out.cell 0 (.slice A1 n1 q1) rfl, HTB.out.cell 1 (.slice A2 n2 q2) rfl, HTB.out.cell 2 (.int .i64 (xi : Int)) rfl, trivial⟩ (fun hHeld => ?_)
      obtain ⟨Xs, hXs⟩ : ∃ W, W = W6.drew := ⟨_, rfl⟩
      have HDR := Lib.hid (show Below W6.heap.size W6 Xs from by rw [hXs]; exact below_drewN (Below.refl _ _) 1)
      rw [← hXs]
      rw [← hXs] at hHeld
      clear hXs
      have HKX := Lib.hid (HK6.out.grow HDR.out HK6.out.below.size)
      have HEX := Lib.hid (HE6.out.grow HDR.out)
      have HTX := Lib.hid (HTB.out.below HDR.out HTB.out.lt)
      refine wpAnyH_take (i := 0) (v := ?_) rfl (by kernel_rfl) (by kernel_rfl) (by kernel_rfl) (fun _ _ _ h => h) (Or.inl ⟨by rfl, ?_⟩) (by assumption) ?_
      rotate_left
      · intro w hSw; (try dsimp only at hSw); go_simp; (try with_reducible rfl)
      (try simp only [Act.put, pt8])
      refine wpAnyH_take (i := 1) (v := ?_) rfl (by kernel_rfl) (by kernel_rfl) (by kernel_rfl) (fun _ _ _ h => h) (Or.inl ⟨by rfl, ?_⟩) (by assumption) ?_
      rotate_left
      · intro w hSw; (try dsimp only at hSw); go_simp; (try with_reducible rfl)
      (try simp only [Act.put, pt8])
      refine wpAnyH_take (i := 2) (v := ?_) rfl (by kernel_rfl) (by kernel_rfl) (by kernel_rfl) (fun _ _ _ h => h) (Or.inl ⟨by rfl, ?_⟩) (by assumption) ?_
      rotate_left
      · intro w hSw; (try dsimp only at hSw); go_simp; (try with_reducible rfl)
      (try simp only [Act.put, pt8])
      refine wpAnyH_take (i := 3) (v := ?_) rfl (by kernel_rfl) (by kernel_rfl) (by kernel_rfl) (fun _ _ _ h => h) (Or.inl ⟨by rfl, ?_⟩) (by assumption) ?_
      rotate_left
      · intro w hSw; (try dsimp only at hSw); go_simp; (try with_reducible rfl)
      (try simp only [Act.put, pt8])
      refine wpAnyH_take (i := 4) (v := ?_) rfl (by kernel_rfl) (by kernel_rfl) (by kernel_rfl) (fun _ _ _ h => h) (Or.inl ⟨by rfl, ?_⟩) (by assumption) ?_
      rotate_left
      · intro w hSw; (try dsimp only at hSw); go_simp; (try with_reducible rfl)
      (try simp only [Act.put, pt8])
      refine wpAnyH_take (i := 5) (v := ?_) rfl (by kernel_rfl) (by kernel_rfl) (by kernel_rfl) (fun _ _ _ h => h) (Or.inl ⟨by rfl, ?_⟩) (by assumption) ?_
      rotate_left
      · intro w hSw; (try dsimp only at hSw); go_simp; (try with_reducible rfl)
      (try simp only [Act.put, pt8])
      refine wpAnyH_ready (rs := [6]) (by kernel_rfl) (by simp) ?_
      refine AllReadyH.cons rfl (fun K hK => ?_) AllReadyH.nil
      go_simp
      refine (HWC.out _ HKX.out.below).mono ?_
      rintro e V ⟨pv, rfl, hok, hb⟩
      have HPV := Lib.hid (show V.ownsRow w.heap.size 76 2 pv wy.length (wy.flatMap pkC) from own_base hok HKX.out.below.size)
      have HKV := Lib.hid (HKX.out.grow hb HKX.out.below.size)
      have HEVV := Lib.hid (HEX.out.grow hb)
      have HTV := Lib.hid (HTX.out.below hb HTX.out.lt)
      obtain ⟨AP, cp, rfl⟩ := own_slice HPV.out
      clear hok hb
      refine hK.out _ _ ⟨HTV.out.cell 0 (.slice A1 n1 q1) rfl, HTV.out.cell 1 (.slice A2 n2 q2) rfl, HTV.out.cell 2 (.int .i64 (xi : Int)) rfl, trivial⟩ (fun hHeld => ?_)
      clear hK K
      (try simp only [Act.put, pt8])
      refine wpAnyH_take (i := 7) (v := ?_) rfl (by kernel_rfl) (by kernel_rfl) (by kernel_rfl) (fun _ _ _ h => h) (Or.inl ⟨by rfl, ?_⟩) (by assumption) ?_
      rotate_left
      · intro w hSw; (try dsimp only at hSw); go_simp; (try with_reducible rfl)
      (try simp only [Act.put, pt8])
      refine wpAnyH_ready (rs := [8]) (by kernel_rfl) (by simp) ?_
      refine AllReadyH.cons rfl (fun K hK => ?_) AllReadyH.nil
      go_simp
      refine hK.out _ _ (show _ from by have hq := (HTV.out.below (below_al (Below.refl V.heap.size V) (.cells #[.slice A1 n1 q1, .slice A2 n2 q2, .slice AP wy.length cp] 38)) HTV.out.lt); exact ⟨hq.cell 0 (.slice A1 n1 q1) rfl, hq.cell 1 (.slice A2 n2 q2) rfl, hq.cell 2 (.int .i64 (xi : Int)) rfl, trivial⟩) (fun hHeld => ?_)
      clear hK K
      (try simp only [Act.put, pt8])
      obtain ⟨Wb, hWb⟩ : ∃ W, W = V.alloc (.cells #[.slice A1 n1 q1, .slice A2 n2 q2, .slice AP wy.length cp] 38) := ⟨_, rfl⟩
      obtain ⟨gs, hgs⟩ : ∃ y, y = V.heap.size := ⟨_, rfl⟩
      have HNB := Lib.hid (show BoxC Wb gs 38 #[.slice A1 n1 q1, .slice A2 n2 q2, .slice AP wy.length cp] from by rw [hWb, hgs]; exact BoxC.new V _ _)
      have HBL := Lib.hid (show Below V.heap.size V Wb from by rw [hWb]; exact below_al (Below.refl _ _) _)
      rw [← hWb]
      (try rw [← hgs])
      clear hWb hgs
      have HKB := Lib.hid (HKV.out.grow HBL.out HKV.out.below.size)
      have HEB := Lib.hid (HEVV.out.grow HBL.out)
      have HPB := Lib.hid (own_below HPV.out HBL.out)
      have HTb := Lib.hid (HTV.out.below HBL.out HTV.out.lt)
      refine wpAnyH_ready (rs := [9]) (by kernel_rfl) (by simp) ?_
      refine AllReadyH.cons rfl (fun K hK => ?_) AllReadyH.nil
      refine step_append_src (by rfl) _ _ _ (by rfl) w.heap.size 38 i0 (.agg #[.slice none 0 0, .slice none 0 0, .slice none 0 0]) 3 72 Try.underlying29 hi0 hz0 hz1 hz2 (by rfl) (by decide) _ k (fs.flatMap fvC) (by rfl) (by have := HKB.out.fd.own; rw [HKB.out.len] at this; exact this) (some ⟨gs, 0, none⟩) 1 1 [.slice A1 n1 q1, .slice A2 n2 q2, .slice AP wy.length cp] (by rfl) (by rfl) (fun c => (by cases c)) (lit_at HNB.out) (by simp [Value.oneCell']) (by unfold maxLen; omega) (by omega) HKB.out.below.size (fun v9 W9 hown hg => ?_)
      obtain ⟨A9, c9, rfl⟩ := own_slice hown
      have HT9 := Lib.hid (HTb.out.grown (by decide) HKB.out.fd.own hg)
      have HK9 := Lib.hid (HNX.out _ _ _ _ ⟨.slice A1 n1 q1, .slice A2 n2 q2, .slice AP wy.length cp, xo, wy⟩ HKB.out HKB.out.len HEP.out.symm ⟨HEB.out.1, HEB.out.2, HPB.out⟩ hown hg HKB.out.below.size)
      clear hown hg
      refine hK.out _ _ ⟨HT9.out.cell 0 (.slice A1 n1 q1) rfl, HT9.out.cell 1 (.slice A2 n2 q2) rfl, HT9.out.cell 2 (.int .i64 (xi : Int)) rfl, trivial⟩ (fun hHeld => ?_)
      clear hK K
      (try simp only [Act.put, pt8])
      refine wpAnyH_ready (rs := [10]) (by kernel_rfl) (by simp) ?_
      refine AllReadyH.cons rfl (fun K hK => ?_) AllReadyH.nil
      go_simp
      refine hK.out _ _ hHeld (fun hHeld => ?_)
      clear hK K
      (try simp only [Act.put, pt8])
      refine wpAnyH_done (by kernel_rfl) ?_ _
      clear hHeld
      go_wp2
      go_roundw
      case rel => exact ⟨k + 1, _, A9, c9, rfl, by go_num, by omega, HK9⟩
      case measure => simp [intOf]; omega
    · obtain rfl : k = m := by omega
      have HE := Lib.hid (show fs.map fvP = fnd (ExO.endsOf (overB P) enS l) from by rw [HK5.out.eq, ← HM.out, List.take_length]; exact HFM.out)
      go_wp2
      go_ret
      exact ⟨_, fs, rfl, HK5.out.fd, HE.out, HK5.out.below⟩
end Go.Proofs.Ytbffjhdocicfoaa
