/-
  THE SEARCH: all that is reached.
-/
import Derived.Test.YtbffjhdocicfoaaK33
import Derived.ScopeJumps
import Derived.WalkMore
namespace Go.Proofs.Ytbffjhdocicfoaa
open Go.RowKit Go.WideMaps
set_option linter.unusedVariables false
set_option linter.unusedSimpArgs false
open CodM (St Pg rightP hReg hLoc)
open BfM (Wr plc)
open NumM (inR)
open ScM EnM ExM ExN ExP EyP

theorem part_at {P : Pg} {wk : Bool} {k j i : Nat} (h : i < (row (nx P wk) (beg P) k).length) : ∃ h2 : i < (EyP.part P wk k j).length, (EyP.part P wk k j)[i] = (row (nx P wk) (beg P) k)[i] := by
  unfold EyP.part
  split
  · obtain ⟨r, hr⟩ := fold_pre _ ((nx P wk _).take j) (row (nx P wk) (beg P) k)
    refine ⟨by rw [hr, List.length_append]; omega, ?_⟩
    simp only [hr]
    rw [List.getElem_append_left h]
  · exact ⟨h, rfl⟩
/-- Where the search is: j of the successors of the k-th state have been put in. -/
structure AllK (n0 g mb : Nat) (P : Pg) (wk : Bool) (pi pt : Value) (mm k j : Nat) (ys : List RV) (vr : Value) (w W : World) : Prop where
  sr : SrB n0 g mb wk pi pt ys vr W
  kp : KpI n0 w W
  lk : Lk (rns ys) (EyP.part P wk k j)
  le : ys.length ≤ mm
  kl : k ≤ (row (nx P wk) (beg P) k).length
theorem AllK.len {n0 g mb : Nat} {P : Pg} {wk : Bool} {pi pt vr : Value} {mm k j : Nat} {ys : List RV} {w W : World} (h : AllK n0 g mb P wk pi pt mm k j ys vr w W) : ys.length = (EyP.part P wk k j).length := by
  have := h.lk.len; rwa [List.length_map] at this
theorem AllK.grown {n0 g mb : Nat} {P : Pg} {wk : Bool} {pi pt vr : Value} {mm k j : Nat} {ys : List RV} {w W W' : World} (h : AllK n0 g mb P wk pi pt mm k j ys vr w W) (hb : Below W.heap.size W W') : AllK n0 g mb P wk pi pt mm k j ys vr w W' :=
  { h with sr := h.sr.below hb, kp := h.kp.trans (KpI.of hb) }
theorem rn_at {ys : List RV} {i : Nat} (h : i < ys.length) : ∃ h2 : i < (rns ys).length, (rns ys)[i] = ys[i].n := ⟨by simpa using h, by simp⟩
theorem lk_rd {P : Pg} {wk : Bool} {ys : List RV} {k j : Nat} (hp : rightP P = true) (hin : InP P) (h : Lk (rns ys) (EyP.part P wk k j)) : ∀ y ∈ ys, Rd P wk y.n.s := by
  intro y hy
  obtain ⟨i, hi, rfl⟩ := List.mem_iff_getElem.1 hy
  have hl := h.len
  rw [List.length_map] at hl
  have e := h.st i (by simpa using hi) (by omega)
  rw [(rn_at hi).2] at e
  rw [e]
  exact leads_rd hp hin (part_leads P wk k j _ (List.getElem_mem _))
/-- What the k-th state is. -/
theorem AllK.st {n0 g mb : Nat} {P : Pg} {wk : Bool} {pi pt vr : Value} {mm k j : Nat} {ys : List RV} {w W : World} (h : AllK n0 g mb P wk pi pt mm k j ys vr w W) (hk : k < (row (nx P wk) (beg P) k).length) : ∃ h2 : k < ys.length, ys[k].n.s = (row (nx P wk) (beg P) k)[k].1 := by
  obtain ⟨h2, e⟩ := part_at (j := j) hk
  have hl := h.len
  refine ⟨by omega, ?_⟩
  have := h.lk.st k (by simp; omega) h2
  rw [(rn_at (show k < ys.length by omega)).2, e] at this
  exact this
/-- One more successor. -/
theorem AllK.next {n0 g mb : Nat} {P : Pg} {wk : Bool} {pi pt vr vr' : Value} {mm k j : Nat} {ys : List RV} {w W W' : World} {x : RV} {s : Sta} {wy : List (Nat × Bool)} {p : Nat × Bool} {t : Sta} (h : AllK n0 g mb P wk pi pt mm k j ys vr w W) (hk : (row (nx P wk) (beg P) k)[k]? = some (s, wy)) (hj : j < (nx P wk s).length) (e : (nx P wk s)[j] = (p, t)) (hx : x.n = ⟨t, k, p⟩)
    (hs : SrB n0 g mb wk pi pt (if x.n.s ∈ ys.map (·.n.s) then ys else ys ++ [x]) vr' W') (hi : KpI n0 w W') : ∃ ys', SrB n0 g mb wk pi pt ys' vr' W' ∧ KpI n0 w W' ∧ Lk (rns ys') (EyP.part P wk k (j + 1)) ∧ ys'.length ≤ ys.length + 1 := by
  obtain ⟨hk1, hk2⟩ := List.getElem?_eq_some_iff.1 hk
  obtain ⟨h2, e2⟩ := part_at (j := j) hk1
  rw [hk2] at e2
  refine ⟨_, hs, hi, ?_, by split <;> simp⟩
  rw [part_succ hk hj, e]
  have ha := h.lk.add h2 p t
  rw [e2] at ha
  have hm : (rns ys).map (·.s) = ys.map (·.n.s) := by rw [List.map_map]; rfl
  rw [hm] at ha
  rw [hx]
  by_cases c : t ∈ ys.map (·.n.s)
  · rw [if_pos c] at ha; rw [if_pos c]; exact ha
  · rw [if_neg c] at ha; rw [if_neg c]
    show Lk (List.map _ (ys ++ [x])) _
    rw [List.map_append, List.map_singleton, hx]; exact ha
/-- What holds at the end. -/
def AllE (n0 g mb : Nat) (P : Pg) (wk : Bool) (pi pt : Value) (most : Int) (w W : World) : Prop := ∃ ys vr, SrB n0 g mb wk pi pt ys vr W ∧ KpI n0 w W ∧ ys.length ≤ 30000 ∧
  (((ys.length : Nat) : Int) ≤ most → ∃ l, Full (nx P wk) (beg P) l ∧ Lk (rns ys) l) ∧ (most < (ys.length : Nat) → ∀ L, Full (nx P wk) (beg P) L → most < (L.length : Int))
def AllRet (n0 g mb : Nat) (P : Pg) (wk : Bool) (pi pt : Value) (most : Int) (w : World) (e : Ending) (w' : World) : Prop := ∃ b ys vr, e = .returned (.bool b) ∧ SrB n0 g mb wk pi pt ys vr w' ∧ KpI n0 w w' ∧ ys.length ≤ 30000 ∧
  (b = true → ((ys.length : Nat) : Int) ≤ most ∧ ∃ l, Full (nx P wk) (beg P) l ∧ Lk (rns ys) l) ∧ (b = false → ∀ L, Full (nx P wk) (beg P) L → most < (L.length : Int))
def JA (n0 g mb : Nat) (P : Pg) (wk : Bool) (pi pt : Value) (most : Int) (w : World) (a : Act) (W : World) : Prop := ∃ u2 u3 u4 u5 u6 u7 u8 u9 u10 u11 u12 u13 u14 u15 u16 u17 u18 u19 u20 u21 u22 u23 u24 u25 u26 u27 u28 u29 u30 u31 u32 u33 u34 u35 u36 u37 u38 u39 u40 u41 u42 u43 u44 u45 u46 u47 u48 u49 u50 u51 u52 u53 u54 u55, a = ⟨#[.pointer (some ⟨g, 0, none⟩), .int .i64 most, u2, u3, u4, u5, u6, u7, u8, u9, u10, u11, u12, u13, u14, u15, u16, u17, u18, u19, u20, u21, u22, u23, u24, u25, u26, u27, u28, u29, u30, u31, u32, u33, u34, u35, u36, u37, u38, u39, u40, u41, u42, u43, u44, u45, u46, u47, u48, u49, u50, u51, u52, u53, u54, u55], []⟩ ∧ AllE n0 g mb P wk pi pt most w W
set_option maxHeartbeats 16000000 in
set_option maxRecDepth 100000 in
theorem xall_any {B n0 g mb : Nat} {wk : Bool} {pi pt vr : Value} {x0 : RV} {P : Pg} (most : Int) (w : World) (h : SrB n0 g mb wk pi pt [x0] vr w) (hx0 : x0.n = ⟨beg P, 0, (0, false)⟩) (hP : PgV B w (.agg #[pi, pt]) P) (hB : B ≤ n0) (hn0 : n0 ≤ w.heap.size) (hp : rightP P = true) (hin : InP P) (hm : most ≤ 20000) :
    Calls Try.prog 25 #[.pointer (some ⟨g, 0, none⟩), .int .i64 most] w (AllRet n0 g mb P wk pi pt most w) := by
  obtain ⟨mm, hmm⟩ : ∃ m, m = max most.toNat 1 := ⟨_, rfl⟩
  have HMM := Lib.hid hmm
  have hm2 : mm ≤ 20000 := by omega
  have HN0 := Lib.hid hn0
  have H0 := Lib.hid (show AllK n0 g mb P wk pi pt mm 0 0 [x0] vr w w from ⟨h, KpI.refl _ _, by rw [part_zero]; show Lk [x0.n] _; rw [hx0]; exact Lk.start P, by show 1 ≤ mm; omega, Nat.zero_le _⟩)
  have HRD := Lib.hid (fun (ys : List RV) (k j : Nat) (hl : Lk (rns ys) (EyP.part P wk k j)) => lk_rd hp hin hl)
  have HPK := Lib.hid (fun (W : World) (hW : Below n0 w W) (s : Sta) (u : Value) (hu : StaV W.heap.size W u s) (hd : Rd P wk s) => tpicks_any W ((hP.below (hW.mono hB)).more (Nat.le_trans hB (Nat.le_trans hn0 hW.size))) hu (Nat.le_refl _) hd.rc.ok (hd.wide.ths))
  have HBH := Lib.hid (fun (W : World) (hW : Below n0 w W) (ys : List RV) (vr : Value) (i p1 : Nat) (p2 : Bool) (s' : Sta) (hs : SrB n0 g mb wk pi pt ys vr W) (hi : i < ys.length) (hl : ys.length ≤ 30000) (hd : Rd P wk ys[i].n.s) (hr : rst P ys[i].n.s (p1 : Int) p2 wk = some s') => xbehind_any W hs (hP.below (hW.mono hB)) hB (Nat.le_trans hn0 hW.size) hi hl hp hd.rc.ok (hd.wide.more (by decide)) hr)
  have HLD := Lib.hid (fun (k j : Nat) (m) (hm : m ∈ EyP.part P wk k j) => leads_rd hp hin (part_leads P wk k j m hm))
  have HRT := Lib.hid (fun (k : Nat) (s : Sta) (wy) (hk : (row (nx P wk) (beg P) k)[k]? = some (s, wy)) (p : Nat × Bool) (t : Sta) (hm : (p, t) ∈ nx P wk s) => leads_rd hp hin (ExM.Leads.snoc (row_leads (nx P wk) (beg P) k _ (List.mem_of_getElem? hk)) hm))
  obtain ⟨pi', pt', e3, hpm⟩ := hP
  injection e3 with e3
  obtain ⟨rfl, rfl⟩ : pi = pi' ∧ pt = pt' := by simpa using e3
  obtain ⟨⟨P0, d0, rfl, -⟩, ⟨P1, d1, rfl, -⟩⟩ := hpm
  clear h hx0 e3 hp hin hB hn0 hmm
  go_enter Try.func25, Try.ntmps25
  go_wp2
  refine wp_scope_jumps 0 (JA n0 g mb P wk (.slice P0 P.init.length d0) (.slice P1 P.ths.length d1) most w) (fun _ _ => 0) rfl ?first ?pass
  case pass =>
    rintro a' W ⟨u2, u3, u4, u5, u6, u7, u8, u9, u10, u11, u12, u13, u14, u15, u16, u17, u18, u19, u20, u21, u22, u23, u24, u25, u26, u27, u28, u29, u30, u31, u32, u33, u34, u35, u36, u37, u38, u39, u40, u41, u42, u43, u44, u45, u46, u47, u48, u49, u50, u51, u52, u53, u54, u55, rfl, ys, vr, hs, hk, hl, ht, hf⟩
    obtain ⟨ln, hln⟩ : ∃ n, n = ys.length := ⟨_, rfl⟩
    obtain ⟨AR, cr, er⟩ := own_slice hs.row
    rw [← hln] at er hl ht hf
    subst er
    have HS := Lib.hid hs
    have g3 := hs.box.cell 3 (.slice AR ln cr) rfl
    have HLN := Lib.hid hln
    have HK := Lib.hid hk
    by_cases hle : (ln : Int) ≤ most
    · have HE := Lib.hid (ht hle)
      clear hs hln hk ht hf
      go_wp2
      simp only [Exit.jump]
      go_ret
      exact ⟨true, ys, _, by simp [hle], HS.out, HK.out, by have := HLN.out; omega, fun _ => ⟨by have := HLN.out; omega, HE.out⟩, fun h => (by cases h)⟩
    · have HE := Lib.hid (hf (by omega))
      clear hs hln hk ht hf
      go_wp2
      simp only [Exit.jump]
      go_ret
      exact ⟨false, ys, _, by simp [hle], HS.out, HK.out, by have := HLN.out; omega, fun h => (by cases h), fun _ => HE.out⟩
  case first =>
  go_wp2
  go_loopw [5] (fun u wr => ∃ (k : Nat) (ys : List RV) (vr : Value), u = .int .i64 k ∧ k ≤ mm ∧ Hid (AllK n0 g mb P wk (.slice P0 P.init.length d0) (.slice P1 P.ths.length d1) mm k 0 ys vr w wr)) (fun u _ => mm - (intOf u).toNat)
  case atStart => exact ⟨0, [x0], vr, rfl, Nat.zero_le _, H0⟩
  case round =>
    obtain ⟨k, ys, vr, rfl, hkm, HK⟩ := hrel
    obtain ⟨ln, hln⟩ : ∃ n, n = ys.length := ⟨_, rfl⟩
    obtain ⟨AR, cr, er⟩ := own_slice HK.out.sr.row
    rw [← hln] at er
    subst er
    have HLN := Lib.hid (show ln = ys.length ∧ ln = (row (nx P wk) (beg P) k).length ∧ ln ≤ mm ∧ k ≤ ln from by have h1 := HK.out.len; have h2 := HK.out.le; have h3 := HK.out.kl; rw [part_zero] at h1; omega)
    have hlm : ln ≤ 20000 := by have := HLN.out; omega
    have g3 := HK.out.sr.box.cell 3 (.slice AR ln cr) rfl
    clear hln
    by_cases hlt : k < ln
    · obtain ⟨hky, hst⟩ := HK.out.st (by have := HLN.out; omega)
      have hkr : k < (row (nx P wk) (beg P) k).length := by have := HLN.out; omega
      have hrk : (row (nx P wk) (beg P) k)[k]? = some ((row (nx P wk) (beg P) k)[k].1, (row (nx P wk) (beg P) k)[k].2) := List.getElem?_eq_getElem hkr
      obtain ⟨gr, cr2, er, r0, r1, -⟩ := HK.out.sr.at hky
      injection er with er1 er0 er2
      clear er0
      subst er1 er2
      have hrd := HRD.out ys k 0 HK.out.lk _ (List.getElem_mem hky)
      have hsv := (HK.out.sr.st _ (List.getElem_mem hky))
      obtain ⟨A1, c1, A2, c2, e1, e2⟩ := hsv.sl
      rw [e1] at r0
      rw [e2] at r1
      have HPC := Lib.hid (fun (W : World) (hW : Below wr.heap.size wr W) => HPK.out W ((HK.out.kp.trans (KpI.of hW)).below HN0.out) ys[k].n.s (.agg #[ys[k].vm, ys[k].vt]) ((hsv.kpi (KpI.of (n := n0) hW)).sv) hrd)
      rw [e1, e2] at HPC
      obtain ⟨sy, hsy⟩ : ∃ s, s = ys[k].n.s := ⟨_, rfl⟩
      obtain ⟨wy, hwy⟩ : ∃ s, s = (row (nx P wk) (beg P) k)[k].2 := ⟨_, rfl⟩
      rw [← hst, ← hsy, ← hwy] at hrk
      rw [← hsy] at hrd r0 r1 HPC
      have HRK := Lib.hid hrk
      have HRDS := Lib.hid hrd
      have HNM := Lib.hid (nx_map hrd.rc)
      have HYK := Lib.hid (fun (j : Nat) (ys' : List RV) (vr' : Value) (W : World) (h : AllK n0 g mb P wk (.slice P0 P.init.length d0) (.slice P1 P.ths.length d1) mm k j ys' vr' w W) => show ∃ h2 : k < ys'.length, ys'[k].n.s = sy from by
        obtain ⟨h2, e⟩ := h.st hkr
        exact ⟨h2, by rw [e, ← hst, hsy]⟩)
      have q0 := HK.out.sr.box.cell 0 (.slice P0 P.init.length d0) rfl
      have q1 := HK.out.sr.box.cell 1 (.slice P1 P.ths.length d1) rfl
      clear hst hrk e1 e2 hsv hrd hsy hwy hkr hky
      go_upto_region 4 with fail
      refine wp_region_held_drew (S := (fun w' => (w'.cell? ⟨g, 0, none⟩ = some (.slice P0 P.init.length d0) ∧ w'.cell? ⟨g, 1, none⟩ = some (.slice P1 P.ths.length d1) ∧ w'.cell? ⟨g, 3, none⟩ = some (.slice (some ⟨gr, 0, none⟩) ln cr) ∧ w'.cell? ⟨gr, k * 5, none⟩ = some (.slice A1 sy.mem.length c1) ∧ w'.cell? ⟨gr, k * 5 + 1, none⟩ = some (.slice A2 sy.ths.length c2) ∧ True) ∧ Below wr.heap.size wr w')) (by kernel_rfl) ⟨⟨q0, q1, g3, r0, r1, trivial⟩, below_drewN (Below.refl _ _) 1⟩ (fun hHeld => ?_)
      refine wpAnyH_take (i := 0) (v := ?_) rfl (by kernel_rfl) (by kernel_rfl) (by kernel_rfl) (fun _ _ _ h => h) (Or.inl ⟨by rfl, ?_⟩) (by assumption) ?_
      rotate_left
      · intro w hSw; (try dsimp only at hSw); go_simp; (try with_reducible rfl)
      (try simp only [Act.put, pt8])
      refine wpAnyH_take (i := 1) (v := ?_) rfl (by kernel_rfl) (by kernel_rfl) (by kernel_rfl) (fun _ _ _ h => h) (Or.inl ⟨by rfl, ?_⟩) (by assumption) ?_
      rotate_left
      · intro w hSw; (try dsimp only at hSw); go_simp; (try with_reducible rfl)
      (try simp only [Act.put, pt8])
      refine wpAnyH_take (i := 2) (v := ?_) rfl (by kernel_rfl) (by kernel_rfl) (by kernel_rfl) (fun _ _ _ h => h) (Or.inl ⟨by rfl, ?_⟩) (by assumption) ?_
      rotate_left
      · intro w hSw; (try dsimp only at hSw); go_simp; (try with_reducible rfl)
      (try simp only [Act.put, pt8])
      refine wpAnyH_take (i := 3) (v := ?_) rfl (by kernel_rfl) (by kernel_rfl) (by kernel_rfl) (fun _ _ _ h => h) (Or.inl ⟨by rfl, ?_⟩) (by assumption) ?_
      rotate_left
      · intro w hSw; (try dsimp only at hSw); go_simp; (try with_reducible rfl)
      (try simp only [Act.put, pt8])
      refine wpAnyH_take (i := 4) (v := ?_) rfl (by kernel_rfl) (by kernel_rfl) (by kernel_rfl) (fun _ _ _ h => h) (Or.inl ⟨by rfl, ?_⟩) (by assumption) ?_
      rotate_left
      · intro w hSw; (try dsimp only at hSw); go_simp; (try with_reducible rfl)
      (try simp only [Act.put, pt8])
      refine wpAnyH_take (i := 5) (v := ?_) rfl (by kernel_rfl) (by kernel_rfl) (by kernel_rfl) (fun _ _ _ h => h) (Or.inl ⟨by rfl, ?_⟩) (by assumption) ?_
      rotate_left
      · intro w hSw; (try dsimp only at hSw); go_simp; (try with_reducible rfl)
      (try simp only [Act.put, pt8])
      refine wpAnyH_take (i := 6) (v := ?_) rfl (by kernel_rfl) (by kernel_rfl) (by kernel_rfl) (fun _ _ _ h => h) (Or.inl ⟨by rfl, ?_⟩) (by assumption) ?_
      rotate_left
      · intro w hSw; (try dsimp only at hSw); go_simp; (try with_reducible rfl)
      (try simp only [Act.put, pt8])
      refine wpAnyH_take (i := 7) (v := ?_) rfl (by kernel_rfl) (by kernel_rfl) (by kernel_rfl) (fun _ _ _ h => h) (Or.inl ⟨by rfl, ?_⟩) (by assumption) ?_
      rotate_left
      · intro w hSw; (try dsimp only at hSw); go_simp; (try with_reducible rfl)
      (try simp only [Act.put, pt8])
      refine wpAnyH_take (i := 8) (v := ?_) rfl (by kernel_rfl) (by kernel_rfl) (by kernel_rfl) (fun _ _ _ h => h) (Or.inl ⟨by rfl, ?_⟩) (by assumption) ?_
      rotate_left
      · intro w hSw; (try dsimp only at hSw); go_simp; (try with_reducible rfl)
      (try simp only [Act.put, pt8])
      refine wpAnyH_take (i := 9) (v := ?_) rfl (by kernel_rfl) (by kernel_rfl) (by kernel_rfl) (fun _ _ _ h => h) (Or.inl ⟨by rfl, ?_⟩) (by assumption) ?_
      rotate_left
      · intro w hSw; (try dsimp only at hSw); go_simp; (try with_reducible rfl)
      (try simp only [Act.put, pt8])
      refine wpAnyH_take (i := 10) (v := ?_) rfl (by kernel_rfl) (by kernel_rfl) (by kernel_rfl) (fun _ _ _ h => h) (Or.inl ⟨by rfl, ?_⟩) (by assumption) ?_
      rotate_left
      · intro w hSw; (try dsimp only at hSw); go_simp; (try with_reducible rfl)
      (try simp only [Act.put, pt8])
      refine wpAnyH_take (i := 11) (v := ?_) rfl (by kernel_rfl) (by kernel_rfl) (by kernel_rfl) (fun _ _ _ h => h) (Or.inl ⟨by rfl, ?_⟩) (by assumption) ?_
      rotate_left
      · intro w hSw; (try dsimp only at hSw); go_simp; (try with_reducible rfl)
      (try simp only [Act.put, pt8])
      refine wpAnyH_take (i := 14) (v := ?_) rfl (by kernel_rfl) (by kernel_rfl) (by kernel_rfl) (fun _ _ _ h => h) (Or.inl ⟨by rfl, ?_⟩) (by assumption) ?_
      rotate_left
      · intro w hSw; (try dsimp only at hSw); go_simp; (try with_reducible rfl)
      (try simp only [Act.put, pt8])
      refine wpAnyH_ready (rs := [12]) (by kernel_rfl) (by simp) ?_
      refine AllReadyH.cons rfl (fun K hK => ?_) AllReadyH.nil
      go_simp
      refine (HPC.out _ hHeld.2).mono ?_
      rintro e V ⟨xv, rfl, hok, hb⟩
      have HBV := Lib.hid (show Below wr.heap.size wr V from chain hHeld.2 hb)
      have HOK := Lib.hid (show V.ownsRow n0 76 2 xv (pks P sy).length ((pks P sy).flatMap pkC) from own_base hok (Nat.le_trans HN0.out (Nat.le_trans HK.out.kp.size hHeld.2.size)))
      obtain ⟨AK, ck, rfl⟩ := own_slice HOK.out
      clear hok hb
      refine hK.out _ _ ⟨⟨kc HBV.out q0, kc HBV.out q1, kc HBV.out g3, kc HBV.out r0, kc HBV.out r1, trivial⟩, HBV.out⟩ (fun hHeld => ?_)
      clear hK K
      (try simp only [Act.put, pt8])
      refine wpAnyH_take (i := 13) (v := ?_) rfl (by kernel_rfl) (by kernel_rfl) (by kernel_rfl) (fun _ _ _ h => h) (Or.inl ⟨by rfl, ?_⟩) (by assumption) ?_
      rotate_left
      · intro w hSw; (try dsimp only at hSw); go_simp; (try with_reducible rfl)
      (try simp only [Act.put, pt8])
      refine wpAnyH_done (by kernel_rfl) ?_ _
      clear hHeld q0 q1 g3 r0 r1
      have HKV := Lib.hid (HK.out.grown HBV.out)
      obtain ⟨npk, hnpk⟩ : ∃ n, n = (pks P sy).length := ⟨_, rfl⟩
      have hpk18 : npk ≤ 18 := by have := pkN_len P sy sy.ths.length; have := HRDS.out.wide.ths; have h3 := HRDS.out.rc.ok.ths; rw [hnpk]; unfold pks; omega
      rw [← hnpk] at HOK
      rw [← hnpk]
      have HNP := Lib.hid hnpk
      clear hnpk
      go_wp2
      go_loopw [31] (fun u wr => ∃ (j : Nat) (ys : List RV) (vr : Value), u = .int .i64 j ∧ j ≤ npk ∧ Hid (AllK n0 g mb P wk (.slice P0 P.init.length d0) (.slice P1 P.ths.length d1) mm k j ys vr w wr) ∧ Hid (wr.ownsRow n0 76 2 (.slice AK npk ck) npk ((pks P sy).flatMap pkC))) (fun u _ => npk - (intOf u).toNat)
      case atStart => exact ⟨0, ys, _, rfl, Nat.zero_le _, HKV, HOK⟩
      case round =>
        obtain ⟨j, ys2, vr2, rfl, hj, HK2, HO2⟩ := hrel
        by_cases hjn : j < npk
        · rcases id HO2.out.2 with ⟨e, h0⟩ | ⟨gk, cp, cur, e, -⟩
          · omega
          injection e with e1 e0 e2
          clear e0
          subst e1 e2
          have hpj : j < (pks P sy).length := by have := HNP.out; omega
          have k0 : wr.cell? ⟨gk, j * 2, none⟩ = some (.int .i64 ((pks P sy)[j].1 : Int)) := (HO2.out.cellAt (j * 2) (by omega)).trans ((fl_at pkC_len (pks P sy) j 0 hpj (by omega)).trans rfl)
          have k1 : wr.cell? ⟨gk, j * 2 + 1, none⟩ = some (.bool (pks P sy)[j].2) := (HO2.out.cellAt (j * 2 + 1) (by omega)).trans ((fl_at pkC_len (pks P sy) j 1 hpj (by omega)).trans rfl)
          have hnl : j < (nx P wk sy).length := by have := congrArg List.length HNM.out; rw [List.length_map] at this; omega
          have hnp : ((nx P wk sy)[j]).1 = (pks P sy)[j] := by
            have := congrArg (fun l => l[j]?) HNM.out
            simp only [List.getElem?_map] at this
            rw [List.getElem?_eq_getElem hnl, List.getElem?_eq_getElem hpj] at this
            exact Option.some.inj this
          obtain ⟨⟨⟨p1, p2⟩, t⟩, hpt⟩ : ∃ q, q = (nx P wk sy)[j] := ⟨_, rfl⟩
          rw [← hpt] at hnp
          change (p1, p2) = _ at hnp
          rw [← hnp] at k0 k1
          dsimp only at k0 k1
          have hrt := HRT.out k sy wy HRK.out (p1, p2) t (by rw [hpt]; exact List.getElem_mem _)
          have hrs := (nx_mem.1 (show ((p1, p2), t) ∈ nx P wk sy from by rw [hpt]; exact List.getElem_mem _)).2
          have HNX := Lib.hid (fun (ys vr vr' W W' x) (h : AllK n0 g mb P wk (.slice P0 P.init.length d0) (.slice P1 P.ths.length d1) mm k j ys vr w W) hx hs hi => AllK.next (vr' := vr') (W' := W') (x := x) h HRK.out hnl hpt.symm hx hs hi)
          have HRT2 := Lib.hid hrt
          have HRS := Lib.hid hrs
          clear hrt hrs hnl hnp hpt hpj
          obtain ⟨W1, hW1⟩ : ∃ W, W = wr.alloc (.cells #[.int .i64 (p1 : Int), .bool p2] 76) := ⟨_, rfl⟩
          obtain ⟨gt, hgt⟩ : ∃ x, x = wr.heap.size := ⟨_, rfl⟩
          have HTB := Lib.hid (show BoxC W1 gt 76 #[.int .i64 (p1 : Int), .bool p2] from by rw [hW1, hgt]; exact BoxC.new wr _ _)
          have HB1 := Lib.hid (show Below wr.heap.size wr W1 from by rw [hW1]; exact below_al (Below.refl _ _) _)
          have HK3 := Lib.hid (HK2.out.grown HB1.out)
          have HO3 := Lib.hid (own_below HO2.out HB1.out)
          obtain ⟨hky, hks⟩ := HYK.out j ys2 vr2 _ HK3.out
          have HBC := Lib.hid (HBH.out W1 (HK3.out.kp.below HN0.out) ys2 vr2 k p1 p2 t HK3.out.sr hky (by have := HK3.out.le; omega) (by rw [hks]; exact HRDS.out) (by rw [hks]; exact HRS.out))
          clear hky hks
          go_upto_region 7 with fail
          rw [← hW1]
          (try rw [← hgt])
          clear hW1 hgt k0 k1
          have k0 := HTB.out.cell 0 (.int .i64 (p1 : Int)) rfl
          have k1 := HTB.out.cell 1 (.bool p2) rfl
          go_wp2_with fail
          refine HBC.out.mono ?_
          rintro e V3 ⟨vm, vt, rfl, hrv, hb⟩
          have HK4 := Lib.hid (HK3.out.grown hb)
          have HO4 := Lib.hid (own_below HO3.out hb)
          have HRV := Lib.hid hrv
          have HMT := Lib.hid (xmeet_any ⟨⟨t, k, (p1, p2)⟩, vm, vt⟩ V3 HK4.out.sr HRV.out (Nat.le_trans HN0.out HK4.out.kp.size) HRT2.out.nums HRT2.out.len (fun y hy => (HRD.out ys2 k j HK4.out.lk y hy).nums) (by have := HK4.out.le; omega))
          obtain ⟨AM, cm, BM, dm, em1, em2⟩ := hrv.sl
          dsimp only at em1 em2
          subst em1 em2
          clear hrv hb k0 k1
          go_wp2_with fail
          refine HMT.out.mono ?_
          rintro e V4 ⟨rfl, vr5, hs5, hk5⟩
          obtain ⟨ys5, hsr5, hkp5, hlk5, hle5⟩ := HNX.out ys2 vr2 vr5 V3 V4 _ HK4.out rfl hs5 (HK4.out.kp.trans hk5)
          have HO5 := Lib.hid (own_kpi HO4.out (by decide) hk5)
          have HS5 := Lib.hid hsr5
          have HP5 := Lib.hid hkp5
          have HL5 := Lib.hid hlk5
          have HLE5 := Lib.hid (show ys5.length ≤ mm + 1 from by have := HK4.out.le; omega)
          obtain ⟨l5, hl5⟩ : ∃ n, n = ys5.length := ⟨_, rfl⟩
          obtain ⟨AR5, cr5, er5⟩ := own_slice hsr5.row
          rw [← hl5] at er5
          subst er5
          have HLN5 := Lib.hid hl5
          have g5 := HS5.out.box.cell 3 (.slice AR5 l5 cr5) rfl
          have hl5b : l5 ≤ 20001 := by have := HLE5.out; omega
          clear hs5 hk5 hsr5 hkp5 hlk5 hle5 hl5
          by_cases hbig : most < (l5 : Int)
          · have HE := Lib.hid (show AllE n0 g mb P wk (.slice P0 P.init.length d0) (.slice P1 P.ths.length d1) most w V4 from ⟨ys5, _, HS5.out, HP5.out, by have := HLE5.out; omega, fun h => absurd h (by have := HLN5.out; omega), fun _ => part_over (k := k) (j := j + 1) (by have := HL5.out.len; rw [List.length_map] at this; have := HLN5.out; omega)⟩)
            go_wp2
            (try go_step3)
            (try simp only [Exit.then, Exit.inBlock, Exit.jump])
            exact ⟨rfl, _, _, _, _, _, _, _, _, _, _, _, _, _, _, _, _, _, _, _, _, _, _, _, _, _, _, _, _, _, _, _, _, _, _, _, _, _, _, _, _, _, _, _, _, _, _, _, _, _, _, _, _, _, _, rfl, HE.out⟩
          · have HK6 := Lib.hid (show AllK n0 g mb P wk (.slice P0 P.init.length d0) (.slice P1 P.ths.length d1) mm k (j + 1) ys5 (.slice AR5 l5 cr5) w V4 from ⟨HS5.out, HP5.out, HL5.out, by have := HMM.out; have := HLN5.out; omega, HK4.out.kl⟩)
            go_wp2
            go_roundw
            case rel => exact ⟨j + 1, ys5, _, by go_num, by omega, HK6, HO5⟩
            case measure => simp [intOf]; omega
        · obtain rfl : j = npk := by omega
          have HK6 := Lib.hid (show AllK n0 g mb P wk (.slice P0 P.init.length d0) (.slice P1 P.ths.length d1) mm (k + 1) 0 ys2 vr2 w wr from by
            have h := HK2.out
            have hd := part_done HRK.out (show j = (nx P wk sy).length from by have h1 := congrArg List.length HNM.out; rw [List.length_map] at h1; have := HNP.out; omega)
            have hle := part_len P wk k j
            have h3 := HLN.out
            rw [hd] at hle
            exact ⟨h.sr, h.kp, by rw [part_zero, ← hd]; exact h.lk, h.le, by omega⟩)
          go_wp2
          go_roundw
          case rel => exact ⟨k + 1, ys2, vr2, by go_num, by have := HLN.out; omega, HK6⟩
          case measure => simp [intOf]; have := HLN.out; omega
    · have hkl : k = ln := by have := HLN.out; omega
      have HF := Lib.hid (show Full (nx P wk) (beg P) (row (nx P wk) (beg P) k) from ⟨k, rfl, by have := HLN.out; omega⟩)
      have HLK := Lib.hid (show Lk (rns ys) (row (nx P wk) (beg P) k) from by have := HK.out.lk; rwa [part_zero] at this)
      clear hkl
      by_cases hle : (ln : Int) ≤ most
      · go_wp2
        (try go_step3)
        go_wp2
        (try simp only [Exit.jump])
        go_ret
        exact ⟨true, ys, _, by simp [hle], HK.out.sr, HK.out.kp, by have := HLN.out; omega, fun _ => ⟨by have := HLN.out; omega, _, HF.out, HLK.out⟩, fun h => (by cases h)⟩
      · go_wp2
        (try go_step3)
        go_wp2
        (try simp only [Exit.jump])
        go_ret
        exact ⟨false, ys, _, by simp [hle], HK.out.sr, HK.out.kp, by have := HLN.out; omega, fun h => (by cases h), fun _ L hL => by
          rw [full_one _ _ hL HF.out]; have := HLN.out; omega⟩
end Go.Proofs.Ytbffjhdocicfoaa
