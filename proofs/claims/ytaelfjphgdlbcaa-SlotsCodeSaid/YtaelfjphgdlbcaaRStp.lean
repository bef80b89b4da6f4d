/-
  THE DOCUMENT's step of a line.
-/
import Derived.Test.YtaelfjphgdlbcaaK30
import Derived.Test.YtaelfjphgdlbcaaRLn0
import Derived.Test.YtaelfjphgdlbcaaVHead
import Derived.Deep.RegionHeld3
import Derived.Deep.DeepCutAuto
namespace Go.Proofs.Ytaelfjphgdlbcaa
open Go.RowKit
set_option linter.unusedVariables false
set_option linter.unusedSimpArgs false
open WordM (L)
open VM
open CodM (St Pg hasS cnt stp regI locN toN isLab)

/-- What a step says of where it jumps, behind k lines. -/
def ToK (ls : List OpsM.Ln) (lb : L) (jb : Bool) (tn k : Nat) (c : Int) : Prop := ((∃ j, ∃ h : j < ls.length, j < k ∧ jb = true ∧ isLab lb ls[j] = true) → c = (tn : Int)) ∧ ((∀ j (h : j < ls.length), j < k → ¬ (jb = true ∧ isLab lb ls[j] = true)) → c = 0)
theorem ToK.start {ls : List OpsM.Ln} {lb : L} {jb : Bool} {tn : Nat} : ToK ls lb jb tn 0 0 := ⟨fun ⟨j, _, h, _⟩ => absurd h (Nat.not_lt_zero j), fun _ => rfl⟩
theorem ToK.miss {ls : List OpsM.Ln} {lb : L} {jb : Bool} {tn k : Nat} {c : Int} (h : ToK ls lb jb tn k c) (hk : k < ls.length) (hn : ¬ (jb = true ∧ isLab lb ls[k] = true)) : ToK ls lb jb tn (k + 1) c := by
  refine ⟨fun ⟨j, hj, h1, h2⟩ => h.1 ⟨j, hj, ?_, h2⟩, fun hall => h.2 fun j hj h1 => hall j hj (by omega)⟩
  by_cases e : j = k
  · subst e; exact absurd h2 hn
  · omega
theorem ToK.hit {ls : List OpsM.Ln} {lb : L} {jb : Bool} {tn k : Nat} (hk : k < ls.length) (hy : jb = true ∧ isLab lb ls[k] = true) : ToK ls lb jb tn (k + 1) tn :=
  ⟨fun _ => rfl, fun hall => absurd hy (hall k hk (by omega))⟩
/-- What the document's step wants of a line among others. -/
structure StepOk (ls : List OpsM.Ln) (locs : List L) (x : OpsM.Ln) : Prop where
  reg : x.reg ≠ [] → WordM.regNo x.reg = regI x.reg
  loc : x.loc = [] → locN locs x.loc = 0
  tgt : ∀ j (h : j < ls.length), jmpB x = true → isLab x.label ls[j] = true → toN ls x.label = cnt (ls.take j)
  non : jmpB x = false → toN ls x.label = 0
theorem ToK.fin {ls : List OpsM.Ln} {locs : List L} {x : OpsM.Ln} (ok : StepOk ls locs x) {c : Int} (h : ToK ls x.label (jmpB x) (toN ls x.label) ls.length c) : c = (toN ls x.label : Nat) := by
  by_cases e : ∃ j, ∃ h : j < ls.length, j < ls.length ∧ jmpB x = true ∧ isLab x.label ls[j] = true
  · exact h.1 e
  · have e' : ∀ j (h : j < ls.length), j < ls.length → ¬ (jmpB x = true ∧ isLab x.label ls[j] = true) := fun j hj _ c => e ⟨j, hj, hj, c⟩
    rw [h.2 e']
    cases hj : jmpB x with
    | false => rw [ok.non hj]; rfl
    | true =>
      have : toN ls x.label = 0 := by
        unfold CodM.toN
        rw [CodM.pos0_none (fun j hj2 => by
          cases c : isLab x.label ls[j]
          · rfl
          · exact absurd ⟨hj, c⟩ (e' j hj2 hj2))]
        rfl
      rw [this]; rfl
/-- What the step's three boxes hold: the result's, the line's, the step's own. -/
structure StM (gr gx gs : Nat) (xo : Int) (r o lb : L) (nn rg lc tc : Int) (w wx : World) : Prop where
  x : LnBox wx gx xo ⟨r.toArray⟩ ⟨o.toArray⟩ ⟨lb.toArray⟩ nn
  s0 : wx.cell? ⟨gs, 0, none⟩ = some (.int .i64 xo)
  s1 : wx.cell? ⟨gs, 1, none⟩ = some (.int .i64 rg)
  s2 : wx.cell? ⟨gs, 2, none⟩ = some (.int .i64 lc)
  s3 : wx.cell? ⟨gs, 3, none⟩ = some (.int .i64 nn)
  s4 : wx.cell? ⟨gs, 4, none⟩ = some (.int .i64 tc)
  fz : ∀ i, i < 5 → wx.frozen? ⟨gs, i, none⟩ = false
  rs : ∀ i, i < 5 → ∃ u, wx.cell? ⟨gr, i, none⟩ = some u ∧ wx.frozen? ⟨gr, i, none⟩ = false
  bl : Below w.heap.size w wx
theorem StM.below {gr gx gs : Nat} {xo : Int} {r o lb : L} {nn rg lc tc : Int} {w wx wy : World} (h : StM gr gx gs xo r o lb nn rg lc tc w wx) (hb : Below wx.heap.size wx wy) : StM gr gx gs xo r o lb nn rg lc tc w wy :=
  ⟨h.x.below hb, kc hb h.s0, kc hb h.s1, kc hb h.s2, kc hb h.s3, kc hb h.s4, fun i hi => (hb.frozen (p := ⟨gs, i, none⟩) (lt_of_cell h.s0)).trans (h.fz i hi), fun i hi => by
    obtain ⟨u, h1, h2⟩ := h.rs i hi
    exact ⟨u, kc hb h1, (hb.frozen (p := ⟨gr, i, none⟩) (lt_of_cell h1)).trans h2⟩, chain h.bl hb⟩
theorem set_frozen {w : World} {b i g j : Nat} {v : Value} : (w.setCell ⟨b, i, none⟩ v).frozen? ⟨g, j, none⟩ = w.frozen? ⟨g, j, none⟩ := by
  simp
theorem StM.set1 {gr gx gs : Nat} {xo : Int} {r o lb : L} {nn rg lc tc : Int} {w wx : World} (h : StM gr gx gs xo r o lb nn rg lc tc w wx) (e1 : gx ≠ gs) (e2 : gr ≠ gs) (e3 : w.heap.size ≤ gs) (n : Int) : StM gr gx gs xo r o lb nn n lc tc w (wx.setCell ⟨gs, 1, none⟩ (.int .i64 n)) := by
  obtain ⟨⟨x0, x1, x2, x3, x4⟩, s0, s1, s2, s3, s4, fz, rs, bl⟩ := h
  have e1' := Ne.symm e1
  refine ⟨⟨set_oth (.inl e1') x0, set_oth (.inl e1') x1, set_oth (.inl e1') x2, set_oth (.inl e1') x3, set_oth (.inl e1') x4⟩, set_oth (.inr (by decide)) s0, World.cell?_setCell_same _ _ _ s1, set_oth (.inr (by decide)) s2, set_oth (.inr (by decide)) s3, set_oth (.inr (by decide)) s4, fun i hi => set_frozen.trans (fz i hi), fun i hi => ?_, bl.setCell (p := ⟨gs, 1, none⟩) e3 _⟩
  obtain ⟨u, h1, h2⟩ := rs i hi
  exact ⟨u, set_oth (.inl (Ne.symm e2)) h1, set_frozen.trans h2⟩
theorem StM.set2 {gr gx gs : Nat} {xo : Int} {r o lb : L} {nn rg lc tc : Int} {w wx : World} (h : StM gr gx gs xo r o lb nn rg lc tc w wx) (e1 : gx ≠ gs) (e2 : gr ≠ gs) (e3 : w.heap.size ≤ gs) (n : Int) : StM gr gx gs xo r o lb nn rg n tc w (wx.setCell ⟨gs, 2, none⟩ (.int .i64 n)) := by
  obtain ⟨⟨x0, x1, x2, x3, x4⟩, s0, s1, s2, s3, s4, fz, rs, bl⟩ := h
  have e1' := Ne.symm e1
  refine ⟨⟨set_oth (.inl e1') x0, set_oth (.inl e1') x1, set_oth (.inl e1') x2, set_oth (.inl e1') x3, set_oth (.inl e1') x4⟩, set_oth (.inr (by decide)) s0, set_oth (.inr (by decide)) s1, World.cell?_setCell_same _ _ _ s2, set_oth (.inr (by decide)) s3, set_oth (.inr (by decide)) s4, fun i hi => set_frozen.trans (fz i hi), fun i hi => ?_, bl.setCell (p := ⟨gs, 2, none⟩) e3 _⟩
  obtain ⟨u, h1, h2⟩ := rs i hi
  exact ⟨u, set_oth (.inl (Ne.symm e2)) h1, set_frozen.trans h2⟩
theorem StM.set4 {gr gx gs : Nat} {xo : Int} {r o lb : L} {nn rg lc tc : Int} {w wx : World} (h : StM gr gx gs xo r o lb nn rg lc tc w wx) (e1 : gx ≠ gs) (e2 : gr ≠ gs) (e3 : w.heap.size ≤ gs) (n : Int) : StM gr gx gs xo r o lb nn rg lc n w (wx.setCell ⟨gs, 4, none⟩ (.int .i64 n)) := by
  obtain ⟨⟨x0, x1, x2, x3, x4⟩, s0, s1, s2, s3, s4, fz, rs, bl⟩ := h
  have e1' := Ne.symm e1
  refine ⟨⟨set_oth (.inl e1') x0, set_oth (.inl e1') x1, set_oth (.inl e1') x2, set_oth (.inl e1') x3, set_oth (.inl e1') x4⟩, set_oth (.inr (by decide)) s0, set_oth (.inr (by decide)) s1, set_oth (.inr (by decide)) s2, set_oth (.inr (by decide)) s3, World.cell?_setCell_same _ _ _ s4, fun i hi => set_frozen.trans (fz i hi), fun i hi => ?_, bl.setCell (p := ⟨gs, 4, none⟩) e3 _⟩
  obtain ⟨u, h1, h2⟩ := rs i hi
  exact ⟨u, set_oth (.inl (Ne.symm e2)) h1, set_frozen.trans h2⟩
theorem sets5 {W : World} {b : Nat} {u0 u1 u2 u3 u4 v0 v1 v2 v3 v4 : Value} (h0 : W.cell? ⟨b, 0, none⟩ = some u0) (h1 : W.cell? ⟨b, 1, none⟩ = some u1) (h2 : W.cell? ⟨b, 2, none⟩ = some u2) (h3 : W.cell? ⟨b, 3, none⟩ = some u3) (h4 : W.cell? ⟨b, 4, none⟩ = some u4) :
    (((((W.setCell ⟨b, 0, none⟩ v0).setCell ⟨b, 1, none⟩ v1).setCell ⟨b, 2, none⟩ v2).setCell ⟨b, 3, none⟩ v3).setCell ⟨b, 4, none⟩ v4).cell? ⟨b, 0, none⟩ = some v0 ∧ (((((W.setCell ⟨b, 0, none⟩ v0).setCell ⟨b, 1, none⟩ v1).setCell ⟨b, 2, none⟩ v2).setCell ⟨b, 3, none⟩ v3).setCell ⟨b, 4, none⟩ v4).cell? ⟨b, 1, none⟩ = some v1 ∧
    (((((W.setCell ⟨b, 0, none⟩ v0).setCell ⟨b, 1, none⟩ v1).setCell ⟨b, 2, none⟩ v2).setCell ⟨b, 3, none⟩ v3).setCell ⟨b, 4, none⟩ v4).cell? ⟨b, 2, none⟩ = some v2 ∧ (((((W.setCell ⟨b, 0, none⟩ v0).setCell ⟨b, 1, none⟩ v1).setCell ⟨b, 2, none⟩ v2).setCell ⟨b, 3, none⟩ v3).setCell ⟨b, 4, none⟩ v4).cell? ⟨b, 3, none⟩ = some v3 ∧
    (((((W.setCell ⟨b, 0, none⟩ v0).setCell ⟨b, 1, none⟩ v1).setCell ⟨b, 2, none⟩ v2).setCell ⟨b, 3, none⟩ v3).setCell ⟨b, 4, none⟩ v4).cell? ⟨b, 4, none⟩ = some v4 := by
  have n {i j : Nat} (h : i ≠ j) : b ≠ b ∨ i ≠ j := .inr h
  refine ⟨set_oth (n (by decide)) (set_oth (n (by decide)) (set_oth (n (by decide)) (set_oth (n (by decide)) (World.cell?_setCell_same _ _ _ h0)))), set_oth (n (by decide)) (set_oth (n (by decide)) (set_oth (n (by decide)) (World.cell?_setCell_same _ _ _ (set_oth (n (by decide)) h1)))),
    set_oth (n (by decide)) (set_oth (n (by decide)) (World.cell?_setCell_same _ _ _ (set_oth (n (by decide)) (set_oth (n (by decide)) h2)))), set_oth (n (by decide)) (World.cell?_setCell_same _ _ _ (set_oth (n (by decide)) (set_oth (n (by decide)) (set_oth (n (by decide)) h3)))),
    World.cell?_setCell_same _ _ _ (set_oth (n (by decide)) (set_oth (n (by decide)) (set_oth (n (by decide)) (set_oth (n (by decide)) h4))))⟩
def wS (w : World) (xo : Int) (r o lb : L) (nn : Int) : World := ((w.alloc (.cells #[.int .i64 0, .int .i64 0, .int .i64 0, .int .i64 0, .int .i64 0] 53)).alloc (.cells #[.int .i64 xo, .string ⟨r.toArray⟩, .string ⟨o.toArray⟩, .string ⟨lb.toArray⟩, .int .i64 nn] 60)).alloc (.cells #[.int .i64 xo, .int .i64 0, .int .i64 0, .int .i64 nn, .int .i64 0] 53)
theorem five {P : Nat → Prop} (h0 : P 0) (h1 : P 1) (h2 : P 2) (h3 : P 3) (h4 : P 4) : ∀ i, i < 5 → P i
  | 0, _ => h0 | 1, _ => h1 | 2, _ => h2 | 3, _ => h3 | 4, _ => h4
theorem StM.start (w : World) (xo : Int) (r o lb : L) (nn : Int) : StM w.heap.size (w.heap.size + 1) (w.heap.size + 1 + 1) xo r o lb nn 0 0 0 w (wS w xo r o lb nn) := by
  have HC := fun (j i : Nat) (cs : Array Value) (T : TypeId) (v : Value) => allocs_cell [(.cells #[.int .i64 0, .int .i64 0, .int .i64 0, .int .i64 0, .int .i64 0] 53), (.cells #[.int .i64 xo, .string ⟨r.toArray⟩, .string ⟨o.toArray⟩, .string ⟨lb.toArray⟩, .int .i64 nn] 60), (.cells #[.int .i64 xo, .int .i64 0, .int .i64 0, .int .i64 nn, .int .i64 0] 53)] w j cs T i v
  refine ⟨⟨(HC 1 0 _ _ _ rfl rfl).1, (HC 1 1 _ _ _ rfl rfl).1, (HC 1 2 _ _ _ rfl rfl).1, (HC 1 3 _ _ _ rfl rfl).1, (HC 1 4 _ _ _ rfl rfl).1⟩, (HC 2 0 _ _ _ rfl rfl).1, (HC 2 1 _ _ _ rfl rfl).1, (HC 2 2 _ _ _ rfl rfl).1, (HC 2 3 _ _ _ rfl rfl).1, (HC 2 4 _ _ _ rfl rfl).1,
    five (HC 2 0 _ _ _ rfl rfl).2 (HC 2 1 _ _ _ rfl rfl).2 (HC 2 2 _ _ _ rfl rfl).2 (HC 2 3 _ _ _ rfl rfl).2 (HC 2 4 _ _ _ rfl rfl).2,
    five ⟨_, HC 0 0 _ _ _ rfl rfl⟩ ⟨_, HC 0 1 _ _ _ rfl rfl⟩ ⟨_, HC 0 2 _ _ _ rfl rfl⟩ ⟨_, HC 0 3 _ _ _ rfl rfl⟩ ⟨_, HC 0 4 _ _ _ rfl rfl⟩, below_al (below_al (below_al (Below.refl _ _) _) _) _⟩
set_option maxHeartbeats 8000000 in
set_option maxRecDepth 100000 in
theorem rstep7_any {B : Nat} {v vl : Value} {ls : List OpsM.Ln} {locs : List L} (i : Nat) (hi : i < ls.length) (w : World) (hs : Lns B w v ls) (hl : Strs B w vl locs) (hBB : B ≤ w.heap.size) (hn : ls.length ≤ 1000) (ok : StepOk ls locs ls[i]) :
    Calls Try.prog 57 #[v, .int .i64 i, vl] w fun e w' => e = .returned (stv ls[i].op (regI ls[i].reg) (locN locs ls[i].loc : Nat) ls[i].n (toN ls ls[i].label : Nat)) ∧ Below w.heap.size w w' := by
  have hz : Try.prog.cellsOf 53 = 5 := by kernel_rfl
  have HL := Lib.hid hl
  obtain ⟨A1, c1, rfl, h1, h2, h3⟩ := id hs
  have HS := Lib.hid hs
  unfold maxLen at h2
  obtain ⟨b3, f3, rfl, hb3, hc3⟩ := h3 (by omega)
  have HC3 := Lib.hid hc3
  have hb3w : b3 < w.heap.size := by omega
  obtain ⟨z0, z1, z2, z3, z4⟩ := hc3 i hi
  obtain ⟨x, hx⟩ : ∃ x, x = ls[i] := ⟨_, rfl⟩
  rw [← hx] at z0 z1 z2 z3 z4 ok ⊢
  have HOK := Lib.hid ok
  have HJ := Lib.hid (fun W => rjump_l x W)
  have HF := Lib.hid (fun (c : Int) (h : ToK ls x.label (jmpB x) (toN ls x.label) ls.length c) => ToK.fin ok h)
  have HTo := Lib.hid (fun j (h : j < ls.length) (h1 : jmpB x = true) (h2 : isLab x.label ls[j] = true) => ok.tgt j h h1 h2)
  have HR := Lib.hid (fun (h : x.reg ≠ []) W => ok.reg h ▸ rreg_any ⟨x.reg.toArray⟩ W)
  have HP := Lib.hid (fun W (hW : Below w.heap.size w W) => place_any x.loc W (strs_below HL.out (hW.mono hBB)))
  have HR0 := Lib.hid (show x.reg = [] → regI x.reg = 0 from fun e => by rw [e]; exact CodM.regI_nil)
  have HL0 := Lib.hid ok.loc
  obtain ⟨AL, cL, rfl, -⟩ := id HL.out
  generalize jmpB x = jb at *
  generalize toN ls x.label = tn at *
  generalize regI x.reg = rg at *
  generalize locN locs x.loc = lc at *
  generalize x.op = xo at *
  generalize x.reg = r at *
  generalize x.loc = o at *
  generalize x.label = lb at *
  generalize x.n = nn at *
  clear hl hx h3 hc3 ok HOK
  have hB0 := below_al (below_al (below_al (Below.refl w.heap.size w) (.cells #[.int .i64 0, .int .i64 0, .int .i64 0, .int .i64 0, .int .i64 0] 53)) (.cells #[.int .i64 xo, .string ⟨r.toArray⟩, .string ⟨o.toArray⟩, .string ⟨lb.toArray⟩, .int .i64 nn] 60)) (.cells #[.int .i64 xo, .int .i64 0, .int .i64 0, .int .i64 nn, .int .i64 0] 53)
  go_enter Try.func57, Try.ntmps57
  go_upto_if 21 with fail
  have hgr := box_1 w #[.int .i64 0, .int .i64 0, .int .i64 0, .int .i64 0, .int .i64 0] 53
  go_cut [] (fun wx => StM w.heap.size (w.heap.size + 1) (w.heap.size + 1 + 1) xo r o lb nn rg 0 0 w wx)
  case first =>
    have HM0 := Lib.hid (StM.start w xo r o lb nn)
    by_cases hr : r = []
    · have q1 : r.isEmpty = true := by simp [hr]
      have HE := Lib.hid (HR0.out hr)
      clear hr HR HR0
      simp only [q1, Bool.not_true]
      go_wp2_with fail
      go_meet
      rw [HE.out]
      exact HM0.out
    · have q1 : r.isEmpty = false := by simpa using hr
      have HC := Lib.hid (HR.out hr)
      clear hr HR HR0
      have hH0 := fun (h : r.isEmpty = false) => h
      simp only [q1, Bool.not_false]
      go_wp2_with fail
      refine (HC.out _).mono ?_
      rintro e wa ⟨rfl, hba⟩
      have HMa := Lib.hid (HM0.out.below hba)
      have HMs := Lib.hid (HMa.out.set1 (by omega) (by omega) (by omega) rg)
      have f1 := HMa.out.fz 1 (by omega)
      have s1 := HMa.out.s1
      clear hba HC HM0 hH0
      go_wp2_with fail
      go_meet
      exact HMs.out
  case rest =>
    have HM1 := Lib.hid hcut
    obtain ⟨⟨x0, x1, x2, x3, x4⟩, s0, s1, s2, s3, s4, -⟩ := hcut
    clear HR HR0 hgr hB0
    go_upto_if 28 with fail
    go_cut [] (fun wx => StM w.heap.size (w.heap.size + 1) (w.heap.size + 1 + 1) xo r o lb nn rg (lc : Nat) 0 w wx)
    case first =>
      by_cases ho : o = []
      · have q1 : o.isEmpty = true := by simp [ho]
        have HE := Lib.hid (HL0.out ho)
        clear ho HP HL0
        simp only [q1, Bool.not_true]
        go_wp2_with fail
        go_meet
        rw [HE.out]
        exact HM1.out
      · have q1 : o.isEmpty = false := by simpa using ho
        have HC := Lib.hid (HP.out _ HM1.out.bl)
        clear ho HP HL0
        simp only [q1, Bool.not_false]
        go_wp2_with fail
        refine HC.out.mono ?_
        rintro e wa ⟨rfl, rfl⟩
        have HMs := Lib.hid (HM1.out.set2 (by omega) (by omega) (by omega) (lc : Nat))
        have f1 := HM1.out.fz 2 (by omega)
        clear HC
        go_wp2_with fail
        go_meet
        exact HMs.out
    case rest =>
      have HM2 := Lib.hid hcut
      clear x0 x1 x2 x3 x4 s0 s1 s2 s3 s4 HM1 hcut HP HL0
      go_wp2
      go_loopw [9] (fun i wr => (∃ (m : Nat) (c : Int), m ≤ ls.length ∧ i = .int .i64 m ∧ ToK ls lb jb tn m c ∧ StM w.heap.size (w.heap.size + 1) (w.heap.size + 1 + 1) xo r o lb nn rg (lc : Nat) c w wr)) (fun i _ => ls.length - (intOf i).toNat)
      case atStart => exact ⟨0, 0, Nat.zero_le _, rfl, ToK.start, HM2.out⟩
      case round =>
       obtain ⟨m, c, hmk, rfl, htk, hsm⟩ := hrel
       have HT := Lib.hid htk
       have HM := Lib.hid hsm
       obtain ⟨X, s0, s1, s2, s3, s4, fz, rs, hB⟩ := hsm
       clear htk
       by_cases hlt : m < ls.length
       · obtain ⟨z0, z1, z2, z3, z4⟩ := (HC3.out m hlt).below (hB.mono hBB) hb3
         have hty := HTo.out m hlt
         have HMiss := Lib.hid (fun (hn : ¬ (jb = true ∧ isLab lb ls[m] = true)) => HT.out.miss hlt hn)
         have HHit := Lib.hid (fun (hn : jb = true ∧ isLab lb ls[m] = true) => ToK.hit (tn := tn) hlt hn)
         have HIff := Lib.hid (CodM.isLab_iff lb ls[m])
         have HTk := Lib.hid (hs.take m hmk)
         obtain ⟨y, hy⟩ : ∃ y, y = ls[m] := ⟨_, rfl⟩
         rw [← hy] at z0 z1 z2 z3 z4 hty HMiss HHit HIff
         clear hy z1 z2 z4
         cases jb
         · have HE := Lib.hid (HMiss.out (by simp))
           clear z0 z3 hty HMiss HHit HIff
           go_wp2
           refine wp_region_held_drew (S := (fun w' => (w'.cell? ⟨w.heap.size + 1, 0, none⟩ = some (.int .i64 xo) ∧ w'.cell? ⟨w.heap.size + 1, 1, none⟩ = some (.string ⟨r.toArray⟩) ∧ w'.cell? ⟨w.heap.size + 1, 2, none⟩ = some (.string ⟨o.toArray⟩) ∧ w'.cell? ⟨w.heap.size + 1, 3, none⟩ = some (.string ⟨lb.toArray⟩) ∧ w'.cell? ⟨w.heap.size + 1, 4, none⟩ = some (.int .i64 nn)) ∧ Below wr.heap.size wr w')) (by kernel_rfl) ⟨⟨X.1, X.2.1, X.2.2.1, X.2.2.2.1, X.2.2.2.2⟩, below_drewN (Below.refl _ _) 1⟩ (fun hHeld => ?_)
           refine wpAnyH_take (i := 0) (v := ?_) rfl (by kernel_rfl) (by kernel_rfl) (by kernel_rfl) (fun _ _ _ h => h) (Or.inl ⟨by rfl, ?_⟩) (by assumption) ?_
           rotate_left
           · intro w hSw; (try dsimp only at hSw); go_simp; (try with_reducible rfl)
           (try simp only [Act.put, List.getElem_toArray, List.getElem_cons_zero, List.getElem_cons_succ, Array.getInternal_eq_getElem, List.setIfInBounds_toArray, List.set_cons_zero, List.set_cons_succ])
           refine wpAnyH_ready (rs := [1]) (by kernel_rfl) (by simp) ?_
           refine AllReadyH.cons rfl (fun K hK => ?_) AllReadyH.nil
           go_simp
           refine (HJ.out _).mono ?_
           rintro e wj ⟨rfl, hba⟩
           obtain ⟨q0, q1, q2, q3, q4⟩ := hHeld.1
           refine hK.out _ _ ⟨⟨kc hba q0, kc hba q1, kc hba q2, kc hba q3, kc hba q4⟩, chain hHeld.2 hba⟩ (fun hHeld => ?_)
           clear hba q0 q1 q2 q3 q4
           clear hK K
           (try simp only [Act.put, List.getElem_toArray, List.getElem_cons_zero, List.getElem_cons_succ, Array.getInternal_eq_getElem, List.setIfInBounds_toArray, List.set_cons_zero, List.set_cons_succ])
           refine wpAnyH_take (i := 2) (v := ?_) rfl (by kernel_rfl) (by kernel_rfl) (by kernel_rfl) (fun _ _ _ h => h) (Or.inl ⟨by rfl, ?_⟩) (by assumption) ?_
           rotate_left
           · intro w hSw; (try dsimp only at hSw); go_simp; (try with_reducible rfl)
           (try simp only [Act.put, List.getElem_toArray, List.getElem_cons_zero, List.getElem_cons_succ, Array.getInternal_eq_getElem, List.setIfInBounds_toArray, List.set_cons_zero, List.set_cons_succ])
           refine wpAnyH_take (i := 3) (v := undef) rfl (by kernel_rfl) (by kernel_rfl) (by kernel_rfl) (fun _ _ _ h => h) (Or.inr ⟨by rfl, rfl⟩) (by assumption) ?_
           (try simp only [Act.put, List.getElem_toArray, List.getElem_cons_zero, List.getElem_cons_succ, Array.getInternal_eq_getElem, List.setIfInBounds_toArray, List.set_cons_zero, List.set_cons_succ])
           refine wpAnyH_take (i := 4) (v := undef) rfl (by kernel_rfl) (by kernel_rfl) (by kernel_rfl) (fun _ _ _ h => h) (Or.inr ⟨by rfl, rfl⟩) (by assumption) ?_
           (try simp only [Act.put, List.getElem_toArray, List.getElem_cons_zero, List.getElem_cons_succ, Array.getInternal_eq_getElem, List.setIfInBounds_toArray, List.set_cons_zero, List.set_cons_succ])
           refine wpAnyH_take (i := 5) (v := undef) rfl (by kernel_rfl) (by kernel_rfl) (by kernel_rfl) (fun _ _ _ h => h) (Or.inr ⟨by rfl, rfl⟩) (by assumption) ?_
           (try simp only [Act.put, List.getElem_toArray, List.getElem_cons_zero, List.getElem_cons_succ, Array.getInternal_eq_getElem, List.setIfInBounds_toArray, List.set_cons_zero, List.set_cons_succ])
           refine wpAnyH_take (i := 6) (v := undef) rfl (by kernel_rfl) (by kernel_rfl) (by kernel_rfl) (fun _ _ _ h => h) (Or.inr ⟨by rfl, rfl⟩) (by assumption) ?_
           (try simp only [Act.put, List.getElem_toArray, List.getElem_cons_zero, List.getElem_cons_succ, Array.getInternal_eq_getElem, List.setIfInBounds_toArray, List.set_cons_zero, List.set_cons_succ])
           refine wpAnyH_take (i := 7) (v := undef) rfl (by kernel_rfl) (by kernel_rfl) (by kernel_rfl) (fun _ _ _ h => h) (Or.inr ⟨by rfl, rfl⟩) (by assumption) ?_
           (try simp only [Act.put, List.getElem_toArray, List.getElem_cons_zero, List.getElem_cons_succ, Array.getInternal_eq_getElem, List.setIfInBounds_toArray, List.set_cons_zero, List.set_cons_succ])
           refine wpAnyH_take (i := 8) (v := undef) rfl (by kernel_rfl) (by kernel_rfl) (by kernel_rfl) (fun _ _ _ h => h) (Or.inr ⟨by rfl, rfl⟩) (by assumption) ?_
           (try simp only [Act.put, List.getElem_toArray, List.getElem_cons_zero, List.getElem_cons_succ, Array.getInternal_eq_getElem, List.setIfInBounds_toArray, List.set_cons_zero, List.set_cons_succ])
           refine wpAnyH_take (i := 9) (v := ?_) rfl (by kernel_rfl) (by kernel_rfl) (by kernel_rfl) (fun _ _ _ h => h) (Or.inl ⟨by rfl, ?_⟩) (by assumption) ?_
           rotate_left
           · intro w hSw; (try dsimp only at hSw); go_simp; (try with_reducible rfl)
           (try simp only [Act.put, List.getElem_toArray, List.getElem_cons_zero, List.getElem_cons_succ, Array.getInternal_eq_getElem, List.setIfInBounds_toArray, List.set_cons_zero, List.set_cons_succ])
           refine wpAnyH_take (i := 10) (v := ?_) rfl (by kernel_rfl) (by kernel_rfl) (by kernel_rfl) (fun _ _ _ h => h) (Or.inl ⟨by rfl, ?_⟩) (by assumption) ?_
           rotate_left
           · intro w hSw; (try dsimp only at hSw); go_simp; (try with_reducible rfl)
           (try simp only [Act.put, List.getElem_toArray, List.getElem_cons_zero, List.getElem_cons_succ, Array.getInternal_eq_getElem, List.setIfInBounds_toArray, List.set_cons_zero, List.set_cons_succ])
           refine wpAnyH_take (i := 11) (v := undef) rfl (by kernel_rfl) (by kernel_rfl) (by kernel_rfl) (fun _ _ _ h => h) (Or.inr ⟨by rfl, rfl⟩) (by assumption) ?_
           (try simp only [Act.put, List.getElem_toArray, List.getElem_cons_zero, List.getElem_cons_succ, Array.getInternal_eq_getElem, List.setIfInBounds_toArray, List.set_cons_zero, List.set_cons_succ])
           refine wpAnyH_take (i := 12) (v := undef) rfl (by kernel_rfl) (by kernel_rfl) (by kernel_rfl) (fun _ _ _ h => h) (Or.inr ⟨by rfl, rfl⟩) (by assumption) ?_
           (try simp only [Act.put, List.getElem_toArray, List.getElem_cons_zero, List.getElem_cons_succ, Array.getInternal_eq_getElem, List.setIfInBounds_toArray, List.set_cons_zero, List.set_cons_succ])
           refine wpAnyH_take (i := 13) (v := undef) rfl (by kernel_rfl) (by kernel_rfl) (by kernel_rfl) (fun _ _ _ h => h) (Or.inr ⟨by rfl, rfl⟩) (by assumption) ?_
           (try simp only [Act.put, List.getElem_toArray, List.getElem_cons_zero, List.getElem_cons_succ, Array.getInternal_eq_getElem, List.setIfInBounds_toArray, List.set_cons_zero, List.set_cons_succ])
           refine wpAnyH_take (i := 14) (v := undef) rfl (by kernel_rfl) (by kernel_rfl) (by kernel_rfl) (fun _ _ _ h => h) (Or.inr ⟨by rfl, rfl⟩) (by assumption) ?_
           (try simp only [Act.put, List.getElem_toArray, List.getElem_cons_zero, List.getElem_cons_succ, Array.getInternal_eq_getElem, List.setIfInBounds_toArray, List.set_cons_zero, List.set_cons_succ])
           refine wpAnyH_take (i := 15) (v := undef) rfl (by kernel_rfl) (by kernel_rfl) (by kernel_rfl) (fun _ _ _ h => h) (Or.inr ⟨by rfl, rfl⟩) (by assumption) ?_
           (try simp only [Act.put, List.getElem_toArray, List.getElem_cons_zero, List.getElem_cons_succ, Array.getInternal_eq_getElem, List.setIfInBounds_toArray, List.set_cons_zero, List.set_cons_succ])
           refine wpAnyH_take (i := 16) (v := undef) rfl (by kernel_rfl) (by kernel_rfl) (by kernel_rfl) (fun _ _ _ h => h) (Or.inr ⟨by rfl, rfl⟩) (by assumption) ?_
           (try simp only [Act.put, List.getElem_toArray, List.getElem_cons_zero, List.getElem_cons_succ, Array.getInternal_eq_getElem, List.setIfInBounds_toArray, List.set_cons_zero, List.set_cons_succ])
           refine wpAnyH_take (i := 17) (v := undef) rfl (by kernel_rfl) (by kernel_rfl) (by kernel_rfl) (fun _ _ _ h => h) (Or.inr ⟨by rfl, rfl⟩) (by assumption) ?_
           (try simp only [Act.put, List.getElem_toArray, List.getElem_cons_zero, List.getElem_cons_succ, Array.getInternal_eq_getElem, List.setIfInBounds_toArray, List.set_cons_zero, List.set_cons_succ])
           refine wpAnyH_take (i := 18) (v := undef) rfl (by kernel_rfl) (by kernel_rfl) (by kernel_rfl) (fun _ _ _ h => h) (Or.inr ⟨by rfl, rfl⟩) (by assumption) ?_
           (try simp only [Act.put, List.getElem_toArray, List.getElem_cons_zero, List.getElem_cons_succ, Array.getInternal_eq_getElem, List.setIfInBounds_toArray, List.set_cons_zero, List.set_cons_succ])
           refine wpAnyH_take (i := 19) (v := ?_) rfl (by kernel_rfl) (by kernel_rfl) (by kernel_rfl) (fun _ _ _ h => h) (Or.inl ⟨by rfl, ?_⟩) (by assumption) ?_
           rotate_left
           · intro w hSw; (try dsimp only at hSw); go_simp; (try with_reducible rfl)
           (try simp only [Act.put, List.getElem_toArray, List.getElem_cons_zero, List.getElem_cons_succ, Array.getInternal_eq_getElem, List.setIfInBounds_toArray, List.set_cons_zero, List.set_cons_succ])
           refine wpAnyH_done (by kernel_rfl) ?_ _
           have HMx := Lib.hid (HM.out.below hHeld.2)
           clear X s0 s1 s2 s3 s4 fz rs
           go_wp2
           go_roundw
           case rel => exact ⟨m + 1, c, by omega, by go_num, HE.out, HMx.out⟩
           case measure => simp [intOf]; omega
         by_cases ho : y.op = 11
         case neg =>
           have q1 : (y.op == 11) = false := by simpa using ho
           have HE := Lib.hid (HMiss.out (fun c => ho (HIff.out.1 c.2).1))
           clear z3 hty HMiss HHit HIff ho
           go_wp2
           refine wp_region_held_drew (S := (fun w' => (w'.cell? ⟨w.heap.size + 1, 0, none⟩ = some (.int .i64 xo) ∧ w'.cell? ⟨w.heap.size + 1, 1, none⟩ = some (.string ⟨r.toArray⟩) ∧ w'.cell? ⟨w.heap.size + 1, 2, none⟩ = some (.string ⟨o.toArray⟩) ∧ w'.cell? ⟨w.heap.size + 1, 3, none⟩ = some (.string ⟨lb.toArray⟩) ∧ w'.cell? ⟨w.heap.size + 1, 4, none⟩ = some (.int .i64 nn) ∧ w'.cell? ⟨b3, f3 + m * 5, none⟩ = some (.int .i64 y.op)) ∧ Below wr.heap.size wr w')) (by kernel_rfl) ⟨⟨X.1, X.2.1, X.2.2.1, X.2.2.2.1, X.2.2.2.2, z0⟩, below_drewN (Below.refl _ _) 1⟩ (fun hHeld => ?_)
           refine wpAnyH_take (i := 0) (v := ?_) rfl (by kernel_rfl) (by kernel_rfl) (by kernel_rfl) (fun _ _ _ h => h) (Or.inl ⟨by rfl, ?_⟩) (by assumption) ?_
           rotate_left
           · intro w hSw; (try dsimp only at hSw); go_simp; (try with_reducible rfl)
           (try simp only [Act.put, List.getElem_toArray, List.getElem_cons_zero, List.getElem_cons_succ, Array.getInternal_eq_getElem, List.setIfInBounds_toArray, List.set_cons_zero, List.set_cons_succ])
           refine wpAnyH_ready (rs := [1]) (by kernel_rfl) (by simp) ?_
           refine AllReadyH.cons rfl (fun K hK => ?_) AllReadyH.nil
           go_simp
           refine (HJ.out _).mono ?_
           rintro e wj ⟨rfl, hba⟩
           obtain ⟨q0, q1, q2, q3, q4, q5⟩ := hHeld.1
           refine hK.out _ _ ⟨⟨kc hba q0, kc hba q1, kc hba q2, kc hba q3, kc hba q4, kc hba q5⟩, chain hHeld.2 hba⟩ (fun hHeld => ?_)
           clear hba q0 q1 q2 q3 q4 q5
           clear hK K
           (try simp only [Act.put, List.getElem_toArray, List.getElem_cons_zero, List.getElem_cons_succ, Array.getInternal_eq_getElem, List.setIfInBounds_toArray, List.set_cons_zero, List.set_cons_succ])
           refine wpAnyH_take (i := 2) (v := ?_) rfl (by kernel_rfl) (by kernel_rfl) (by kernel_rfl) (fun _ _ _ h => h) (Or.inl ⟨by rfl, ?_⟩) (by assumption) ?_
           rotate_left
           · intro w hSw; (try dsimp only at hSw); go_simp; (try with_reducible rfl)
           (try simp only [Act.put, List.getElem_toArray, List.getElem_cons_zero, List.getElem_cons_succ, Array.getInternal_eq_getElem, List.setIfInBounds_toArray, List.set_cons_zero, List.set_cons_succ])
           refine wpAnyH_take (i := 3) (v := ?_) rfl (by kernel_rfl) (by kernel_rfl) (by kernel_rfl) (fun _ _ _ h => h) (Or.inl ⟨by rfl, ?_⟩) (by assumption) ?_
           rotate_left
           · intro w hSw; (try dsimp only at hSw); go_simp; (try with_reducible rfl)
           (try simp only [Act.put, List.getElem_toArray, List.getElem_cons_zero, List.getElem_cons_succ, Array.getInternal_eq_getElem, List.setIfInBounds_toArray, List.set_cons_zero, List.set_cons_succ])
           refine wpAnyH_take (i := 4) (v := ?_) rfl (by kernel_rfl) (by kernel_rfl) (by kernel_rfl) (fun _ _ _ h => h) (Or.inl ⟨by rfl, ?_⟩) (by assumption) ?_
           rotate_left
           · intro w hSw; (try dsimp only at hSw); go_simp; (try with_reducible rfl)
           (try simp only [Act.put, List.getElem_toArray, List.getElem_cons_zero, List.getElem_cons_succ, Array.getInternal_eq_getElem, List.setIfInBounds_toArray, List.set_cons_zero, List.set_cons_succ])
           refine wpAnyH_take (i := 5) (v := ?_) rfl (by kernel_rfl) (by kernel_rfl) (by kernel_rfl) (fun _ _ _ h => h) (Or.inl ⟨by rfl, ?_⟩) (by assumption) ?_
           rotate_left
           · intro w hSw; (try dsimp only at hSw); go_simp; (try with_reducible rfl)
           (try simp only [Act.put, List.getElem_toArray, List.getElem_cons_zero, List.getElem_cons_succ, Array.getInternal_eq_getElem, List.setIfInBounds_toArray, List.set_cons_zero, List.set_cons_succ])
           refine wpAnyH_take (i := 6) (v := ?_) rfl (by kernel_rfl) (by kernel_rfl) (by kernel_rfl) (fun _ _ _ h => h) (Or.inl ⟨by rfl, ?_⟩) (by assumption) ?_
           rotate_left
           · intro w hSw; (try dsimp only at hSw); go_simp; (try with_reducible rfl)
           (try simp only [Act.put, List.getElem_toArray, List.getElem_cons_zero, List.getElem_cons_succ, Array.getInternal_eq_getElem, List.setIfInBounds_toArray, List.set_cons_zero, List.set_cons_succ])
           refine wpAnyH_take (i := 7) (v := ?_) rfl (by kernel_rfl) (by kernel_rfl) (by kernel_rfl) (fun _ _ _ h => h) (Or.inl ⟨by rfl, ?_⟩) (by assumption) ?_
           rotate_left
           · intro w hSw; (try dsimp only at hSw); go_simp; (try with_reducible rfl)
           (try simp only [Act.put, List.getElem_toArray, List.getElem_cons_zero, List.getElem_cons_succ, Array.getInternal_eq_getElem, List.setIfInBounds_toArray, List.set_cons_zero, List.set_cons_succ])
           refine wpAnyH_take (i := 8) (v := ?_) rfl (by kernel_rfl) (by kernel_rfl) (by kernel_rfl) (fun _ _ _ h => h) (Or.inl ⟨by rfl, ?_⟩) (by assumption) ?_
           rotate_left
           · intro w hSw; (try dsimp only at hSw); go_simp; (try with_reducible rfl)
           (try simp only [Act.put, List.getElem_toArray, List.getElem_cons_zero, List.getElem_cons_succ, Array.getInternal_eq_getElem, List.setIfInBounds_toArray, List.set_cons_zero, List.set_cons_succ])
           refine wpAnyH_take (i := 9) (v := ?_) rfl (by kernel_rfl) (by kernel_rfl) (by kernel_rfl) (fun _ _ _ h => h) (Or.inl ⟨by rfl, ?_⟩) (by assumption) ?_
           rotate_left
           · intro w hSw; (try dsimp only at hSw); go_simp; (try with_reducible rfl)
           (try simp only [Act.put, List.getElem_toArray, List.getElem_cons_zero, List.getElem_cons_succ, Array.getInternal_eq_getElem, List.setIfInBounds_toArray, List.set_cons_zero, List.set_cons_succ])
           refine wpAnyH_take (i := 10) (v := ?_) rfl (by kernel_rfl) (by kernel_rfl) (by kernel_rfl) (fun _ _ _ h => h) (Or.inl ⟨by rfl, ?_⟩) (by assumption) ?_
           rotate_left
           · intro w hSw; (try dsimp only at hSw); go_simp; (try with_reducible rfl)
           (try simp only [Act.put, List.getElem_toArray, List.getElem_cons_zero, List.getElem_cons_succ, Array.getInternal_eq_getElem, List.setIfInBounds_toArray, List.set_cons_zero, List.set_cons_succ])
           refine wpAnyH_take (i := 11) (v := undef) rfl (by kernel_rfl) (by kernel_rfl) (by kernel_rfl) (fun _ _ _ h => h) (Or.inr ⟨by rfl, rfl⟩) (by assumption) ?_
           (try simp only [Act.put, List.getElem_toArray, List.getElem_cons_zero, List.getElem_cons_succ, Array.getInternal_eq_getElem, List.setIfInBounds_toArray, List.set_cons_zero, List.set_cons_succ])
           refine wpAnyH_take (i := 12) (v := undef) rfl (by kernel_rfl) (by kernel_rfl) (by kernel_rfl) (fun _ _ _ h => h) (Or.inr ⟨by rfl, rfl⟩) (by assumption) ?_
           (try simp only [Act.put, List.getElem_toArray, List.getElem_cons_zero, List.getElem_cons_succ, Array.getInternal_eq_getElem, List.setIfInBounds_toArray, List.set_cons_zero, List.set_cons_succ])
           refine wpAnyH_take (i := 13) (v := undef) rfl (by kernel_rfl) (by kernel_rfl) (by kernel_rfl) (fun _ _ _ h => h) (Or.inr ⟨by rfl, rfl⟩) (by assumption) ?_
           (try simp only [Act.put, List.getElem_toArray, List.getElem_cons_zero, List.getElem_cons_succ, Array.getInternal_eq_getElem, List.setIfInBounds_toArray, List.set_cons_zero, List.set_cons_succ])
           refine wpAnyH_take (i := 14) (v := undef) rfl (by kernel_rfl) (by kernel_rfl) (by kernel_rfl) (fun _ _ _ h => h) (Or.inr ⟨by rfl, rfl⟩) (by assumption) ?_
           (try simp only [Act.put, List.getElem_toArray, List.getElem_cons_zero, List.getElem_cons_succ, Array.getInternal_eq_getElem, List.setIfInBounds_toArray, List.set_cons_zero, List.set_cons_succ])
           refine wpAnyH_take (i := 15) (v := undef) rfl (by kernel_rfl) (by kernel_rfl) (by kernel_rfl) (fun _ _ _ h => h) (Or.inr ⟨by rfl, rfl⟩) (by assumption) ?_
           (try simp only [Act.put, List.getElem_toArray, List.getElem_cons_zero, List.getElem_cons_succ, Array.getInternal_eq_getElem, List.setIfInBounds_toArray, List.set_cons_zero, List.set_cons_succ])
           refine wpAnyH_take (i := 16) (v := undef) rfl (by kernel_rfl) (by kernel_rfl) (by kernel_rfl) (fun _ _ _ h => h) (Or.inr ⟨by rfl, rfl⟩) (by assumption) ?_
           (try simp only [Act.put, List.getElem_toArray, List.getElem_cons_zero, List.getElem_cons_succ, Array.getInternal_eq_getElem, List.setIfInBounds_toArray, List.set_cons_zero, List.set_cons_succ])
           refine wpAnyH_take (i := 17) (v := undef) rfl (by kernel_rfl) (by kernel_rfl) (by kernel_rfl) (fun _ _ _ h => h) (Or.inr ⟨by rfl, rfl⟩) (by assumption) ?_
           (try simp only [Act.put, List.getElem_toArray, List.getElem_cons_zero, List.getElem_cons_succ, Array.getInternal_eq_getElem, List.setIfInBounds_toArray, List.set_cons_zero, List.set_cons_succ])
           refine wpAnyH_take (i := 18) (v := undef) rfl (by kernel_rfl) (by kernel_rfl) (by kernel_rfl) (fun _ _ _ h => h) (Or.inr ⟨by rfl, rfl⟩) (by assumption) ?_
           (try simp only [Act.put, List.getElem_toArray, List.getElem_cons_zero, List.getElem_cons_succ, Array.getInternal_eq_getElem, List.setIfInBounds_toArray, List.set_cons_zero, List.set_cons_succ])
           refine wpAnyH_take (i := 19) (v := ?_) rfl (by kernel_rfl) (by kernel_rfl) (by kernel_rfl) (fun _ _ _ h => h) (Or.inl ⟨by rfl, ?_⟩) (by assumption) ?_
           rotate_left
           · intro w hSw; (try dsimp only at hSw); go_simp; (try with_reducible rfl)
           (try simp only [Act.put, List.getElem_toArray, List.getElem_cons_zero, List.getElem_cons_succ, Array.getInternal_eq_getElem, List.setIfInBounds_toArray, List.set_cons_zero, List.set_cons_succ])
           refine wpAnyH_done (by kernel_rfl) ?_ _
           have HMx := Lib.hid (HM.out.below hHeld.2)
           clear X s0 s1 s2 s3 s4 fz rs
           go_wp2
           go_roundw
           case rel => exact ⟨m + 1, c, by omega, by go_num, HE.out, HMx.out⟩
           case measure => simp [intOf]; omega
         have q1 : (y.op == 11) = true := by simp [ho]
         have q2 := beq_dec y.label lb
         by_cases hl : y.label = lb
         case neg =>
           rw [decide_eq_false hl] at q2
           have HE := Lib.hid (HMiss.out (fun c => hl (HIff.out.1 c.2).2))
           clear hty HMiss HHit HIff ho hl
           go_wp2
           refine wp_region_held_drew (S := (fun w' => (w'.cell? ⟨w.heap.size + 1, 0, none⟩ = some (.int .i64 xo) ∧ w'.cell? ⟨w.heap.size + 1, 1, none⟩ = some (.string ⟨r.toArray⟩) ∧ w'.cell? ⟨w.heap.size + 1, 2, none⟩ = some (.string ⟨o.toArray⟩) ∧ w'.cell? ⟨w.heap.size + 1, 3, none⟩ = some (.string ⟨lb.toArray⟩) ∧ w'.cell? ⟨w.heap.size + 1, 4, none⟩ = some (.int .i64 nn) ∧ w'.cell? ⟨b3, f3 + m * 5, none⟩ = some (.int .i64 y.op) ∧ w'.cell? ⟨b3, f3 + m * 5 + 3, none⟩ = some (.string ⟨y.label.toArray⟩)) ∧ Below wr.heap.size wr w')) (by kernel_rfl) ⟨⟨X.1, X.2.1, X.2.2.1, X.2.2.2.1, X.2.2.2.2, z0, z3⟩, below_drewN (Below.refl _ _) 1⟩ (fun hHeld => ?_)
           refine wpAnyH_take (i := 0) (v := ?_) rfl (by kernel_rfl) (by kernel_rfl) (by kernel_rfl) (fun _ _ _ h => h) (Or.inl ⟨by rfl, ?_⟩) (by assumption) ?_
           rotate_left
           · intro w hSw; (try dsimp only at hSw); go_simp; (try with_reducible rfl)
           (try simp only [Act.put, List.getElem_toArray, List.getElem_cons_zero, List.getElem_cons_succ, Array.getInternal_eq_getElem, List.setIfInBounds_toArray, List.set_cons_zero, List.set_cons_succ])
           refine wpAnyH_ready (rs := [1]) (by kernel_rfl) (by simp) ?_
           refine AllReadyH.cons rfl (fun K hK => ?_) AllReadyH.nil
           go_simp
           refine (HJ.out _).mono ?_
           rintro e wj ⟨rfl, hba⟩
           obtain ⟨q0, q1, q2, q3, q4, q5, q6⟩ := hHeld.1
           refine hK.out _ _ ⟨⟨kc hba q0, kc hba q1, kc hba q2, kc hba q3, kc hba q4, kc hba q5, kc hba q6⟩, chain hHeld.2 hba⟩ (fun hHeld => ?_)
           clear hba q0 q1 q2 q3 q4 q5 q6
           clear hK K
           (try simp only [Act.put, List.getElem_toArray, List.getElem_cons_zero, List.getElem_cons_succ, Array.getInternal_eq_getElem, List.setIfInBounds_toArray, List.set_cons_zero, List.set_cons_succ])
           refine wpAnyH_take (i := 2) (v := ?_) rfl (by kernel_rfl) (by kernel_rfl) (by kernel_rfl) (fun _ _ _ h => h) (Or.inl ⟨by rfl, ?_⟩) (by assumption) ?_
           rotate_left
           · intro w hSw; (try dsimp only at hSw); go_simp; (try with_reducible rfl)
           (try simp only [Act.put, List.getElem_toArray, List.getElem_cons_zero, List.getElem_cons_succ, Array.getInternal_eq_getElem, List.setIfInBounds_toArray, List.set_cons_zero, List.set_cons_succ])
           refine wpAnyH_take (i := 3) (v := ?_) rfl (by kernel_rfl) (by kernel_rfl) (by kernel_rfl) (fun _ _ _ h => h) (Or.inl ⟨by rfl, ?_⟩) (by assumption) ?_
           rotate_left
           · intro w hSw; (try dsimp only at hSw); go_simp; (try with_reducible rfl)
           (try simp only [Act.put, List.getElem_toArray, List.getElem_cons_zero, List.getElem_cons_succ, Array.getInternal_eq_getElem, List.setIfInBounds_toArray, List.set_cons_zero, List.set_cons_succ])
           refine wpAnyH_take (i := 4) (v := ?_) rfl (by kernel_rfl) (by kernel_rfl) (by kernel_rfl) (fun _ _ _ h => h) (Or.inl ⟨by rfl, ?_⟩) (by assumption) ?_
           rotate_left
           · intro w hSw; (try dsimp only at hSw); go_simp; (try with_reducible rfl)
           (try simp only [Act.put, List.getElem_toArray, List.getElem_cons_zero, List.getElem_cons_succ, Array.getInternal_eq_getElem, List.setIfInBounds_toArray, List.set_cons_zero, List.set_cons_succ])
           refine wpAnyH_take (i := 5) (v := ?_) rfl (by kernel_rfl) (by kernel_rfl) (by kernel_rfl) (fun _ _ _ h => h) (Or.inl ⟨by rfl, ?_⟩) (by assumption) ?_
           rotate_left
           · intro w hSw; (try dsimp only at hSw); go_simp; (try with_reducible rfl)
           (try simp only [Act.put, List.getElem_toArray, List.getElem_cons_zero, List.getElem_cons_succ, Array.getInternal_eq_getElem, List.setIfInBounds_toArray, List.set_cons_zero, List.set_cons_succ])
           refine wpAnyH_take (i := 6) (v := ?_) rfl (by kernel_rfl) (by kernel_rfl) (by kernel_rfl) (fun _ _ _ h => h) (Or.inl ⟨by rfl, ?_⟩) (by assumption) ?_
           rotate_left
           · intro w hSw; (try dsimp only at hSw); go_simp; (try with_reducible rfl)
           (try simp only [Act.put, List.getElem_toArray, List.getElem_cons_zero, List.getElem_cons_succ, Array.getInternal_eq_getElem, List.setIfInBounds_toArray, List.set_cons_zero, List.set_cons_succ])
           refine wpAnyH_take (i := 7) (v := ?_) rfl (by kernel_rfl) (by kernel_rfl) (by kernel_rfl) (fun _ _ _ h => h) (Or.inl ⟨by rfl, ?_⟩) (by assumption) ?_
           rotate_left
           · intro w hSw; (try dsimp only at hSw); go_simp; (try with_reducible rfl)
           (try simp only [Act.put, List.getElem_toArray, List.getElem_cons_zero, List.getElem_cons_succ, Array.getInternal_eq_getElem, List.setIfInBounds_toArray, List.set_cons_zero, List.set_cons_succ])
           refine wpAnyH_take (i := 8) (v := ?_) rfl (by kernel_rfl) (by kernel_rfl) (by kernel_rfl) (fun _ _ _ h => h) (Or.inl ⟨by rfl, ?_⟩) (by assumption) ?_
           rotate_left
           · intro w hSw; (try dsimp only at hSw); go_simp; (try with_reducible rfl)
           (try simp only [Act.put, List.getElem_toArray, List.getElem_cons_zero, List.getElem_cons_succ, Array.getInternal_eq_getElem, List.setIfInBounds_toArray, List.set_cons_zero, List.set_cons_succ])
           refine wpAnyH_take (i := 9) (v := ?_) rfl (by kernel_rfl) (by kernel_rfl) (by kernel_rfl) (fun _ _ _ h => h) (Or.inl ⟨by rfl, ?_⟩) (by assumption) ?_
           rotate_left
           · intro w hSw; (try dsimp only at hSw); go_simp; (try with_reducible rfl)
           (try simp only [Act.put, List.getElem_toArray, List.getElem_cons_zero, List.getElem_cons_succ, Array.getInternal_eq_getElem, List.setIfInBounds_toArray, List.set_cons_zero, List.set_cons_succ])
           refine wpAnyH_take (i := 10) (v := ?_) rfl (by kernel_rfl) (by kernel_rfl) (by kernel_rfl) (fun _ _ _ h => h) (Or.inl ⟨by rfl, ?_⟩) (by assumption) ?_
           rotate_left
           · intro w hSw; (try dsimp only at hSw); go_simp; (try with_reducible rfl)
           (try simp only [Act.put, List.getElem_toArray, List.getElem_cons_zero, List.getElem_cons_succ, Array.getInternal_eq_getElem, List.setIfInBounds_toArray, List.set_cons_zero, List.set_cons_succ])
           refine wpAnyH_take (i := 11) (v := ?_) rfl (by kernel_rfl) (by kernel_rfl) (by kernel_rfl) (fun _ _ _ h => h) (Or.inl ⟨by rfl, ?_⟩) (by assumption) ?_
           rotate_left
           · intro w hSw; (try dsimp only at hSw); go_simp; (try with_reducible rfl)
           (try simp only [Act.put, List.getElem_toArray, List.getElem_cons_zero, List.getElem_cons_succ, Array.getInternal_eq_getElem, List.setIfInBounds_toArray, List.set_cons_zero, List.set_cons_succ])
           refine wpAnyH_take (i := 12) (v := ?_) rfl (by kernel_rfl) (by kernel_rfl) (by kernel_rfl) (fun _ _ _ h => h) (Or.inl ⟨by rfl, ?_⟩) (by assumption) ?_
           rotate_left
           · intro w hSw; (try dsimp only at hSw); go_simp; (try with_reducible rfl)
           (try simp only [Act.put, List.getElem_toArray, List.getElem_cons_zero, List.getElem_cons_succ, Array.getInternal_eq_getElem, List.setIfInBounds_toArray, List.set_cons_zero, List.set_cons_succ])
           refine wpAnyH_take (i := 13) (v := ?_) rfl (by kernel_rfl) (by kernel_rfl) (by kernel_rfl) (fun _ _ _ h => h) (Or.inl ⟨by rfl, ?_⟩) (by assumption) ?_
           rotate_left
           · intro w hSw; (try dsimp only at hSw); go_simp; (try with_reducible rfl)
           (try simp only [Act.put, List.getElem_toArray, List.getElem_cons_zero, List.getElem_cons_succ, Array.getInternal_eq_getElem, List.setIfInBounds_toArray, List.set_cons_zero, List.set_cons_succ])
           refine wpAnyH_take (i := 14) (v := ?_) rfl (by kernel_rfl) (by kernel_rfl) (by kernel_rfl) (fun _ _ _ h => h) (Or.inl ⟨by rfl, ?_⟩) (by assumption) ?_
           rotate_left
           · intro w hSw; (try dsimp only at hSw); go_simp; (try with_reducible rfl)
           (try simp only [Act.put, List.getElem_toArray, List.getElem_cons_zero, List.getElem_cons_succ, Array.getInternal_eq_getElem, List.setIfInBounds_toArray, List.set_cons_zero, List.set_cons_succ])
           refine wpAnyH_take (i := 15) (v := ?_) rfl (by kernel_rfl) (by kernel_rfl) (by kernel_rfl) (fun _ _ _ h => h) (Or.inl ⟨by rfl, ?_⟩) (by assumption) ?_
           rotate_left
           · intro w hSw; (try dsimp only at hSw); go_simp; (try with_reducible rfl)
           (try simp only [Act.put, List.getElem_toArray, List.getElem_cons_zero, List.getElem_cons_succ, Array.getInternal_eq_getElem, List.setIfInBounds_toArray, List.set_cons_zero, List.set_cons_succ])
           refine wpAnyH_take (i := 16) (v := ?_) rfl (by kernel_rfl) (by kernel_rfl) (by kernel_rfl) (fun _ _ _ h => h) (Or.inl ⟨by rfl, ?_⟩) (by assumption) ?_
           rotate_left
           · intro w hSw; (try dsimp only at hSw); go_simp; (try with_reducible rfl)
           (try simp only [Act.put, List.getElem_toArray, List.getElem_cons_zero, List.getElem_cons_succ, Array.getInternal_eq_getElem, List.setIfInBounds_toArray, List.set_cons_zero, List.set_cons_succ])
           refine wpAnyH_take (i := 17) (v := ?_) rfl (by kernel_rfl) (by kernel_rfl) (by kernel_rfl) (fun _ _ _ h => h) (Or.inl ⟨by rfl, ?_⟩) (by assumption) ?_
           rotate_left
           · intro w hSw; (try dsimp only at hSw); go_simp; (try with_reducible rfl)
           (try simp only [Act.put, List.getElem_toArray, List.getElem_cons_zero, List.getElem_cons_succ, Array.getInternal_eq_getElem, List.setIfInBounds_toArray, List.set_cons_zero, List.set_cons_succ])
           refine wpAnyH_take (i := 18) (v := ?_) rfl (by kernel_rfl) (by kernel_rfl) (by kernel_rfl) (fun _ _ _ h => h) (Or.inl ⟨by rfl, ?_⟩) (by assumption) ?_
           rotate_left
           · intro w hSw; (try dsimp only at hSw); go_simp; (try with_reducible rfl)
           (try simp only [Act.put, List.getElem_toArray, List.getElem_cons_zero, List.getElem_cons_succ, Array.getInternal_eq_getElem, List.setIfInBounds_toArray, List.set_cons_zero, List.set_cons_succ])
           refine wpAnyH_take (i := 19) (v := ?_) rfl (by kernel_rfl) (by kernel_rfl) (by kernel_rfl) (fun _ _ _ h => h) (Or.inl ⟨by rfl, ?_⟩) (by assumption) ?_
           rotate_left
           · intro w hSw; (try dsimp only at hSw); go_simp; (try with_reducible rfl)
           (try simp only [Act.put, List.getElem_toArray, List.getElem_cons_zero, List.getElem_cons_succ, Array.getInternal_eq_getElem, List.setIfInBounds_toArray, List.set_cons_zero, List.set_cons_succ])
           refine wpAnyH_done (by kernel_rfl) ?_ _
           have HMx := Lib.hid (HM.out.below hHeld.2)
           clear X s0 s1 s2 s3 s4 fz rs
           go_wp2
           go_roundw
           case rel => exact ⟨m + 1, c, by omega, by go_num, HE.out, HMx.out⟩
           case measure => simp [intOf]; omega
         rw [decide_eq_true hl] at q2
         have HE := Lib.hid (HHit.out ⟨rfl, HIff.out.2 ⟨ho, hl⟩⟩)
         have HEq := Lib.hid (hty rfl (HIff.out.2 ⟨ho, hl⟩))
         clear hty HMiss HHit HIff ho hl
         go_wp2
         refine wp_region_held_drew (S := (fun w' => (w'.cell? ⟨w.heap.size + 1, 0, none⟩ = some (.int .i64 xo) ∧ w'.cell? ⟨w.heap.size + 1, 1, none⟩ = some (.string ⟨r.toArray⟩) ∧ w'.cell? ⟨w.heap.size + 1, 2, none⟩ = some (.string ⟨o.toArray⟩) ∧ w'.cell? ⟨w.heap.size + 1, 3, none⟩ = some (.string ⟨lb.toArray⟩) ∧ w'.cell? ⟨w.heap.size + 1, 4, none⟩ = some (.int .i64 nn) ∧ w'.cell? ⟨b3, f3 + m * 5, none⟩ = some (.int .i64 y.op) ∧ w'.cell? ⟨b3, f3 + m * 5 + 3, none⟩ = some (.string ⟨y.label.toArray⟩)) ∧ Below wr.heap.size wr w')) (by kernel_rfl) ⟨⟨X.1, X.2.1, X.2.2.1, X.2.2.2.1, X.2.2.2.2, z0, z3⟩, below_drewN (Below.refl _ _) 1⟩ (fun hHeld => ?_)
         refine wpAnyH_take (i := 0) (v := ?_) rfl (by kernel_rfl) (by kernel_rfl) (by kernel_rfl) (fun _ _ _ h => h) (Or.inl ⟨by rfl, ?_⟩) (by assumption) ?_
         rotate_left
         · intro w hSw; (try dsimp only at hSw); go_simp; (try with_reducible rfl)
         (try simp only [Act.put, List.getElem_toArray, List.getElem_cons_zero, List.getElem_cons_succ, Array.getInternal_eq_getElem, List.setIfInBounds_toArray, List.set_cons_zero, List.set_cons_succ])
         refine wpAnyH_ready (rs := [1]) (by kernel_rfl) (by simp) ?_
         refine AllReadyH.cons rfl (fun K hK => ?_) AllReadyH.nil
         go_simp
         refine (HJ.out _).mono ?_
         rintro e wj ⟨rfl, hba⟩
         obtain ⟨q0, q1, q2, q3, q4, q5, q6⟩ := hHeld.1
         refine hK.out _ _ ⟨⟨kc hba q0, kc hba q1, kc hba q2, kc hba q3, kc hba q4, kc hba q5, kc hba q6⟩, chain hHeld.2 hba⟩ (fun hHeld => ?_)
         clear hba q0 q1 q2 q3 q4 q5 q6
         clear hK K
         (try simp only [Act.put, List.getElem_toArray, List.getElem_cons_zero, List.getElem_cons_succ, Array.getInternal_eq_getElem, List.setIfInBounds_toArray, List.set_cons_zero, List.set_cons_succ])
         refine wpAnyH_take (i := 2) (v := ?_) rfl (by kernel_rfl) (by kernel_rfl) (by kernel_rfl) (fun _ _ _ h => h) (Or.inl ⟨by rfl, ?_⟩) (by assumption) ?_
         rotate_left
         · intro w hSw; (try dsimp only at hSw); go_simp; (try with_reducible rfl)
         (try simp only [Act.put, List.getElem_toArray, List.getElem_cons_zero, List.getElem_cons_succ, Array.getInternal_eq_getElem, List.setIfInBounds_toArray, List.set_cons_zero, List.set_cons_succ])
         refine wpAnyH_take (i := 3) (v := ?_) rfl (by kernel_rfl) (by kernel_rfl) (by kernel_rfl) (fun _ _ _ h => h) (Or.inl ⟨by rfl, ?_⟩) (by assumption) ?_
         rotate_left
         · intro w hSw; (try dsimp only at hSw); go_simp; (try with_reducible rfl)
         (try simp only [Act.put, List.getElem_toArray, List.getElem_cons_zero, List.getElem_cons_succ, Array.getInternal_eq_getElem, List.setIfInBounds_toArray, List.set_cons_zero, List.set_cons_succ])
         refine wpAnyH_take (i := 4) (v := ?_) rfl (by kernel_rfl) (by kernel_rfl) (by kernel_rfl) (fun _ _ _ h => h) (Or.inl ⟨by rfl, ?_⟩) (by assumption) ?_
         rotate_left
         · intro w hSw; (try dsimp only at hSw); go_simp; (try with_reducible rfl)
         (try simp only [Act.put, List.getElem_toArray, List.getElem_cons_zero, List.getElem_cons_succ, Array.getInternal_eq_getElem, List.setIfInBounds_toArray, List.set_cons_zero, List.set_cons_succ])
         refine wpAnyH_take (i := 5) (v := ?_) rfl (by kernel_rfl) (by kernel_rfl) (by kernel_rfl) (fun _ _ _ h => h) (Or.inl ⟨by rfl, ?_⟩) (by assumption) ?_
         rotate_left
         · intro w hSw; (try dsimp only at hSw); go_simp; (try with_reducible rfl)
         (try simp only [Act.put, List.getElem_toArray, List.getElem_cons_zero, List.getElem_cons_succ, Array.getInternal_eq_getElem, List.setIfInBounds_toArray, List.set_cons_zero, List.set_cons_succ])
         refine wpAnyH_take (i := 6) (v := ?_) rfl (by kernel_rfl) (by kernel_rfl) (by kernel_rfl) (fun _ _ _ h => h) (Or.inl ⟨by rfl, ?_⟩) (by assumption) ?_
         rotate_left
         · intro w hSw; (try dsimp only at hSw); go_simp; (try with_reducible rfl)
         (try simp only [Act.put, List.getElem_toArray, List.getElem_cons_zero, List.getElem_cons_succ, Array.getInternal_eq_getElem, List.setIfInBounds_toArray, List.set_cons_zero, List.set_cons_succ])
         refine wpAnyH_take (i := 7) (v := ?_) rfl (by kernel_rfl) (by kernel_rfl) (by kernel_rfl) (fun _ _ _ h => h) (Or.inl ⟨by rfl, ?_⟩) (by assumption) ?_
         rotate_left
         · intro w hSw; (try dsimp only at hSw); go_simp; (try with_reducible rfl)
         (try simp only [Act.put, List.getElem_toArray, List.getElem_cons_zero, List.getElem_cons_succ, Array.getInternal_eq_getElem, List.setIfInBounds_toArray, List.set_cons_zero, List.set_cons_succ])
         refine wpAnyH_take (i := 8) (v := ?_) rfl (by kernel_rfl) (by kernel_rfl) (by kernel_rfl) (fun _ _ _ h => h) (Or.inl ⟨by rfl, ?_⟩) (by assumption) ?_
         rotate_left
         · intro w hSw; (try dsimp only at hSw); go_simp; (try with_reducible rfl)
         (try simp only [Act.put, List.getElem_toArray, List.getElem_cons_zero, List.getElem_cons_succ, Array.getInternal_eq_getElem, List.setIfInBounds_toArray, List.set_cons_zero, List.set_cons_succ])
         refine wpAnyH_take (i := 9) (v := ?_) rfl (by kernel_rfl) (by kernel_rfl) (by kernel_rfl) (fun _ _ _ h => h) (Or.inl ⟨by rfl, ?_⟩) (by assumption) ?_
         rotate_left
         · intro w hSw; (try dsimp only at hSw); go_simp; (try with_reducible rfl)
         (try simp only [Act.put, List.getElem_toArray, List.getElem_cons_zero, List.getElem_cons_succ, Array.getInternal_eq_getElem, List.setIfInBounds_toArray, List.set_cons_zero, List.set_cons_succ])
         refine wpAnyH_take (i := 10) (v := ?_) rfl (by kernel_rfl) (by kernel_rfl) (by kernel_rfl) (fun _ _ _ h => h) (Or.inl ⟨by rfl, ?_⟩) (by assumption) ?_
         rotate_left
         · intro w hSw; (try dsimp only at hSw); go_simp; (try with_reducible rfl)
         (try simp only [Act.put, List.getElem_toArray, List.getElem_cons_zero, List.getElem_cons_succ, Array.getInternal_eq_getElem, List.setIfInBounds_toArray, List.set_cons_zero, List.set_cons_succ])
         refine wpAnyH_take (i := 11) (v := ?_) rfl (by kernel_rfl) (by kernel_rfl) (by kernel_rfl) (fun _ _ _ h => h) (Or.inl ⟨by rfl, ?_⟩) (by assumption) ?_
         rotate_left
         · intro w hSw; (try dsimp only at hSw); go_simp; (try with_reducible rfl)
         (try simp only [Act.put, List.getElem_toArray, List.getElem_cons_zero, List.getElem_cons_succ, Array.getInternal_eq_getElem, List.setIfInBounds_toArray, List.set_cons_zero, List.set_cons_succ])
         refine wpAnyH_take (i := 12) (v := ?_) rfl (by kernel_rfl) (by kernel_rfl) (by kernel_rfl) (fun _ _ _ h => h) (Or.inl ⟨by rfl, ?_⟩) (by assumption) ?_
         rotate_left
         · intro w hSw; (try dsimp only at hSw); go_simp; (try with_reducible rfl)
         (try simp only [Act.put, List.getElem_toArray, List.getElem_cons_zero, List.getElem_cons_succ, Array.getInternal_eq_getElem, List.setIfInBounds_toArray, List.set_cons_zero, List.set_cons_succ])
         refine wpAnyH_take (i := 13) (v := ?_) rfl (by kernel_rfl) (by kernel_rfl) (by kernel_rfl) (fun _ _ _ h => h) (Or.inl ⟨by rfl, ?_⟩) (by assumption) ?_
         rotate_left
         · intro w hSw; (try dsimp only at hSw); go_simp; (try with_reducible rfl)
         (try simp only [Act.put, List.getElem_toArray, List.getElem_cons_zero, List.getElem_cons_succ, Array.getInternal_eq_getElem, List.setIfInBounds_toArray, List.set_cons_zero, List.set_cons_succ])
         refine wpAnyH_take (i := 14) (v := ?_) rfl (by kernel_rfl) (by kernel_rfl) (by kernel_rfl) (fun _ _ _ h => h) (Or.inl ⟨by rfl, ?_⟩) (by assumption) ?_
         rotate_left
         · intro w hSw; (try dsimp only at hSw); go_simp; (try with_reducible rfl)
         (try simp only [Act.put, List.getElem_toArray, List.getElem_cons_zero, List.getElem_cons_succ, Array.getInternal_eq_getElem, List.setIfInBounds_toArray, List.set_cons_zero, List.set_cons_succ])
         refine wpAnyH_take (i := 15) (v := ?_) rfl (by kernel_rfl) (by kernel_rfl) (by kernel_rfl) (fun _ _ _ h => h) (Or.inl ⟨by rfl, ?_⟩) (by assumption) ?_
         rotate_left
         · intro w hSw; (try dsimp only at hSw); go_simp; (try with_reducible rfl)
         (try simp only [Act.put, List.getElem_toArray, List.getElem_cons_zero, List.getElem_cons_succ, Array.getInternal_eq_getElem, List.setIfInBounds_toArray, List.set_cons_zero, List.set_cons_succ])
         refine wpAnyH_take (i := 16) (v := ?_) rfl (by kernel_rfl) (by kernel_rfl) (by kernel_rfl) (fun _ _ _ h => h) (Or.inl ⟨by rfl, ?_⟩) (by assumption) ?_
         rotate_left
         · intro w hSw; (try dsimp only at hSw); go_simp; (try with_reducible rfl)
         (try simp only [Act.put, List.getElem_toArray, List.getElem_cons_zero, List.getElem_cons_succ, Array.getInternal_eq_getElem, List.setIfInBounds_toArray, List.set_cons_zero, List.set_cons_succ])
         refine wpAnyH_take (i := 17) (v := ?_) rfl (by kernel_rfl) (by kernel_rfl) (by kernel_rfl) (fun _ _ _ h => h) (Or.inl ⟨by rfl, ?_⟩) (by assumption) ?_
         rotate_left
         · intro w hSw; (try dsimp only at hSw); go_simp; (try with_reducible rfl)
         (try simp only [Act.put, List.getElem_toArray, List.getElem_cons_zero, List.getElem_cons_succ, Array.getInternal_eq_getElem, List.setIfInBounds_toArray, List.set_cons_zero, List.set_cons_succ])
         refine wpAnyH_take (i := 18) (v := ?_) rfl (by kernel_rfl) (by kernel_rfl) (by kernel_rfl) (fun _ _ _ h => h) (Or.inl ⟨by rfl, ?_⟩) (by assumption) ?_
         rotate_left
         · intro w hSw; (try dsimp only at hSw); go_simp; (try with_reducible rfl)
         (try simp only [Act.put, List.getElem_toArray, List.getElem_cons_zero, List.getElem_cons_succ, Array.getInternal_eq_getElem, List.setIfInBounds_toArray, List.set_cons_zero, List.set_cons_succ])
         refine wpAnyH_take (i := 19) (v := ?_) rfl (by kernel_rfl) (by kernel_rfl) (by kernel_rfl) (fun _ _ _ h => h) (Or.inl ⟨by rfl, ?_⟩) (by assumption) ?_
         rotate_left
         · intro w hSw; (try dsimp only at hSw); go_simp; (try with_reducible rfl)
         (try simp only [Act.put, List.getElem_toArray, List.getElem_cons_zero, List.getElem_cons_succ, Array.getInternal_eq_getElem, List.setIfInBounds_toArray, List.set_cons_zero, List.set_cons_succ])
         refine wpAnyH_done (by kernel_rfl) ?_ _
         have HMx := Lib.hid (HM.out.below hHeld.2)
         have HAh := Lib.hid (HEq.out ▸ rahead_any _ (HTk.out.below (HMx.out.bl.mono hBB)) (Nat.le_trans hBB HMx.out.bl.size))
         have HMs := Lib.hid (HMx.out.set4 (by omega) (by omega) (by omega) (tn : Nat))
         have f4 := HMx.out.fz 4 (by omega)
         have s4' := HMx.out.s4
         clear X s0 s1 s2 s3 s4 fz rs
         go_wp2_with fail
         refine HAh.out.mono ?_
         rintro e wb ⟨rfl, rfl⟩
         go_wp2
         go_roundw
         case rel => exact ⟨m + 1, _, by omega, by go_num, HE.out, HMs.out⟩
         case measure => simp [intOf]; omega
       · obtain rfl : ls.length = m := by omega
         obtain rfl := HF.out c HT.out
         obtain ⟨u0, r0, p0⟩ := rs 0 (by omega)
         obtain ⟨u1, r1, p1⟩ := rs 1 (by omega)
         obtain ⟨u2, r2, p2⟩ := rs 2 (by omega)
         obtain ⟨u3, r3, p3⟩ := rs 3 (by omega)
         obtain ⟨u4, r4, p4⟩ := rs 4 (by omega)
         clear X rs fz HM HT
         go_wp2
         obtain ⟨g0, g1, g2, g3, g4⟩ := sets5 (v0 := .int .i64 xo) (v1 := .int .i64 rg) (v2 := .int .i64 (lc : Nat)) (v3 := .int .i64 nn) (v4 := .int .i64 (tn : Nat)) r0 r1 r2 r3 r4
         have hBz := ((((hB.setCell (p := ⟨w.heap.size, 0, none⟩) (Nat.le_refl _) (.int .i64 xo)).setCell (p := ⟨w.heap.size, 1, none⟩) (Nat.le_refl _) (.int .i64 rg)).setCell (p := ⟨w.heap.size, 2, none⟩) (Nat.le_refl _) (.int .i64 (lc : Nat))).setCell (p := ⟨w.heap.size, 3, none⟩) (Nat.le_refl _) (.int .i64 nn)).setCell (p := ⟨w.heap.size, 4, none⟩) (Nat.le_refl _) (.int .i64 (tn : Nat))
         exact bodyPost_ret (v := stv xo rg (lc : Nat) nn (tn : Nat)) (by simp [results, Try.results57, go_sem, g0, g1, g2, g3, g4, hz]) rfl ⟨rfl, hBz⟩
end Go.Proofs.Ytaelfjphgdlbcaa
