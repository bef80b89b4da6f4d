/-
  THE DOCUMENT's step of a line.
-/
import Derived.Test.YtaelfjphgdlbcaaGreatDoorCodS
import Derived.Test.YtaelfjphgdlbcaaGreatDoorRLn0
import Derived.Test.YtaelfjphgdlbcaaGreatDoorRName
import Derived.Test.YtaelfjphgdlbcaaGreatDoorVHead
import Derived.Deep.RegionHeld3
import Derived.Deep.DeepCutAuto
namespace Go.Proofs.YtaelfjphgdlbcaaGreatDoor
open Go.RowKit
set_option linter.unusedVariables false
set_option linter.unusedSimpArgs false
open WordM (L)
open VM
open CodM (St Pg hasS cnt stp regI locN toN isLab)

/-- What a step says of where it jumps, behind k lines. -/
def ToK (ls : List OpsM.Ln) (lb : L) (jb : Bool) (tn k : Nat) (c : Int) : Prop := ((∃ j, ∃ h : j < ls.length, j < k ∧ jb = true ∧ isLab lb ls[j] = true) → c = (tn : Int)) ∧ ((∀ j (h : j < ls.length), j < k → ¬ (jb = true ∧ isLab lb ls[j] = true)) → c = 0)
theorem ToK.start {ls : List OpsM.Ln} {lb : L} {jb : Bool} {tn : Nat} : ToK ls lb jb tn 0 0 := ⟨fun ⟨j, _, h, _⟩ => absurd h (Nat.not_lt_zero j), fun _ => rfl⟩
theorem ToK.miss {ls : List OpsM.Ln} {lb : L} {jb : Bool} {tn k : Nat} {c : Int} (h : ToK ls lb jb tn k c) (hk : k < ls.length) (hn : ¬ (jb = true ∧ isLab lb ls[k] = true)) : ToK ls lb jb tn (k + 1) c := by
  refine ⟨fun ⟨j, hj, h1, h2⟩ => h.1 ⟨j, hj, ?_, h2⟩, fun hall => h.2 fun j hj h1 => hall j hj (by omega)⟩
  by_cases e : j = k
  · subst e; exact absurd h2 hn
  · omega
theorem ToK.hit {ls : List OpsM.Ln} {lb : L} {jb : Bool} {tn k : Nat} (hk : k < ls.length) (hy : jb = true ∧ isLab lb ls[k] = true) : ToK ls lb jb tn (k + 1) tn :=
  ⟨fun _ => rfl, fun hall => absurd hy (hall k hk (by omega))⟩
/-- What the document's step wants of a line among others. -/
structure StepOk (ls : List OpsM.Ln) (locs : List L) (x : OpsM.Ln) : Prop where
  reg : x.reg ≠ [] → WordM.regNo x.reg = regI x.reg
  loc : x.loc = [] → locN locs x.loc = 0
  tgt : ∀ j (h : j < ls.length), jmpB x = true → isLab x.label ls[j] = true → toN ls x.label = cnt (ls.take j)
  non : jmpB x = false → toN ls x.label = 0
theorem ToK.fin {ls : List OpsM.Ln} {locs : List L} {x : OpsM.Ln} (ok : StepOk ls locs x) {c : Int} (h : ToK ls x.label (jmpB x) (toN ls x.label) ls.length c) : c = (toN ls x.label : Nat) := by
  by_cases e : ∃ j, ∃ h : j < ls.length, j < ls.length ∧ jmpB x = true ∧ isLab x.label ls[j] = true
  · exact h.1 e
  · have e' : ∀ j (h : j < ls.length), j < ls.length → ¬ (jmpB x = true ∧ isLab x.label ls[j] = true) := fun j hj _ c => e ⟨j, hj, hj, c⟩
    rw [h.2 e']
    cases hj : jmpB x with
    | false => rw [ok.non hj]; rfl
    | true =>
      have : toN ls x.label = 0 := by
        unfold CodM.toN
        rw [CodM.pos0_none (fun j hj2 => by
          cases c : isLab x.label ls[j]
          · rfl
          · exact absurd ⟨hj, c⟩ (e' j hj2 hj2))]
        rfl
      rw [this]; rfl
/-- What the step's three boxes hold: the result's, the line's, the step's own. -/
structure StM (gr gx gs : Nat) (xo : Int) (r o lb : L) (nn rg lc tc : Int) (w wx : World) : Prop where
  x : LnBox wx gx xo ⟨r.toArray⟩ ⟨o.toArray⟩ ⟨lb.toArray⟩ nn
  s0 : wx.cell? ⟨gs, 0, none⟩ = some (.int .i64 xo)
  s1 : wx.cell? ⟨gs, 1, none⟩ = some (.int .i64 rg)
  s2 : wx.cell? ⟨gs, 2, none⟩ = some (.int .i64 lc)
  s3 : wx.cell? ⟨gs, 3, none⟩ = some (.int .i64 nn)
  s4 : wx.cell? ⟨gs, 4, none⟩ = some (.int .i64 tc)
  fz : ∀ i, i < 5 → wx.frozen? ⟨gs, i, none⟩ = false
  rs : ∀ i, i < 5 → ∃ u, wx.cell? ⟨gr, i, none⟩ = some u ∧ wx.frozen? ⟨gr, i, none⟩ = false
  bl : Below w.heap.size w wx
theorem StM.below {gr gx gs : Nat} {xo : Int} {r o lb : L} {nn rg lc tc : Int} {w wx wy : World} (h : StM gr gx gs xo r o lb nn rg lc tc w wx) (hb : Below wx.heap.size wx wy) : StM gr gx gs xo r o lb nn rg lc tc w wy :=
  ⟨h.x.below hb, kc hb h.s0, kc hb h.s1, kc hb h.s2, kc hb h.s3, kc hb h.s4, fun i hi => (hb.frozen (p := ⟨gs, i, none⟩) (lt_of_cell h.s0)).trans (h.fz i hi), fun i hi => by
    obtain ⟨u, h1, h2⟩ := h.rs i hi
    exact ⟨u, kc hb h1, (hb.frozen (p := ⟨gr, i, none⟩) (lt_of_cell h1)).trans h2⟩, chain h.bl hb⟩
theorem set_frozen {w : World} {b i g j : Nat} {v : Value} : (w.setCell ⟨b, i, none⟩ v).frozen? ⟨g, j, none⟩ = w.frozen? ⟨g, j, none⟩ := by
  simp
theorem StM.set1 {gr gx gs : Nat} {xo : Int} {r o lb : L} {nn rg lc tc : Int} {w wx : World} (h : StM gr gx gs xo r o lb nn rg lc tc w wx) (e1 : gx ≠ gs) (e2 : gr ≠ gs) (e3 : w.heap.size ≤ gs) (n : Int) : StM gr gx gs xo r o lb nn n lc tc w (wx.setCell ⟨gs, 1, none⟩ (.int .i64 n)) := by
  obtain ⟨⟨x0, x1, x2, x3, x4⟩, s0, s1, s2, s3, s4, fz, rs, bl⟩ := h
  have e1' := Ne.symm e1
  refine ⟨⟨set_oth (.inl e1') x0, set_oth (.inl e1') x1, set_oth (.inl e1') x2, set_oth (.inl e1') x3, set_oth (.inl e1') x4⟩, set_oth (.inr (by decide)) s0, World.cell?_setCell_same _ _ _ s1, set_oth (.inr (by decide)) s2, set_oth (.inr (by decide)) s3, set_oth (.inr (by decide)) s4, fun i hi => set_frozen.trans (fz i hi), fun i hi => ?_, bl.setCell (p := ⟨gs, 1, none⟩) e3 _⟩
  obtain ⟨u, h1, h2⟩ := rs i hi
  exact ⟨u, set_oth (.inl (Ne.symm e2)) h1, set_frozen.trans h2⟩
theorem StM.set2 {gr gx gs : Nat} {xo : Int} {r o lb : L} {nn rg lc tc : Int} {w wx : World} (h : StM gr gx gs xo r o lb nn rg lc tc w wx) (e1 : gx ≠ gs) (e2 : gr ≠ gs) (e3 : w.heap.size ≤ gs) (n : Int) : StM gr gx gs xo r o lb nn rg n tc w (wx.setCell ⟨gs, 2, none⟩ (.int .i64 n)) := by
  obtain ⟨⟨x0, x1, x2, x3, x4⟩, s0, s1, s2, s3, s4, fz, rs, bl⟩ := h
  have e1' := Ne.symm e1
  refine ⟨⟨set_oth (.inl e1') x0, set_oth (.inl e1') x1, set_oth (.inl e1') x2, set_oth (.inl e1') x3, set_oth (.inl e1') x4⟩, set_oth (.inr (by decide)) s0, set_oth (.inr (by decide)) s1, World.cell?_setCell_same _ _ _ s2, set_oth (.inr (by decide)) s3, set_oth (.inr (by decide)) s4, fun i hi => set_frozen.trans (fz i hi), fun i hi => ?_, bl.setCell (p := ⟨gs, 2, none⟩) e3 _⟩
  obtain ⟨u, h1, h2⟩ := rs i hi
  exact ⟨u, set_oth (.inl (Ne.symm e2)) h1, set_frozen.trans h2⟩
theorem StM.set4 {gr gx gs : Nat} {xo : Int} {r o lb : L} {nn rg lc tc : Int} {w wx : World} (h : StM gr gx gs xo r o lb nn rg lc tc w wx) (e1 : gx ≠ gs) (e2 : gr ≠ gs) (e3 : w.heap.size ≤ gs) (n : Int) : StM gr gx gs xo r o lb nn rg lc n w (wx.setCell ⟨gs, 4, none⟩ (.int .i64 n)) := by
  obtain ⟨⟨x0, x1, x2, x3, x4⟩, s0, s1, s2, s3, s4, fz, rs, bl⟩ := h
  have e1' := Ne.symm e1
  refine ⟨⟨set_oth (.inl e1') x0, set_oth (.inl e1') x1, set_oth (.inl e1') x2, set_oth (.inl e1') x3, set_oth (.inl e1') x4⟩, set_oth (.inr (by decide)) s0, set_oth (.inr (by decide)) s1, set_oth (.inr (by decide)) s2, set_oth (.inr (by decide)) s3, World.cell?_setCell_same _ _ _ s4, fun i hi => set_frozen.trans (fz i hi), fun i hi => ?_, bl.setCell (p := ⟨gs, 4, none⟩) e3 _⟩
  obtain ⟨u, h1, h2⟩ := rs i hi
  exact ⟨u, set_oth (.inl (Ne.symm e2)) h1, set_frozen.trans h2⟩
theorem sets5 {W : World} {b : Nat} {u0 u1 u2 u3 u4 v0 v1 v2 v3 v4 : Value} (h0 : W.cell? ⟨b, 0, none⟩ = some u0) (h1 : W.cell? ⟨b, 1, none⟩ = some u1) (h2 : W.cell? ⟨b, 2, none⟩ = some u2) (h3 : W.cell? ⟨b, 3, none⟩ = some u3) (h4 : W.cell? ⟨b, 4, none⟩ = some u4) :
    (((((W.setCell ⟨b, 0, none⟩ v0).setCell ⟨b, 1, none⟩ v1).setCell ⟨b, 2, none⟩ v2).setCell ⟨b, 3, none⟩ v3).setCell ⟨b, 4, none⟩ v4).cell? ⟨b, 0, none⟩ = some v0 ∧ (((((W.setCell ⟨b, 0, none⟩ v0).setCell ⟨b, 1, none⟩ v1).setCell ⟨b, 2, none⟩ v2).setCell ⟨b, 3, none⟩ v3).setCell ⟨b, 4, none⟩ v4).cell? ⟨b, 1, none⟩ = some v1 ∧
    (((((W.setCell ⟨b, 0, none⟩ v0).setCell ⟨b, 1, none⟩ v1).setCell ⟨b, 2, none⟩ v2).setCell ⟨b, 3, none⟩ v3).setCell ⟨b, 4, none⟩ v4).cell? ⟨b, 2, none⟩ = some v2 ∧ (((((W.setCell ⟨b, 0, none⟩ v0).setCell ⟨b, 1, none⟩ v1).setCell ⟨b, 2, none⟩ v2).setCell ⟨b, 3, none⟩ v3).setCell ⟨b, 4, none⟩ v4).cell? ⟨b, 3, none⟩ = some v3 ∧
    (((((W.setCell ⟨b, 0, none⟩ v0).setCell ⟨b, 1, none⟩ v1).setCell ⟨b, 2, none⟩ v2).setCell ⟨b, 3, none⟩ v3).setCell ⟨b, 4, none⟩ v4).cell? ⟨b, 4, none⟩ = some v4 := by
  have n {i j : Nat} (h : i ≠ j) : b ≠ b ∨ i ≠ j := .inr h
  refine ⟨set_oth (n (by decide)) (set_oth (n (by decide)) (set_oth (n (by decide)) (set_oth (n (by decide)) (World.cell?_setCell_same _ _ _ h0)))), set_oth (n (by decide)) (set_oth (n (by decide)) (set_oth (n (by decide)) (World.cell?_setCell_same _ _ _ (set_oth (n (by decide)) h1)))),
    set_oth (n (by decide)) (set_oth (n (by decide)) (World.cell?_setCell_same _ _ _ (set_oth (n (by decide)) (set_oth (n (by decide)) h2)))), set_oth (n (by decide)) (World.cell?_setCell_same _ _ _ (set_oth (n (by decide)) (set_oth (n (by decide)) (set_oth (n (by decide)) h3)))),
    World.cell?_setCell_same _ _ _ (set_oth (n (by decide)) (set_oth (n (by decide)) (set_oth (n (by decide)) (set_oth (n (by decide)) h4))))⟩
def wS (w : World) (xo : Int) (r o lb : L) (nn : Int) : World := ((w.alloc (.cells #[.int .i64 0, .int .i64 0, .int .i64 0, .int .i64 0, .int .i64 0] 30)).alloc (.cells #[.int .i64 xo, .string ⟨r.toArray⟩, .string ⟨o.toArray⟩, .string ⟨lb.toArray⟩, .int .i64 nn] 42)).alloc (.cells #[.int .i64 xo, .int .i64 0, .int .i64 0, .int .i64 nn, .int .i64 0] 30)
theorem five {P : Nat → Prop} (h0 : P 0) (h1 : P 1) (h2 : P 2) (h3 : P 3) (h4 : P 4) : ∀ i, i < 5 → P i
  | 0, _ => h0 | 1, _ => h1 | 2, _ => h2 | 3, _ => h3 | 4, _ => h4
theorem StM.start (w : World) (xo : Int) (r o lb : L) (nn : Int) : StM w.heap.size (w.heap.size + 1) (w.heap.size + 1 + 1) xo r o lb nn 0 0 0 w (wS w xo r o lb nn) := by
  have HC := fun (j i : Nat) (cs : Array Value) (T : TypeId) (v : Value) => allocs_cell [(.cells #[.int .i64 0, .int .i64 0, .int .i64 0, .int .i64 0, .int .i64 0] 30), (.cells #[.int .i64 xo, .string ⟨r.toArray⟩, .string ⟨o.toArray⟩, .string ⟨lb.toArray⟩, .int .i64 nn] 42), (.cells #[.int .i64 xo, .int .i64 0, .int .i64 0, .int .i64 nn, .int .i64 0] 30)] w j cs T i v
  refine ⟨⟨(HC 1 0 _ _ _ rfl rfl).1, (HC 1 1 _ _ _ rfl rfl).1, (HC 1 2 _ _ _ rfl rfl).1, (HC 1 3 _ _ _ rfl rfl).1, (HC 1 4 _ _ _ rfl rfl).1⟩, (HC 2 0 _ _ _ rfl rfl).1, (HC 2 1 _ _ _ rfl rfl).1, (HC 2 2 _ _ _ rfl rfl).1, (HC 2 3 _ _ _ rfl rfl).1, (HC 2 4 _ _ _ rfl rfl).1,
    five (HC 2 0 _ _ _ rfl rfl).2 (HC 2 1 _ _ _ rfl rfl).2 (HC 2 2 _ _ _ rfl rfl).2 (HC 2 3 _ _ _ rfl rfl).2 (HC 2 4 _ _ _ rfl rfl).2,
    five ⟨_, HC 0 0 _ _ _ rfl rfl⟩ ⟨_, HC 0 1 _ _ _ rfl rfl⟩ ⟨_, HC 0 2 _ _ _ rfl rfl⟩ ⟨_, HC 0 3 _ _ _ rfl rfl⟩ ⟨_, HC 0 4 _ _ _ rfl rfl⟩, below_al (below_al (below_al (Below.refl _ _) _) _) _⟩
end Go.Proofs.YtaelfjphgdlbcaaGreatDoor
