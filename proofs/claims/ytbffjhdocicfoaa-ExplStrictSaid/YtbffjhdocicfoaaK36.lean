/-
  THE DOCUMENT's Same of layer 10, of any two states: whether they are alike.
  ENDS in memory; how the program holds two of them against one another.
  ENDS: order, Less, alike.
  ENDS WITH THEIR PLACES, in memory; how the program holds two of them against one another.
  LAYER 13: run.Over.
  LAYER 13: ends: what locations have, and all registers; run.End.
  THE SEARCH: the ends of what is over.
  slices.swapRangeCmpFunc over ends with places.
-/
import Derived.Test.YtbffjhdocicfoaaScX
import Derived.Deep.RegionHeld3
import Derived.Test.YtbffjhdocicfoaaK00
import Derived.Test.YtbffjhdocicfoaaScP
import Derived.Deep.DeepCutAuto
import Derived.Sort.Grow
import Derived.Test.YtbffjhdocicfoaaK10
import Derived.Test.YtbffjhdocicfoaaK27
import Derived.Test.YtbffjhdocicfoaaK15
import Derived.Test.YtbffjhdocicfoaaEyU
set_option linter.unusedVariables false
set_option linter.unusedSimpArgs false
namespace Go.Proofs.Ytbffjhdocicfoaa
open Go.RowKit
set_option linter.unusedVariables false
set_option linter.unusedSimpArgs false
open BfM (Wr plc)
open ScM

/-- What tells whether two are alike. -/
def AlRet {α : Type} (x y : α) (w : World) (e : Ending) (w' : World) : Prop := ∃ b, e = .returned (.bool b) ∧ (b = true ↔ x = y) ∧ Below w.heap.size w w'
set_option maxHeartbeats 4000000 in
set_option maxRecDepth 100000 in
theorem nsame_dec {B : Nat} {v u : Value} {ns ms : List Int} (w : World) (hv : IntR B w v ns) (hu : IntR B w u ms) (hBB : B ≤ w.heap.size) :
    Calls Try.prog 20 #[v, u] w (AlRet ns ms w) := by
  obtain ⟨A1, c1, rfl, ha1, ha2, -, ha3⟩ := hv
  obtain ⟨A2, c2, rfl, hb1, hb2, -, hb3⟩ := hu
  unfold maxLen at ha2 hb2
  have ha3 := nu_at (c := c1) ha3
  have hb3 := nu_at (c := c2) hb3
  by_cases hl : ns.length = ms.length
  · have HL := Lib.hid hl
    have q1 : ((ns.length : Int) != (ms.length : Int)) = false := by rw [hl]; simp
    have q2 : (ns.length : Int) = (ms.length : Int) := by rw [hl]
    obtain ⟨n, hn⟩ : ∃ n, n = ms.length := ⟨_, rfl⟩
    have HN := Lib.hid hn
    have HNN := Lib.hid (show ns.length = n from by rw [hn]; exact hl)
    rw [hl] at ha1 ⊢
    rw [← hn] at ha1 hb1 ⊢
    clear hl q1 q2 hn
    go_enter Try.func20, Try.ntmps20
    go_wp2
    go_loopw [5] (fun i wr => ∃ k : Nat, k ≤ n ∧ i = .int .i64 k ∧ ns.take k = ms.take k ∧ Below w.heap.size w wr) (fun i _ => n - (intOf i).toNat)
    case atStart => exact ⟨0, Nat.zero_le _, rfl, by simp, Below.refl _ _⟩
    case round =>
      obtain ⟨k, hk, rfl, he, hB⟩ := hrel
      by_cases hlt : k < n
      · have hn1 : k < ns.length := by have := HNN.out; omega
        have hn2 : k < ms.length := by have := HN.out; omega
        obtain ⟨b1, f1, rfl, hl1, hc1⟩ := ha3 (by omega)
        obtain ⟨b2, f2, rfl, hl2, hc2⟩ := hb3 (by omega)
        have d1 := ((hB.mono hBB).cell (p := ⟨b1, f1 + k, none⟩) hl1).trans (hc1 k hn1)
        have d2 := ((hB.mono hBB).cell (p := ⟨b2, f2 + k, none⟩) hl2).trans (hc2 k hn2)
        have HT := Lib.hid (fun (h : ns[k] = ms[k]) => show ns.take (k + 1) = ms.take (k + 1) from by rw [List.take_succ_eq_append_getElem hn1, List.take_succ_eq_append_getElem hn2, he, h])
        have HF := Lib.hid (fun (h : ¬ ns[k] = ms[k]) => show ¬ ns = ms from fun e => h (by subst e; rfl))
        obtain ⟨x, hx⟩ : ∃ x, x = ns[k] := ⟨_, rfl⟩
        obtain ⟨y, hy⟩ : ∃ x, x = ms[k] := ⟨_, rfl⟩
        rw [← hx] at d1 HT HF
        rw [← hy] at d2 HT HF
        clear hx hy hc1 hc2 ha3 hb3 he hn1 hn2
        by_cases hxy : x = y
        · have HE := Lib.hid (HT.out hxy)
          subst hxy
          clear HT HF
          go_wp2
          go_quiet (fail)
          go_wp2
          go_roundw
          case rel => exact ⟨k + 1, by omega, by go_num, HE.out, below_drewN hB _⟩
          case measure => simp [intOf]; omega
        · have HE := Lib.hid (HF.out hxy)
          have q1 : (x != y) = true := by simp [bne, hxy]
          have q2 : (x == y) = false := beq_eq_false_iff_ne.2 hxy
          clear HT HF
          go_wp2
          go_quiet (fail)
          go_wp2
          go_ret
          exact ⟨false, rfl, ⟨fun h => (by cases h), fun h => absurd h HE.out⟩, below_drewN hB _⟩
      · obtain rfl : n = k := by omega
        have HE := Lib.hid (show ns = ms from by
          have h1 := List.take_length (l := ns)
          have h2 := List.take_length (l := ms)
          rw [HNN.out] at h1
          rw [← HN.out] at h2
          rw [← h1, ← h2]; exact he)
        clear ha3 hb3 he
        go_wp2
        go_ret
        exact ⟨true, rfl, ⟨fun _ => HE.out, fun _ => rfl⟩, hB⟩
  · have HE := Lib.hid (show ¬ ns = ms from fun e => hl (by rw [e]))
    have q1 : ((ns.length : Int) != (ms.length : Int)) = true := by
      rw [bne, beq_eq_false_iff_ne.2 (by omega)]; rfl
    clear ha3 hb3
    go_enter Try.func20, Try.ntmps20
    go_wp2
    go_ret
    exact ⟨false, rfl, ⟨fun h => (by cases h), fun h => absurd h HE.out⟩, Below.refl _ _⟩
end Go.Proofs.Ytbffjhdocicfoaa
namespace Go.Proofs.Ytbffjhdocicfoaa
open Go.RowKit
set_option linter.unusedVariables false
set_option linter.unusedSimpArgs false
open OtM

/-- All that was stays, and what is drawn is drawn. -/
def Bg (w w' : World) : Prop := Below w.heap.size w w' ∧ w.drawn ≤ w'.drawn
theorem Bg.refl (w : World) : Bg w w := ⟨Below.refl _ _, Nat.le_refl _⟩
theorem Bg.trans {a b c : World} (h : Bg a b) (k : Bg b c) : Bg a c := ⟨chain h.1 k.1, Nat.le_trans h.2 k.2⟩
theorem Bg.al (w : World) (o : Obj) : Bg w (w.alloc o) := ⟨below_al (Below.refl _ _) o, Nat.le_refl _⟩
theorem drawn_drewN (w : World) : ∀ n, (w.drewN n).drawn = w.drawn + n
  | 0 => rfl
  | n + 1 => by show (w.drewN n).drawn + 1 = _; rw [drawn_drewN w n]; rfl
theorem Bg.dn (w : World) (n : Nat) : Bg w (w.drewN n) := ⟨below_drewN (Below.refl _ _) n, by rw [drawn_drewN]; omega⟩
/-- An end, as two values that read as it. -/
structure OV where
  m : Value
  r : Value
  o : Ot
def ovC (x : OV) : List Value := [x.m, x.r]
/-- An end in memory. -/
def OutR (B : Nat) (w : World) (v : Value) (o : Ot) : Prop := ∃ vm vr, v = .agg #[vm, vr] ∧ IntR B w vm o.1 ∧ IntR B w vr o.2
theorem OutR.below {B : Nat} {w w' : World} {v : Value} {o : Ot} (h : OutR B w v o) (hb : Below B w w') : OutR B w' v o := by
  obtain ⟨a, b, e, h1, h2⟩ := h; exact ⟨a, b, e, h1.below hb, h2.below hb⟩
abbrev os (xs : List OV) : List Ot := xs.map (·.o)
theorem info_out : (Try.prog.info? 33).map (fun i => (i.zero, i.size, i.bytes)) = some (some (.agg #[.slice none 0 0, .slice none 0 0]), 2, 48) := by kernel_rfl
def cI (x y : Int) : Int := if x = y then 0 else if x < y then -1 else 1
set_option maxHeartbeats 1000000 in
set_option maxRecDepth 100000 in
theorem cint_any (x y : Int) (w : World) : Calls Try.prog 126 #[.int .i64 x, .int .i64 y] w fun e w' => e = .returned (.int .i64 (cI x y)) ∧ w' = w := by
  by_cases h1 : x = y
  · subst h1
    go_enter Try.func126, Try.ntmps126
    go_wp2
    go_ret
    exact ⟨by simp [cI], rfl⟩
  · by_cases h2 : x < y
    · have h3 : ¬ y < x := by omega
      go_enter Try.func126, Try.ntmps126
      go_wp2
      go_ret
      exact ⟨by simp [cI, h1, h2], rfl⟩
    · have h3 : y < x := by omega
      go_enter Try.func126, Try.ntmps126
      go_wp2
      go_ret
      exact ⟨by simp [cI, h1, h2], rfl⟩
set_option maxHeartbeats 4000000 in
set_option maxRecDepth 100000 in
theorem ccmp_any {B : Nat} {v u : Value} {ns ms : List Int} (w : World) (hv : IntR B w v ns) (hu : IntR B w u ms) :
    Calls Try.prog 125 #[v, u] w fun e w' => e = .returned (.int .i64 (cmpI ns ms)) ∧ w' = w := by
  obtain ⟨A1, c1, rfl, ha1, ha2, -, ha3⟩ := hv
  obtain ⟨A2, c2, rfl, hb1, hb2, -, hb3⟩ := hu
  unfold maxLen at ha2 hb2
  have ha3 := nu_at (c := c1) ha3
  have hb3 := nu_at (c := c2) hb3
  have HC := Lib.hid (fun (x y : Int) => cint_any x y w)
  obtain ⟨n, hn⟩ : ∃ n, n = ns.length := ⟨_, rfl⟩
  obtain ⟨m, hm⟩ : ∃ n, n = ms.length := ⟨_, rfl⟩
  have HN := Lib.hid hn
  have HM := Lib.hid hm
  rw [← hn] at ha1 ⊢
  rw [← hm] at hb1 ⊢
  clear hn hm
  go_enter Try.func125, Try.ntmps125
  go_wp2
  go_loopw [11] (fun i wr => ∃ k : Nat, k ≤ n ∧ i = .int .i64 k ∧ Hid (k ≤ m ∧ cmpI ns ms = cmpI (ns.drop k) (ms.drop k)) ∧ wr = w) (fun i _ => n - (intOf i).toNat)
  case atStart => exact ⟨0, Nat.zero_le _, rfl, Lib.hid ⟨Nat.zero_le _, rfl⟩, rfl⟩
  case round =>
    obtain ⟨k, hk, rfl, he, rfl⟩ := hrel
    by_cases hlt : k < n
    · obtain ⟨b1, f1, rfl, hl1, hc1⟩ := ha3 (by have := HN.out; omega)
      have hn1 : k < ns.length := by have := HN.out; omega
      have d1 := hc1 k (by have := HN.out; omega)
      by_cases hlm : k < m
      · obtain ⟨b2, f2, rfl, hl2, hc2⟩ := hb3 (by have := HM.out; omega)
        have hn2 : k < ms.length := by have := HM.out; omega
        have d2 := hc2 k hn2
        have HT := Lib.hid (fun (h : ns[k] = ms[k]) => he.out.2.trans (cmpI_step hn1 hn2 h))
        have HF := Lib.hid (fun (h : ¬ ns[k] = ms[k]) => he.out.2.trans (cmpI_apart hn1 hn2 h))
        obtain ⟨x, hx⟩ : ∃ x, x = ns[k] := ⟨_, rfl⟩
        obtain ⟨y, hy⟩ : ∃ x, x = ms[k] := ⟨_, rfl⟩
        rw [← hx] at d1 HT HF
        rw [← hy] at d2 HT HF
        have hml : ¬ m ≤ k := by omega
        clear hx hy hc1 hc2 ha3 hb3 he hn1 hn2
        by_cases hxy : x = y
        · have HE := Lib.hid (HT.out hxy)
          subst hxy
          have hc0 : cI x x = 0 := by simp [cI]
          have HC1 := HC.out x x
          rw [hc0] at HC1
          have HC2 := Lib.hid HC1
          clear HC1 HT HF hc0
          go_wp2_with fail
          refine HC2.out.mono ?_
          rintro e w' ⟨rfl, rfl⟩
          go_wp2
          go_roundw
          case rel => exact ⟨k + 1, by omega, by go_num, Lib.hid ⟨by omega, HE.out⟩, by first | trivial | rfl⟩
          case measure => simp [intOf]; omega
        · have HE := HF.out hxy
          have hc0 : cI x y = if x < y then -1 else 1 := by simp [cI, hxy]
          have HC1 := HC.out x y
          rw [hc0, ← HE] at HC1
          have HC2 := Lib.hid HC1
          have hne : ¬ cmpI ns ms = 0 := by rw [HE]; split <;> decide
          have hne2 : (cmpI ns ms != 0) = true := by simp [bne, hne]
          clear HC1 HT HF hc0 HE
          obtain ⟨r, hr⟩ : ∃ r, r = cmpI ns ms := ⟨_, rfl⟩
          rw [← hr] at HC2 hne hne2
          have HR := Lib.hid hr
          clear hr
          go_wp2_with fail
          refine HC2.out.mono ?_
          rintro e w' ⟨rfl, rfl⟩
          go_wp2
          go_ret
          exact ⟨by rw [← HR.out]; rfl, rfl⟩
      · have HE := Lib.hid (he.out.2.trans (cmpI_long hn1 (by have := HM.out; omega)))
        have hml : m ≤ k := by omega
        have hkm : m = k := by have := he.out.1; omega
        have HK := Lib.hid hkm
        clear hkm he hb3 ha3 hc1
        obtain ⟨x, hx⟩ : ∃ x, x = ns[k] := ⟨_, rfl⟩
        rw [← hx] at d1
        clear hx hn1
        go_wp2
        go_ret
        exact ⟨by rw [HE.out]; rfl, rfl⟩
    · obtain rfl : n = k := by omega
      have hk2 := he.out.1
      have HE := he.out.2
      by_cases hlm : n < m
      · rw [cmpI_short (by have := HN.out; omega) (by have := HM.out; omega)] at HE
        have HE := Lib.hid HE
        clear he ha3 hb3
        go_wp2
        go_ret
        exact ⟨by rw [HE.out]; rfl, rfl⟩
      · rw [cmpI_end (by have := HN.out; omega) (by have := HM.out; omega)] at HE
        have HE := Lib.hid HE
        have : m = n := by omega
        clear he ha3 hb3
        go_wp2
        go_ret
        exact ⟨by rw [HE.out]; rfl, rfl⟩
/-- A new box. -/
theorem box2 {w : World} (a b : Value) (T : TypeId) : (w.alloc (.cells #[a, b] T)).cell? ⟨w.heap.size, 0, none⟩ = some a ∧ (w.alloc (.cells #[a, b] T)).cell? ⟨w.heap.size, 1, none⟩ = some b := by
  refine ⟨?_, ?_⟩ <;> (rw [World.cell?_alloc_at _ _ _ _ rfl]; rfl)
theorem cmpO_eq (a b : Ot) (r : Int) (h : cmpI a.1 b.1 = r) : cmpO a b = if r = 0 then cmpI a.2 b.2 else r := by rw [cmpO, h]
set_option maxHeartbeats 4000000 in
set_option maxRecDepth 100000 in
theorem against_any {B : Nat} {v u : Value} {a b : Ot} (w : World) (hv : OutR B w v a) (hu : OutR B w u b) (hBB : B ≤ w.heap.size) :
    Calls Try.prog 124 #[v, u] w fun e w' => e = .returned (.int .i64 (cmpO a b)) ∧ Bg w w' := by
  obtain ⟨vm, vr, rfl, h1, h2⟩ := hv
  obtain ⟨um, ur, rfl, g1, g2⟩ := hu
  have HC1 := Lib.hid (fun W (hW : Below w.heap.size w W) => ccmp_any W (h1.below (hW.mono hBB)) (g1.below (hW.mono hBB)))
  have HC2 := Lib.hid (fun W (hW : Below w.heap.size w W) => ccmp_any W (h2.below (hW.mono hBB)) (g2.below (hW.mono hBB)))
  obtain ⟨A1, c1, rfl, -⟩ := h1
  obtain ⟨A2, c2, rfl, -⟩ := h2
  obtain ⟨D1, e1, rfl, -⟩ := g1
  obtain ⟨D2, e2, rfl, -⟩ := g2
  generalize a.1.length = n1 at *
  generalize a.2.length = n2 at *
  generalize b.1.length = n3 at *
  generalize b.2.length = n4 at *
  obtain ⟨W2, hW2⟩ : ∃ W, W = (w.alloc (.cells #[.slice A1 n1 c1, .slice A2 n2 c2] 167)).alloc (.cells #[.slice D1 n3 e1, .slice D2 n4 e2] 33) := ⟨_, rfl⟩
  obtain ⟨ga, hga⟩ : ∃ g, g = w.heap.size := ⟨_, rfl⟩
  obtain ⟨gb, hgb⟩ : ∃ g, g = w.heap.size + 1 := ⟨_, rfl⟩
  have HX := Lib.hid (show BoxC W2 ga 167 #[.slice A1 n1 c1, .slice A2 n2 c2] from by rw [hW2, hga]; exact (BoxC.new w _ _).alloc _)
  have HY := Lib.hid (show BoxC W2 gb 33 #[.slice D1 n3 e1, .slice D2 n4 e2] from by rw [hW2, hgb]; have := BoxC.new (w.alloc (.cells #[.slice A1 n1 c1, .slice A2 n2 c2] 167)) 33 #[.slice D1 n3 e1, .slice D2 n4 e2]; rw [World.size_alloc] at this; exact this)
  have HB2 := Lib.hid (show Bg w W2 from by rw [hW2]; exact (Bg.al _ _).trans (Bg.al _ _))
  obtain ⟨r, hr⟩ : ∃ r, r = cmpI a.1 b.1 := ⟨_, rfl⟩
  obtain ⟨s, hs⟩ : ∃ r, r = cmpI a.2 b.2 := ⟨_, rfl⟩
  rw [← hr] at HC1
  rw [← hs] at HC2
  have HR := Lib.hid (cmpO_eq a b r hr.symm)
  rw [← hs] at HR
  have hne : (r != 0) = !decide (r = 0) := by by_cases h : r = 0 <;> simp [bne, h]
  clear hr hs
  go_enter Try.func124, Try.ntmps124
  go_upto_region 1 with fail
  rw [← hW2]
  (try rw [← hgb])
  (try rw [← hga])
  clear hW2 hga hgb
  have x0 := HX.out.cell 0 _ rfl
  have x1 := HX.out.cell 1 _ rfl
  have y0 := HY.out.cell 0 _ rfl
  have y1 := HY.out.cell 1 _ rfl
  go_wp2_with fail
  refine (HC1.out _ HB2.out.1).mono ?_
  rintro e V1 ⟨rfl, rfl⟩
  by_cases h0 : r = 0
  · have hz : (r != 0) = false := by rw [hne]; simp [h0]
    have HZ := Lib.hid h0
    clear hne h0
    go_wp2_with fail
    refine (HC2.out _ HB2.out.1).mono ?_
    rintro e V2 ⟨rfl, rfl⟩
    go_wp2
    go_ret
    exact ⟨by rw [HR.out, if_pos HZ.out]; rfl, HB2.out⟩
  · have hz : (r != 0) = true := by rw [hne]; simp [h0]
    have HZ := Lib.hid h0
    clear hne h0
    go_wp2
    go_ret
    exact ⟨by rw [HR.out, if_neg HZ.out]; rfl, HB2.out⟩
end Go.Proofs.Ytbffjhdocicfoaa
namespace Go.Proofs.Ytbffjhdocicfoaa
open Go.RowKit
set_option linter.unusedVariables false
set_option linter.unusedSimpArgs false
open OtM

theorem asend_any (a b : Value) (h1 : ∃ A n c, a = .slice A n c) (h2 : ∃ A n c, b = .slice A n c) (w : World) :
    Calls Try.prog 92 #[.agg #[a, b]] w fun e w' => e = .returned (.iface 167 (.agg #[a, b])) ∧ Bg w w' := by
  obtain ⟨A1, n1, c1, rfl⟩ := h1
  obtain ⟨A2, n2, c2, rfl⟩ := h2
  have hb := Lib.hid (Bg.al w (.cells #[.slice A1 n1 c1, .slice A2 n2 c2] 33))
  have hx := box2 (w := w) (.slice A1 n1 c1) (.slice A2 n2 c2) 33
  obtain ⟨x0, x1⟩ := hx
  go_enter Try.func92, Try.ntmps92
  go_wp2
  go_ret
  exact ⟨rfl, hb.out⟩
theorem keep4 {w W W' : World} {g k : Nat} {a b c d : Value} (h : W.cell? ⟨g, 0, none⟩ = some a ∧ W.cell? ⟨g, 1, none⟩ = some b ∧ W.cell? ⟨k, 0, none⟩ = some c ∧ W.cell? ⟨k, 1, none⟩ = some d ∧ Bg w W) (hb : Bg W W') :
    W'.cell? ⟨g, 0, none⟩ = some a ∧ W'.cell? ⟨g, 1, none⟩ = some b ∧ W'.cell? ⟨k, 0, none⟩ = some c ∧ W'.cell? ⟨k, 1, none⟩ = some d ∧ Bg w W' :=
  ⟨kc hb.1 h.1, kc hb.1 h.2.1, kc hb.1 h.2.2.1, kc hb.1 h.2.2.2.1, h.2.2.2.2.trans hb⟩
theorem bg4 {w W : World} {g k : Nat} {a b c d : Value} (h : W.cell? ⟨g, 0, none⟩ = some a ∧ W.cell? ⟨g, 1, none⟩ = some b ∧ W.cell? ⟨k, 0, none⟩ = some c ∧ W.cell? ⟨k, 1, none⟩ = some d ∧ Bg w W) : Bg w W := h.2.2.2.2
theorem IntR.sl {B : Nat} {w : World} {v : Value} {l : List Int} (h : IntR B w v l) : ∃ A n c, v = .slice A n c := by obtain ⟨A, c, rfl, _⟩ := h; exact ⟨_, _, _, rfl⟩
set_option maxHeartbeats 4000000 in
set_option maxRecDepth 100000 in
theorem order_any {B : Nat} {v u : Value} {a b : Ot} (w : World) (hv : OutR B w v a) (hu : OutR B w u b) (hBB : B ≤ w.heap.size) :
    Calls Try.prog 73 #[v, u] w fun e w' => e = .returned (.int .i64 (cmpO a b)) ∧ Bg w w' := by
  have HC := Lib.hid (fun W (hW : Bg w W) => against_any W (hv.below (hW.1.mono hBB)) (hu.below (hW.1.mono hBB)) (Nat.le_trans hBB hW.1.size))
  obtain ⟨vm, vr, rfl, h1, h2⟩ := hv
  obtain ⟨um, ur, rfl, g1, g2⟩ := hu
  have HA := Lib.hid (fun W => asend_any vm vr h1.sl h2.sl W)
  obtain ⟨A1, n1, c1, rfl⟩ := h1.sl
  obtain ⟨A2, n2, c2, rfl⟩ := h2.sl
  obtain ⟨D1, n3, e1, rfl⟩ := g1.sl
  obtain ⟨D2, n4, e2, rfl⟩ := g2.sl
  clear h1 h2 g1 g2
  obtain ⟨r, hr⟩ : ∃ r, r = cmpO a b := ⟨_, rfl⟩
  rw [← hr] at HC ⊢
  clear hr
  obtain ⟨W2, hW2⟩ : ∃ W, W = (w.alloc (.cells #[.slice A1 n1 c1, .slice A2 n2 c2] 33)).alloc (.cells #[.slice D1 n3 e1, .slice D2 n4 e2] 33) := ⟨_, rfl⟩
  obtain ⟨ga, hga⟩ : ∃ g, g = w.heap.size := ⟨_, rfl⟩
  obtain ⟨gb, hgb⟩ : ∃ g, g = w.heap.size + 1 := ⟨_, rfl⟩
  have HX := Lib.hid (show BoxC W2 ga 33 #[.slice A1 n1 c1, .slice A2 n2 c2] from by rw [hW2, hga]; exact (BoxC.new w _ _).alloc _)
  have HY := Lib.hid (show BoxC W2 gb 33 #[.slice D1 n3 e1, .slice D2 n4 e2] from by rw [hW2, hgb]; have := BoxC.new (w.alloc (.cells #[.slice A1 n1 c1, .slice A2 n2 c2] 33)) 33 #[.slice D1 n3 e1, .slice D2 n4 e2]; rw [World.size_alloc] at this; exact this)
  have HB2 := Lib.hid (show Bg w W2 from by rw [hW2]; exact (Bg.al _ _).trans (Bg.al _ _))
  have meth : ∀ W, (method 291 167 (.agg #[.slice A1 n1 c1, .slice A2 n2 c2]) "fencepost/outs.against").run Try.prog W = .ok (124, .agg #[.slice A1 n1 c1, .slice A2 n2 c2]) W := fun W => by kernel_rfl
  go_enter Try.func73, Try.ntmps73
  go_upto_region 1 with fail
  rw [← hW2]
  (try rw [← hgb])
  (try rw [← hga])
  clear hW2 hga hgb
  have x0 := HX.out.cell 0 (.slice A1 n1 c1) rfl
  have x1 := HX.out.cell 1 (.slice A2 n2 c2) rfl
  have y0 := HY.out.cell 0 (.slice D1 n3 e1) rfl
  have y1 := HY.out.cell 1 (.slice D2 n4 e2) rfl
  have hS : W2.cell? ⟨ga, 0, none⟩ = some (.slice A1 n1 c1) ∧ W2.cell? ⟨ga, 1, none⟩ = some (.slice A2 n2 c2) ∧ W2.cell? ⟨gb, 0, none⟩ = some (.slice D1 n3 e1) ∧ W2.cell? ⟨gb, 1, none⟩ = some (.slice D2 n4 e2) ∧ Bg w W2 := ⟨x0, x1, y0, y1, HB2.out⟩
  clear x0 x1 y0 y1
  go_region_held3 (fun w' => w'.cell? ⟨ga, 0, none⟩ = some (.slice A1 n1 c1) ∧ w'.cell? ⟨ga, 1, none⟩ = some (.slice A2 n2 c2) ∧ w'.cell? ⟨gb, 0, none⟩ = some (.slice D1 n3 e1) ∧ w'.cell? ⟨gb, 1, none⟩ = some (.slice D2 n4 e2) ∧ Bg w w') (first | (exact keep4 (by assumption) (by assumption)) | (exact keep4 (by assumption) (Bg.dn _ 1)))
    (first | (go_at_call 92; refine (HA.out _).mono ?_; rintro e w' ⟨rfl, hb2⟩) | (go_at_call 124; refine (HC.out _ (bg4 (by assumption))).mono ?_; rintro e w' ⟨rfl, hb2⟩))
  all_goals
    rename_i hHeld
    go_wp2
    go_ret
    exact ⟨rfl, bg4 hHeld⟩
set_option maxHeartbeats 4000000 in
set_option maxRecDepth 100000 in
/-- What a function of two ends says that asks order. -/
theorem oless_any {B : Nat} {v u : Value} {a b : Ot} (w : World) (hv : OutR B w v a) (hu : OutR B w u b) (hBB : B ≤ w.heap.size) :
    Calls Try.prog 54 #[v, u] w fun e w' => e = .returned (.bool (decide (Lt a b))) ∧ Bg w w' := by
  have HC := Lib.hid (fun W (hW : Bg w W) => order_any W (hv.below (hW.1.mono hBB)) (hu.below (hW.1.mono hBB)) (Nat.le_trans hBB hW.1.size))
  obtain ⟨vm, vr, rfl, h1, h2⟩ := hv
  obtain ⟨um, ur, rfl, g1, g2⟩ := hu
  obtain ⟨A1, n1, c1, rfl⟩ := h1.sl
  obtain ⟨A2, n2, c2, rfl⟩ := h2.sl
  obtain ⟨D1, n3, e1, rfl⟩ := g1.sl
  obtain ⟨D2, n4, e2, rfl⟩ := g2.sl
  clear h1 h2 g1 g2
  have HZ := Lib.hid (show decide (cmpO a b < 0) = decide (Lt a b) from by rw [decide_eq_decide]; exact Iff.rfl)
  obtain ⟨r, hr⟩ : ∃ r, r = cmpO a b := ⟨_, rfl⟩
  rw [← hr] at HC HZ
  clear hr
  obtain ⟨W2, hW2⟩ : ∃ W, W = (w.alloc (.cells #[.slice A1 n1 c1, .slice A2 n2 c2] 33)).alloc (.cells #[.slice D1 n3 e1, .slice D2 n4 e2] 33) := ⟨_, rfl⟩
  obtain ⟨ga, hga⟩ : ∃ g, g = w.heap.size := ⟨_, rfl⟩
  obtain ⟨gb, hgb⟩ : ∃ g, g = w.heap.size + 1 := ⟨_, rfl⟩
  have HX := Lib.hid (show BoxC W2 ga 33 #[.slice A1 n1 c1, .slice A2 n2 c2] from by rw [hW2, hga]; exact (BoxC.new w _ _).alloc _)
  have HY := Lib.hid (show BoxC W2 gb 33 #[.slice D1 n3 e1, .slice D2 n4 e2] from by rw [hW2, hgb]; have := BoxC.new (w.alloc (.cells #[.slice A1 n1 c1, .slice A2 n2 c2] 33)) 33 #[.slice D1 n3 e1, .slice D2 n4 e2]; rw [World.size_alloc] at this; exact this)
  have HB2 := Lib.hid (show Bg w W2 from by rw [hW2]; exact (Bg.al _ _).trans (Bg.al _ _))
  go_enter Try.func54, Try.ntmps54
  go_upto_region 1 with fail
  rw [← hW2]
  (try rw [← hgb])
  (try rw [← hga])
  clear hW2 hga hgb
  have x0 := HX.out.cell 0 (.slice A1 n1 c1) rfl
  have x1 := HX.out.cell 1 (.slice A2 n2 c2) rfl
  have y0 := HY.out.cell 0 (.slice D1 n3 e1) rfl
  have y1 := HY.out.cell 1 (.slice D2 n4 e2) rfl
  go_wp2_with fail
  refine (HC.out _ HB2.out).mono ?_
  rintro e w' ⟨rfl, hb⟩
  go_wp2
  go_ret
  exact ⟨by rw [← HZ.out]; rfl, HB2.out.trans hb⟩
end Go.Proofs.Ytbffjhdocicfoaa
namespace Go.Proofs.Ytbffjhdocicfoaa
open Go.RowKit
set_option linter.unusedVariables false
set_option linter.unusedSimpArgs false
open OtM EyM

def evC (x : EV) : List Value := [x.m, x.r, .int .i64 (x.i : Int)]
theorem evC_len (x : EV) : (evC x).length = 3 := rfl
abbrev evV (x : EV) : Value := .agg #[x.m, x.r, .int .i64 (x.i : Int)]
def EvOk (B : Nat) (w : World) (x : EV) : Prop := IntR B w x.m x.o.1 ∧ IntR B w x.r x.o.2
theorem EvOk.below {B : Nat} {w w' : World} {x : EV} (h : EvOk B w x) (hb : Below B w w') : EvOk B w' x := ⟨h.1.below hb, h.2.below hb⟩
theorem EvOk.out {B : Nat} {w : World} {x : EV} (h : EvOk B w x) : OutR B w (.agg #[x.m, x.r]) x.o := ⟨_, _, rfl, h.1, h.2⟩
theorem info_ev : (Try.prog.info? 85).map (fun i => (i.zero, i.size, i.bytes)) = some (some (.agg #[.slice none 0 0, .slice none 0 0, .int .i64 0]), 3, 56) := by kernel_rfl
/-- How two of them are held against one another. -/
def cmpE (x y : EV) : Int := if Lt x.o y.o then -1 else if Lt y.o x.o then 1 else 0
theorem cmpE_neg (x y : EV) : decide (cmpE x y < 0) = decide (Lt x.o y.o) := by
  unfold cmpE
  by_cases h : Lt x.o y.o
  · simp [h]
  · by_cases g : Lt y.o x.o <;> simp [h, g]
theorem cmpE_zero (x y : EV) : decide (cmpE x y = 0) = decide (x.o = y.o) := by
  unfold cmpE
  rcases tri x.o y.o with h | h | h
  · simp [h, h.ne]
  · simp [h, Lt.irrefl]
  · have := h.ne; simp [h, h.asymm, Ne.symm this]
set_option maxHeartbeats 4000000 in
set_option maxRecDepth 100000 in
theorem eorder_any {B : Nat} {x y : EV} (w : World) (hx : EvOk B w x) (hy : EvOk B w y) (hBB : B ≤ w.heap.size) :
    Calls Try.prog 41 #[evV x, evV y] w fun e w' => e = .returned (.int .i64 (cmpE x y)) ∧ Bg w w' := by
  have HC := Lib.hid (fun W (hW : Bg w W) => oless_any W (hx.below (hW.1.mono hBB)).out (hy.below (hW.1.mono hBB)).out (Nat.le_trans hBB hW.1.size))
  have HD := Lib.hid (fun W (hW : Bg w W) => oless_any W (hy.below (hW.1.mono hBB)).out (hx.below (hW.1.mono hBB)).out (Nat.le_trans hBB hW.1.size))
  obtain ⟨A1, n1, c1, h1⟩ := hx.1.sl
  obtain ⟨A2, n2, c2, h2⟩ := hx.2.sl
  obtain ⟨D1, n3, e1, h3⟩ := hy.1.sl
  obtain ⟨D2, n4, e2, h4⟩ := hy.2.sl
  obtain ⟨r, hr⟩ : ∃ r, r = cmpE x y := ⟨_, rfl⟩
  obtain ⟨a, ha⟩ : ∃ a, a = decide (Lt x.o y.o) := ⟨_, rfl⟩
  obtain ⟨b, hb⟩ : ∃ a, a = decide (Lt y.o x.o) := ⟨_, rfl⟩
  have HR := Lib.hid (show r = if a then -1 else if b then 1 else 0 from by rw [hr, ha, hb]; unfold cmpE; simp)
  rw [← ha] at HC
  rw [← hb] at HD
  rw [← hr]
  clear hr ha hb hx hy
  obtain ⟨xm, xr, xo, xi⟩ := x
  obtain ⟨ym, yr, yo, yi⟩ := y
  dsimp only at h1 h2 h3 h4 HC HD
  subst h1 h2 h3 h4
  obtain ⟨W2, hW2⟩ : ∃ W, W = (w.alloc (.cells #[.slice A1 n1 c1, .slice A2 n2 c2, .int .i64 (xi : Int)] 85)).alloc (.cells #[.slice D1 n3 e1, .slice D2 n4 e2, .int .i64 (yi : Int)] 85) := ⟨_, rfl⟩
  obtain ⟨ga, hga⟩ : ∃ g, g = w.heap.size := ⟨_, rfl⟩
  obtain ⟨gb, hgb⟩ : ∃ g, g = w.heap.size + 1 := ⟨_, rfl⟩
  have HX := Lib.hid (show BoxC W2 ga 85 #[.slice A1 n1 c1, .slice A2 n2 c2, .int .i64 (xi : Int)] from by rw [hW2, hga]; exact (BoxC.new w _ _).alloc _)
  have HY := Lib.hid (show BoxC W2 gb 85 #[.slice D1 n3 e1, .slice D2 n4 e2, .int .i64 (yi : Int)] from by rw [hW2, hgb]; have := BoxC.new (w.alloc (.cells #[.slice A1 n1 c1, .slice A2 n2 c2, .int .i64 (xi : Int)] 85)) 85 #[.slice D1 n3 e1, .slice D2 n4 e2, .int .i64 (yi : Int)]; rw [World.size_alloc] at this; exact this)
  have HB2 := Lib.hid (show Bg w W2 from by rw [hW2]; exact (Bg.al _ _).trans (Bg.al _ _))
  go_enter Try.func41, Try.ntmps41
  go_upto_region 1 with fail
  rw [← hW2]
  (try rw [← hgb])
  (try rw [← hga])
  clear hW2 hga hgb
  have x0 := HX.out.cell 0 (.slice A1 n1 c1) rfl
  have x1 := HX.out.cell 1 (.slice A2 n2 c2) rfl
  have y0 := HY.out.cell 0 (.slice D1 n3 e1) rfl
  have y1 := HY.out.cell 1 (.slice D2 n4 e2) rfl
  go_wp2_with fail
  refine (HC.out _ HB2.out).mono ?_
  rintro e W3 ⟨rfl, hb3⟩
  have HB3 := Lib.hid (HB2.out.trans hb3)
  have HX3 := Lib.hid (HX.out.below hb3.1 HX.out.lt)
  have HY3 := Lib.hid (HY.out.below hb3.1 HY.out.lt)
  clear x0 x1 y0 y1 hb3
  cases a
  · have x0 := HX3.out.cell 0 (.slice A1 n1 c1) rfl
    have x1 := HX3.out.cell 1 (.slice A2 n2 c2) rfl
    have y0 := HY3.out.cell 0 (.slice D1 n3 e1) rfl
    have y1 := HY3.out.cell 1 (.slice D2 n4 e2) rfl
    go_wp2_with fail
    refine (HD.out _ HB3.out).mono ?_
    rintro e W4 ⟨rfl, hb4⟩
    have HB4 := Lib.hid (HB3.out.trans hb4)
    clear x0 x1 y0 y1 hb4
    cases b
    · go_wp2
      go_ret
      exact ⟨by rw [HR.out]; rfl, HB4.out⟩
    · go_wp2
      go_ret
      exact ⟨by rw [HR.out]; rfl, HB4.out⟩
  · go_wp2
    go_ret
    exact ⟨by rw [HR.out]; rfl, HB3.out⟩
/-! A row of them, of the call's own. -/
theorem ev_at {b g n cap : Nat} {zs : List EV} {W : World} (h : W.ownsRow b 85 3 (.slice (some ⟨g, 0, none⟩) n cap) n (zs.flatMap evC)) (hz : zs.length = n) {q : Nat} (hq : q < zs.length) :
    W.cell? ⟨g, q * 3, none⟩ = some zs[q].m ∧ W.cell? ⟨g, q * 3 + 1, none⟩ = some zs[q].r ∧ W.cell? ⟨g, q * 3 + 2, none⟩ = some (.int .i64 (zs[q].i : Int)) :=
  ⟨(h.cellAt _ (by omega)).trans ((fl_at evC_len zs q 0 hq (by omega)).trans rfl), (h.cellAt _ (by omega)).trans ((fl_at evC_len zs q 1 hq (by omega)).trans rfl), (h.cellAt _ (by omega)).trans ((fl_at evC_len zs q 2 hq (by omega)).trans rfl)⟩
theorem own_setCells' {base e size g n cap : Nat} : ∀ (vs a b : List Value) (w : World), w.ownsRow base e size (.slice (some ⟨g, 0, none⟩) n cap) n (a ++ b) → vs.length ≤ b.length →
    (w.setCells g a.length vs).ownsRow base e size (.slice (some ⟨g, 0, none⟩) n cap) n (a ++ (vs ++ b.drop vs.length))
  | [], a, b, w, h, _ => by simpa [World.setCells] using h
  | v :: r, a, [], w, h, hl => absurd hl (by simp)
  | v :: r, a, x :: b, w, h, hl => by
    have h1 := (h.stored a.length v).1
    rw [List.set_append_right _ _ (Nat.le_refl _), Nat.sub_self, List.set_cons_zero, show a ++ v :: b = (a ++ [v]) ++ b from by simp] at h1
    have h2 := own_setCells' r (a ++ [v]) b _ h1 (by simpa using hl)
    rw [World.setCells]
    rw [List.length_append, List.length_singleton] at h2
    simpa using h2
theorem ev_set {b g n cap : Nat} {zs : List EV} {W : World} (h : W.ownsRow b 85 3 (.slice (some ⟨g, 0, none⟩) n cap) n (zs.flatMap evC)) (hz : zs.length = n) {q : Nat} (hq : q < zs.length) (x : EV) :
    (((W.setCell ⟨g, q * 3, none⟩ x.m).setCell ⟨g, q * 3 + 1, none⟩ x.r).setCell ⟨g, q * 3 + 2, none⟩ (.int .i64 (x.i : Int))).ownsRow b 85 3 (.slice (some ⟨g, 0, none⟩) n cap) n ((zs.set q x).flatMap evC) := by
  have e : zs.flatMap evC = (zs.take q).flatMap evC ++ (zs.drop q).flatMap evC := by rw [← List.flatMap_append, List.take_append_drop]
  have el : ((zs.take q).flatMap evC).length = q * 3 := by rw [fl_len evC_len, List.length_take]; omega
  have el2 : ((zs.drop q).flatMap evC).length = (n - q) * 3 := by rw [fl_len evC_len, List.length_drop, hz]
  have ed : (zs.drop q).flatMap evC = evC zs[q] ++ (zs.drop (q + 1)).flatMap evC := by rw [List.drop_eq_getElem_cons hq]; rfl
  rw [e] at h
  have h3 := own_setCells' (evC x) _ _ W h (by rw [el2]; show 3 ≤ _; omega)
  rw [el, ed, List.drop_left' (by rw [evC_len, evC_len])] at h3
  have e4 : (zs.set q x).flatMap evC = (zs.take q).flatMap evC ++ (evC x ++ (zs.drop (q + 1)).flatMap evC) := by
    rw [List.set_eq_take_append_cons_drop, if_pos hq, List.flatMap_append, List.flatMap_cons]
  rw [e4]; exact h3
theorem gb_set3 {g : Nat} (W : World) (i j k : Nat) (a b c : Value) : W.grownBy (((W.setCell ⟨g, i, none⟩ a).setCell ⟨g, j, none⟩ b).setCell ⟨g, k, none⟩ c) (some g) :=
  ⟨rfl, rfl, rfl, by simp, fun q hq hne => by
    have : q ≠ g := fun e => hne (by rw [e])
    rw [heap_setCell_other _ ⟨g, k, none⟩ q c this, heap_setCell_other _ ⟨g, j, none⟩ q b this, heap_setCell_other _ ⟨g, i, none⟩ q a this]⟩
theorem own_frozen {base e size g n cap : Nat} {w : World} {xs : List Value} (h : w.ownsRow base e size (.slice (some ⟨g, 0, none⟩) n cap) n xs) (j : Nat) : w.frozen? ⟨g, j, none⟩ = false := by
  rcases h.2 with ⟨h', _⟩ | ⟨g', cap', cur, h', hb, hg, _⟩
  · simp at h'
  · simp only [Value.slice.injEq, Option.some.injEq, Addr.mk.injEq, and_true, true_and] at h'
    obtain ⟨rfl, rfl⟩ := h'
    simp [World.frozen?, hg]
theorem own_some {base e size g n cap : Nat} {w : World} {xs : List Value} (h : w.ownsRow base e size (.slice (some ⟨g, 0, none⟩) n cap) n xs) (j : Nat) (hj : j < n * size) : (w.cell? ⟨g, j, none⟩).isSome = true := by
  rw [h.cellAt j hj, List.getElem?_eq_getElem (by rw [h.1]; exact hj)]; rfl
theorem gb_of {w w' : World} (hb : Below w.heap.size w w') (r : Option Nat) : w.grownBy w' r := ⟨hb.os, hb.tape, hb.output, hb.size, fun k hk _ => hb.block k hk⟩
theorem gb_trans {a b c : World} {r : Option Nat} (h : a.grownBy b r) (k : b.grownBy c r) : a.grownBy c r :=
  ⟨k.os.trans h.os, k.tape.trans h.tape, k.output.trans h.output, Nat.le_trans h.size k.size, fun i hi hne => (k.block i (Nat.lt_of_lt_of_le hi h.size) hne).trans (h.block i hi hne)⟩
/-- Two rows of numbers of the call's own: they stay where a row of ends is written. -/
def EvI (b : Nat) (w : World) (x : EV) : Prop := OwnI b w x.m x.o.1 ∧ OwnI b w x.r x.o.2
theorem EvI.ok {b : Nat} {w : World} {x : EV} (h : EvI b w x) : EvOk w.heap.size w x := ⟨Rw.own h.1 (Nat.le_refl _), Rw.own h.2 (Nat.le_refl _)⟩
theorem EvI.grow {b : Nat} {w w' : World} {x : EV} (h : EvI b w x) (hb : Below w.heap.size w w') : EvI b w' x := ⟨own_below h.1 hb, own_below h.2 hb⟩
theorem EvI.kept {b b2 g n cap m : Nat} {w w' : World} {x : EV} {xs : List Value} (h : EvI b w x) (ho : w.ownsRow b2 85 3 (.slice (some ⟨g, 0, none⟩) n cap) m xs) (hg : w.grownBy w' (some g)) : EvI b w' x :=
  ⟨own_grown (by decide) h.1 ho hg, own_grown (by decide) h.2 ho hg⟩
/-- A row that is being sorted. -/
structure SR (B b g n cap : Nat) (w : World) (zs : List EV) (W : World) : Prop where
  len : zs.length = n
  own : W.ownsRow b 85 3 (.slice (some ⟨g, 0, none⟩) n cap) n (zs.flatMap evC)
  kept : w.grownBy W (some g)
  ok : ∀ z ∈ zs, EvI B W z
theorem SR.size {B b g n cap : Nat} {w : World} {zs : List EV} {W : World} (h : SR B b g n cap w zs W) : W.heap.size ≤ W.heap.size := Nat.le_refl _
theorem SR.ev {B b g n cap : Nat} {w : World} {zs : List EV} {W : World} (h : SR B b g n cap w zs W) {q : Nat} (hq : q < zs.length) : EvOk W.heap.size W zs[q] := (h.ok _ (List.getElem_mem hq)).ok
theorem SR.at {B b g n cap : Nat} {w : World} {zs : List EV} {W : World} (h : SR B b g n cap w zs W) {q : Nat} (hq : q < zs.length) : W.cell? ⟨g, q * 3, none⟩ = some zs[q].m ∧ W.cell? ⟨g, q * 3 + 1, none⟩ = some zs[q].r ∧ W.cell? ⟨g, q * 3 + 2, none⟩ = some (.int .i64 (zs[q].i : Int)) := ev_at h.own h.len hq
theorem SR.grown {B b g n cap : Nat} {w : World} {zs : List EV} {W W' : World} (h : SR B b g n cap w zs W) (hb : Below W.heap.size W W') : SR B b g n cap w zs W' :=
  { h with own := own_below h.own hb, kept := gb_trans h.kept (gb_of hb _), ok := fun z hz => (h.ok z hz).grow hb }
theorem SR.set1 {B b g n cap : Nat} {w : World} {zs : List EV} {W : World} (h : SR B b g n cap w zs W) {i j : Nat} (hi : i < zs.length) (hj : j < zs.length) :
    SR B b g n cap w (zs.set i zs[j]) (((W.setCell ⟨g, i * 3, none⟩ zs[j].m).setCell ⟨g, i * 3 + 1, none⟩ zs[j].r).setCell ⟨g, i * 3 + 2, none⟩ (.int .i64 (zs[j].i : Int))) where
  len := by rw [List.length_set, h.len]
  own := ev_set h.own h.len hi zs[j]
  kept := gb_trans h.kept (gb_set3 _ _ _ _ _ _ _)
  ok := fun z hz => by
    rcases List.mem_or_eq_of_mem_set hz with hz | hz
    · exact (h.ok z hz).kept h.own (gb_set3 _ _ _ _ _ _ _)
    · rw [hz]; exact (h.ok _ (List.getElem_mem hj)).kept h.own (gb_set3 _ _ _ _ _ _ _)
theorem SR.swap {B b g n cap : Nat} {w : World} {zs : List EV} {W : World} (h : SR B b g n cap w zs W) {i j : Nat} (hi : i < zs.length) (hj : j < zs.length) :
    SR B b g n cap w (swap1 zs i j) ((((((W.setCell ⟨g, i * 3, none⟩ zs[j].m).setCell ⟨g, i * 3 + 1, none⟩ zs[j].r).setCell ⟨g, i * 3 + 2, none⟩ (.int .i64 (zs[j].i : Int))).setCell ⟨g, j * 3, none⟩ zs[i].m).setCell ⟨g, j * 3 + 1, none⟩ zs[i].r).setCell ⟨g, j * 3 + 2, none⟩ (.int .i64 (zs[i].i : Int))) := by
  have h1 := h.set1 hi hj
  have ho := ev_set h1.own (by rw [List.length_set, h.len]) (q := j) (by rw [List.length_set]; exact hj) zs[i]
  refine ⟨by rw [swap1_len, h.len], by rw [swap1_at hi hj]; exact ho, gb_trans h1.kept (gb_set3 _ _ _ _ _ _ _), fun z hz => ?_⟩
  exact ((h.ok z (swap1_mem hz)).kept h.own (gb_set3 _ _ _ _ _ _ _)).kept h1.own (gb_set3 _ _ _ _ _ _ _)
/-- Three cells that are there, and may be written. -/
def There (W : World) (g q : Nat) : Prop := ∃ a b c, W.cell? ⟨g, q * 3, none⟩ = some a ∧ W.cell? ⟨g, q * 3 + 1, none⟩ = some b ∧ W.cell? ⟨g, q * 3 + 2, none⟩ = some c ∧ W.frozen? ⟨g, q * 3, none⟩ = false ∧ W.frozen? ⟨g, q * 3 + 1, none⟩ = false ∧ W.frozen? ⟨g, q * 3 + 2, none⟩ = false
theorem SR.there {B b g n cap : Nat} {w : World} {zs : List EV} {W : World} (h : SR B b g n cap w zs W) {q : Nat} (hq : q < n) : There W g q := by
  obtain ⟨a, b, c⟩ := h.at (q := q) (by rw [h.len]; exact hq)
  exact ⟨_, _, _, a, b, c, own_frozen h.own _, own_frozen h.own _, own_frozen h.own _⟩
/-- What such a call hands back: nothing; the row is now ys. -/
abbrev SRet (B b g n cap : Nat) (w : World) (ys : List EV) (e : Ending) (w' : World) : Prop := e = .returned (.tuple #[]) ∧ SR B b g n cap w ys w'
end Go.Proofs.Ytbffjhdocicfoaa
namespace Go.Proofs.Ytbffjhdocicfoaa
open Go.RowKit
set_option linter.unusedVariables false
set_option linter.unusedSimpArgs false
open CodM (St Pg rightP)
open BfM (Wr plc)
open ScM

set_option maxHeartbeats 4000000 in
set_option maxRecDepth 100000 in
theorem over1_any {B len c : Nat} {A : Option Addr} {vr vb : Value} (t : Th) (w : World) (hr : IntR B w vr t.regs) (hb : WrR B w vb t.buf) (hBB : B ≤ w.heap.size) (hl : len ≤ 1000000) :
    Calls Try.prog 70 #[.slice A len c, thV t vr vb] w fun e w' => e = .returned (.bool (decide (t.at' = (len : Int)) && t.buf.isEmpty)) ∧ Below w.heap.size w w' := by
  obtain ⟨xa, xr, xe, xb⟩ := t
  dsimp only at hr hb ⊢
  obtain ⟨Ar, cr, rfl, -⟩ := hr
  obtain ⟨Ab, cb, rfl, -, hmx, -⟩ := hb
  unfold thV
  dsimp only
  have hB := below_al (Below.refl w.heap.size w) (.cells #[.int .i64 xa, .slice Ar xr.length cr, .bool xe, .slice Ab xb.length cb] 94)
  have HQ := Lib.hid (BoxC.new w 94 #[.int .i64 xa, .slice Ar xr.length cr, .bool xe, .slice Ab xb.length cb])
  have x0 := HQ.out.cell 0 _ rfl
  have x3 := HQ.out.cell 3 _ rfl
  obtain ⟨m, hm⟩ : ∃ m, m = xb.length := ⟨_, rfl⟩
  have HE := Lib.hid (show xb.isEmpty = decide (m = 0) from by rw [hm]; cases xb <;> simp)
  rw [HE.out]
  rw [← hm] at x3 hB ⊢
  clear hm HQ HE
  by_cases h0 : xa = (len : Int)
  case neg =>
    have hd : decide (xa = (len : Int)) = false := decide_eq_false h0
    have hq : (xa == (len : Int)) = false := by rw [beq_eq_false_iff_ne]; exact h0
    rw [hd]
    go_enter Try.func70, Try.ntmps70
    go_wp2
    go_ret
    exact ⟨rfl, hB⟩
  have hd : decide (xa = (len : Int)) = true := decide_eq_true h0
  have hq : (xa == (len : Int)) = true := by rw [beq_iff_eq]; exact h0
  rw [hd]
  have HH := Lib.hid h0
  clear h0
  by_cases h1 : m = 0
  · have hz : decide (m = 0) = true := decide_eq_true h1
    have hz2 : ((m : Int) == 0) = true := by rw [beq_iff_eq]; omega
    rw [hz]
    clear h1
    go_enter Try.func70, Try.ntmps70
    go_wp2
    go_ret
    exact ⟨rfl, hB⟩
  · have hz : decide (m = 0) = false := decide_eq_false h1
    have hz2 : ((m : Int) == 0) = false := by rw [beq_eq_false_iff_ne]; omega
    rw [hz]
    clear h1
    go_enter Try.func70, Try.ntmps70
    go_wp2
    go_ret
    exact ⟨rfl, hB⟩
/-- What EqualFunc asks of the threads. -/
def AllOv (tss : List (List St)) (ts : List Th) : Prop := tss.length = ts.length ∧ ∀ j (h1 : j < tss.length) (h2 : j < ts.length), (decide (ts[j].at' = (tss[j].length : Int)) && ts[j].buf.isEmpty) = true
def OvRel (tss : List (List St)) (ts : List Th) (w : World) (i : Value) (wr : World) : Prop := ∃ k : Nat, k ≤ tss.length ∧ i = .int .i64 k ∧ (∀ j (h1 : j < tss.length) (h2 : j < ts.length), j < k → (decide (ts[j].at' = (tss[j].length : Int)) && ts[j].buf.isEmpty) = true) ∧ Below w.heap.size w wr
set_option maxHeartbeats 4000000 in
set_option maxRecDepth 100000 in
theorem eqo_any {B : Nat} {v u : Value} {tss : List (List St)} {ts : List Th} (w : World) (hv : Sss B w v tss) (hu : ThR B w u ts) (hBB : B ≤ w.heap.size) (hl : tss.length ≤ 1000000) (hsl : ∀ ss ∈ tss, ss.length ≤ 1000000) :
    Calls Try.prog 69 #[v, u, .func (.func 70) #[] #[]] w (Tells (AllOv tss ts) w) := by
  obtain ⟨A1, c1, rfl, h1, h2, h3⟩ := hv
  obtain ⟨A2, c2, rfl, k1, k2, -, k3⟩ := hu
  unfold maxLen at h2 k2
  by_cases hlen : tss.length = ts.length
  case neg =>
    have HN := Lib.hid (show ¬ AllOv tss ts from fun h => hlen h.1)
    have hq : ((tss.length : Int) != (ts.length : Int)) = true := by rw [bne_iff_ne]; omega
    clear hlen h3 k3
    go_enter Try.func69, Try.ntmps69
    go_wp2
    go_ret
    exact tells_no HN.out (Below.refl _ _)
  have hq : ((tss.length : Int) != (ts.length : Int)) = false := by rw [bne_eq_false_iff_eq]; omega
  have HLEN := Lib.hid hlen
  clear hlen
  go_enter Try.func69, Try.ntmps69
  go_wp2
  clear hq
  go_loopw [17] (fun i wr => OvRel tss ts w i wr) (fun i _ => tss.length - (intOf i).toNat)
  case atStart => exact ⟨0, Nat.zero_le _, rfl, fun j _ _ h => absurd h (Nat.not_lt_zero j), Below.refl _ _⟩
  case round =>
    obtain ⟨k, hk, rfl, hall, hB⟩ := hrel
    have HA := Lib.hid hall
    clear hall
    by_cases hlt : k < tss.length
    · have hlt2 : k < ts.length := by rw [← HLEN.out]; exact hlt
      obtain ⟨b1, f1, rfl, hb1, hcl⟩ := h3 (by omega)
      obtain ⟨b2, f2, rfl, hb2, hcm⟩ := k3 (by omega)
      obtain ⟨uu, z0, hS⟩ := (hcl k hlt).below (hB.mono hBB) hb1
      obtain ⟨vr, vb, y0, y1, y2, y3, hR, hW⟩ := (hcm k hlt2).below (hB.mono hBB) hb2
      have hs3 := hsl _ (List.getElem_mem hlt)
      have HNO := Lib.hid (fun (h : ¬ (decide (ts[k].at' = (tss[k].length : Int)) && ts[k].buf.isEmpty) = true) => show ¬ AllOv tss ts from fun h' => h (h'.2 k hlt hlt2))
      have HY := Lib.hid (fun (h : (decide (ts[k].at' = (tss[k].length : Int)) && ts[k].buf.isEmpty) = true) (j : Nat) (h1 : j < tss.length) (h2 : j < ts.length) (hjk : j < k + 1) => show (decide (ts[j].at' = (tss[j].length : Int)) && ts[j].buf.isEmpty) = true by
        by_cases e : j = k
        · subst e; exact h
        · exact HA.out j h1 h2 (by omega))
      obtain ⟨A3, c3, rfl, -⟩ := hS
      have HC := Lib.hid (fun W (hW0 : Below wr.heap.size wr W) => over1_any (len := tss[k].length) (A := A3) (c := c3) ts[k] W (hR.below (hW0.mono (Nat.le_trans hBB hB.size))) (hW.below (hW0.mono (Nat.le_trans hBB hB.size))) (Nat.le_trans hBB (chain hB hW0).size) hs3)
      unfold thV at HC
      obtain ⟨A4, c4, rfl, -⟩ := hR
      obtain ⟨A5, c5, rfl, -⟩ := hW
      generalize (decide (ts[k].at' = (tss[k].length : Int)) && ts[k].buf.isEmpty) = q at *
      generalize tss[k] = ss at *
      generalize ts[k] = x at *
      clear hcl hcm h3 k3 HA hs3
      go_wp2_with fail
      have hB3 := below_al (Below.refl wr.heap.size wr) (.cells #[.int .i64 x.at', .slice A4 x.regs.length c4, .bool x.eq, .slice A5 x.buf.length c5] 94)
      refine (HC.out _ hB3).mono ?_
      rintro e w1 ⟨rfl, hb⟩
      have hB1 := chain (chain hB hB3) hb
      clear hB hb z0 y0 y1 y2 y3 HC hB3
      cases q
      · go_wp2
        go_ret
        exact tells_no (HNO.out (by decide)) hB1
      · go_wp2
        go_roundw
        case rel => exact ⟨k + 1, by omega, by go_num, HY.out (by first | rfl | trivial), hB1⟩
        case measure => simp [intOf]; omega
    · obtain rfl : tss.length = k := by omega
      have HE := Lib.hid (show AllOv tss ts from ⟨HLEN.out, fun j h1 h2 => HA.out j h1 h2 h1⟩)
      clear h3 k3
      go_wp2
      go_ret
      exact tells_yes HE.out hB
theorem allOv_iff {P : Pg} {s : Sta} (ho : OkSt P s) : AllOv P.ths s.ths ↔ overB P s = true := by
  rw [over_iff ho]
  constructor
  · intro h k h1 h2
    have := h.2 k h2 h1
    simp only [Bool.and_eq_true, decide_eq_true_eq, List.isEmpty_iff] at this
    exact this
  · intro h
    refine ⟨ho.ths.symm, fun j h1 h2 => ?_⟩
    have := h j h2 h1
    simp only [Bool.and_eq_true, decide_eq_true_eq, List.isEmpty_iff]
    exact this
set_option maxHeartbeats 4000000 in
set_option maxRecDepth 100000 in
theorem over_any {B : Nat} {v u : Value} {P : Pg} {s : Sta} (w : World) (hv : PgV B w v P) (hu : StaV B w u s) (hBB : B ≤ w.heap.size) (hp : rightP P = true) (ho : OkSt P s) :
    Calls Try.prog 51 #[v, u] w fun e w' => e = .returned (.bool (overB P s)) ∧ Below w.heap.size w w' := by
  have HAL := Lib.hid (allOv_iff ho)
  obtain ⟨-, -, r3, r4⟩ := right_ths hp
  obtain ⟨pi, pt, rfl, hpm⟩ := hv
  obtain ⟨um, ut, rfl, hum⟩ := hu
  have HE := Lib.hid (fun W (hW : Below w.heap.size w W) => eqo_any (tss := P.ths) (ts := s.ths) W (hpm.2.below (hW.mono hBB)) (hum.2.below (hW.mono hBB)) (Nat.le_trans hBB hW.size) (by omega) (fun ss hs => by
    obtain ⟨k, hk, rfl⟩ := List.mem_iff_getElem.1 hs
    have := r4 k hk
    omega))
  clear r3 r4 hp ho
  obtain ⟨⟨P0, d0, rfl, -⟩, ⟨P1, d1, rfl, -⟩⟩ := hpm
  obtain ⟨⟨A7, c7, rfl, -⟩, ⟨A1, c1, rfl, -⟩⟩ := hum
  obtain ⟨W2, hW2⟩ : ∃ W, W = (w.alloc (.cells #[.slice P0 P.init.length d0, .slice P1 P.ths.length d1] 25)).alloc (.cells #[.slice A7 s.mem.length c7, .slice A1 s.ths.length c1] 62) := ⟨_, rfl⟩
  obtain ⟨gp, hgp⟩ : ∃ g, g = w.heap.size := ⟨_, rfl⟩
  obtain ⟨gs, hgs⟩ : ∃ g, g = w.heap.size + 1 := ⟨_, rfl⟩
  have HX := Lib.hid (show BoxC W2 gp 25 #[.slice P0 P.init.length d0, .slice P1 P.ths.length d1] from by rw [hW2, hgp]; exact (BoxC.new w _ _).alloc _)
  have HY := Lib.hid (show BoxC W2 gs 62 #[.slice A7 s.mem.length c7, .slice A1 s.ths.length c1] from by rw [hW2, hgs]; have := BoxC.new (w.alloc (.cells #[.slice P0 P.init.length d0, .slice P1 P.ths.length d1] 25)) 62 #[.slice A7 s.mem.length c7, .slice A1 s.ths.length c1]; rw [World.size_alloc] at this; exact this)
  have HB2 := Lib.hid (show Below w.heap.size w W2 from by rw [hW2]; exact below_al (below_al (Below.refl _ _) _) _)
  go_enter Try.func51, Try.ntmps51
  go_upto_region 1 with fail
  rw [← hW2]
  (try rw [← hgs])
  (try rw [← hgp])
  clear hW2 hgs hgp
  have x1 := HX.out.cell 1 _ rfl
  have y1 := HY.out.cell 1 _ rfl
  go_wp2_with fail
  refine (HE.out _ HB2.out).mono ?_
  rintro e V1 ⟨d, rfl, hd, hb⟩
  have HD := Lib.hid (hd.trans HAL.out)
  clear hd x1 y1
  go_wp2
  go_ret
  refine ⟨?_, chain HB2.out hb⟩
  congr 2
  have := HD.out
  cases d <;> cases h : overB P s <;> simp_all
end Go.Proofs.Ytbffjhdocicfoaa
namespace Go.Proofs.Ytbffjhdocicfoaa
open Go.RowKit
set_option linter.unusedVariables false
set_option linter.unusedSimpArgs false
open CodM (St Pg rightP)
open BfM (Wr plc)
open ScM

def endK (s : Sta) (k : Nat) : List Int := (s.ths.take k).flatMap fun t => t.regs
theorem endK_next {s : Sta} {k : Nat} (hk : k < s.ths.length) : endK s (k + 1) = endK s k ++ s.ths[k].regs := by
  unfold endK
  rw [List.take_succ_eq_append_getElem hk, List.flatMap_append]
  simp
theorem endK_all (s : Sta) : endK s s.ths.length = endR s := by unfold endK endR; rw [List.take_length]
theorem endK_len {s : Sta} (hw : ∀ t ∈ s.ths, t.regs.length ≤ 300) : ∀ k, k ≤ s.ths.length → (endK s k).length ≤ k * 300
  | 0, _ => by simp [endK]
  | k + 1, h => by
    have := endK_len hw k (by omega)
    have h2 := hw _ (List.getElem_mem (show k < s.ths.length by omega))
    rw [endK_next (by omega), List.length_append]
    omega
/-- What hands back an end, of the call's own. -/
def EnRet (s : Sta) (w : World) (e : Ending) (w' : World) : Prop := ∃ A m c B n d, e = .returned (.agg #[.slice A m c, .slice B n d]) ∧ m = s.mem.length ∧ n = (endR s).length ∧ OwnI w.heap.size w' (.slice A m c) s.mem ∧ OwnI w.heap.size w' (.slice B n d) (endR s) ∧ Below w.heap.size w w'
set_option maxHeartbeats 8000000 in
set_option maxRecDepth 100000 in
theorem end_any {B : Nat} {u : Value} {s : Sta} (w : World) (hu : StaV B w u s) (hBB : B ≤ w.heap.size) (hw : WideS s) :
    Calls Try.prog 52 #[u] w (EnRet s w) := by
  have HKL := Lib.hid (endK_len (s := s) (fun t ht => (hw.regs t ht).1))
  have HRG := Lib.hid (fun t ht => (hw.regs t ht).1)
  have hts := hw.ths
  have HSM := Lib.hid hw.mem
  clear hw
  obtain ⟨um, ut, rfl, hum⟩ := hu
  have HCL := Lib.hid (fun W (hW : Below w.heap.size w W) => clonei_any W ((hum.1.below (hW.mono hBB)).more (Nat.le_trans hBB hW.size)) (Nat.le_refl _) (by have := HSM.out; omega))
  obtain ⟨⟨A7, c7, rfl, -⟩, ⟨A1, c1, rfl, k1, k2, -, k3⟩⟩ := hum
  unfold maxLen at k2
  have HK3 := Lib.hid k3
  clear k3
  obtain ⟨i0, hi, hz0, hz1, hz2⟩ := info_parts info_nu
  obtain ⟨W2, hW2⟩ : ∃ W, W = (w.alloc (.cells #[.slice A7 s.mem.length c7, .slice A1 s.ths.length c1] 62)).alloc (.cells #[.slice none 0 0, .slice none 0 0] 33) := ⟨_, rfl⟩
  obtain ⟨gs, hgs⟩ : ∃ g, g = w.heap.size := ⟨_, rfl⟩
  obtain ⟨gr, hgr⟩ : ∃ g, g = w.heap.size + 1 := ⟨_, rfl⟩
  have HY := Lib.hid (show BoxC W2 gs 62 #[.slice A7 s.mem.length c7, .slice A1 s.ths.length c1] from by rw [hW2, hgs]; exact (BoxC.new w _ _).alloc _)
  have HR := Lib.hid (show BoxC W2 gr 33 #[.slice none 0 0, .slice none 0 0] from by rw [hW2, hgr]; have := BoxC.new (w.alloc (.cells #[.slice A7 s.mem.length c7, .slice A1 s.ths.length c1] 62)) 33 #[.slice none 0 0, .slice none 0 0]; rw [World.size_alloc] at this; exact this)
  have HB2 := Lib.hid (show Below w.heap.size w W2 from by rw [hW2]; exact below_al (below_al (Below.refl _ _) _) _)
  have HG := Lib.hid (show w.heap.size ≤ gr from by omega)
  go_enter Try.func52, Try.ntmps52
  go_upto_region 1 with fail
  rw [← hW2]
  (try rw [← hgr])
  (try rw [← hgs])
  clear hW2 hgr hgs
  have y0 := HY.out.cell 0 _ rfl
  have y1 := HY.out.cell 1 _ rfl
  go_wp2_with fail
  refine (HCL.out _ HB2.out).mono ?_
  rintro e V1 ⟨vm, rfl, hom, hb⟩
  obtain ⟨Am, cm, rfl⟩ := own_slice hom
  obtain ⟨m, hm⟩ : ∃ m, m = s.mem.length := ⟨_, rfl⟩
  have HM := Lib.hid hm
  have HOM := Lib.hid (show OwnI W2.heap.size V1 (.slice Am m cm) s.mem from by rw [hm]; exact hom)
  rw [← hm]
  have HB3 := Lib.hid (chain HB2.out hb)
  have HY3 := Lib.hid (HY.out.below hb HY.out.lt)
  have HR3 := Lib.hid (HR.out.below hb HR.out.lt)
  clear hom hb hm y0 y1 HCL
  go_upto_region 2 with fail
  obtain ⟨X2, hX2⟩ : ∃ W, W = V1.alloc (.cells #[.slice Am m cm, .slice none 0 0] 33) := ⟨_, rfl⟩
  obtain ⟨g3, hg3⟩ : ∃ g, g = V1.heap.size := ⟨_, rfl⟩
  have H3 := Lib.hid (show BoxC X2 g3 33 #[.slice Am m cm, .slice none 0 0] from by rw [hX2, hg3]; exact BoxC.new V1 _ _)
  have HX2 := Lib.hid (show Below V1.heap.size V1 X2 from by rw [hX2]; exact below_al (Below.refl _ _) _)
  have HG3 := Lib.hid (show V1.heap.size ≤ g3 ∧ gr ≠ g3 from by have := HR3.out.lt; omega)
  rw [← hX2]
  (try rw [← hg3])
  clear hX2 hg3
  have y0 := (HY3.out.below HX2.out HY3.out.lt).cell 0 _ rfl
  have y1 := (HY3.out.below HX2.out HY3.out.lt).cell 1 _ rfl
  go_wp2
  go_loopw [13] (fun i wr => ∃ (k : Nat) (Ak : Option Addr) (n d : Nat), k ≤ s.ths.length ∧ i = .int .i64 k ∧ n = (endK s k).length ∧ BoxC wr g3 33 #[.slice Am m cm, .slice Ak n d] ∧ wr.ownsRow V1.heap.size 3 1 (.slice Ak n d) n ((endK s k).flatMap nuC) ∧ Below V1.heap.size V1 wr) (fun i _ => s.ths.length - (intOf i).toNat)
  case atStart => exact ⟨0, none, 0, 0, Nat.zero_le _, rfl, rfl, H3.out, World.ownsRow_nil _ _ _ _, HX2.out⟩
  case round =>
    clear H3 HX2 y0 y1
    obtain ⟨k, Ak, n, d, hk, rfl, hn, hbx, hown, hB⟩ := hrel
    have HN := Lib.hid hn
    have H3 := Lib.hid hbx
    have HO := Lib.hid hown
    have HV := Lib.hid hB
    clear hn hbx hown hB
    by_cases hlt : k < s.ths.length
    · obtain ⟨b2, f2, rfl, hb2, hcm⟩ := HK3.out (by omega)
      have HBW := Lib.hid (chain HB3.out HV.out)
      obtain ⟨vr, vb, y0, y1, y2, y3, hR, hW⟩ := (hcm k hlt).below (HBW.out.mono hBB) hb2
      obtain ⟨A4, c4, rfl, q1, q2, q0, q3⟩ := hR
      obtain ⟨A5, c5, rfl, -⟩ := hW
      have hrl := HRG.out _ (List.getElem_mem hlt)
      have hkl := HKL.out k hk
      have HNX := Lib.hid (endK_next hlt)
      generalize s.ths[k] = x at *
      obtain ⟨xa, xr, xe, xb⟩ := x
      dsimp only at y0 y1 y2 y3 q1 q2 q0 q3 hrl HNX
      have HSRC := Lib.hid (fun W (hW : Below wr.heap.size wr W) => src_rw (W := W) nuC_len q0 q3 (hW.mono (Nat.le_trans hBB HBW.out.size)))
      have HQ0 := Lib.hid q0
      obtain ⟨rn, hrn⟩ : ∃ r, r = xr.length := ⟨_, rfl⟩
      have HRN := Lib.hid hrn
      obtain ⟨bn, hbn⟩ : ∃ r, r = xb.length := ⟨_, rfl⟩
      rw [← hrn] at y1 q1 hrl
      rw [← hbn] at y3
      have hn36 : n ≤ 2700 := by rw [HN.out]; have : k * 300 ≤ 9 * 300 := Nat.mul_le_mul_right _ (by omega); omega
      unfold maxLen at q2
      clear hcm q0 q3 hrn hbn hkl
      go_upto_region 5 with fail
      obtain ⟨X1, hX1⟩ : ∃ W, W = wr.alloc (.cells #[.int .i64 xa, .slice A4 rn c4, .bool xe, .slice A5 bn c5] 94) := ⟨_, rfl⟩
      obtain ⟨g5, hg5⟩ : ∃ g, g = wr.heap.size := ⟨_, rfl⟩
      have H5 := Lib.hid (show BoxC X1 g5 94 #[.int .i64 xa, .slice A4 rn c4, .bool xe, .slice A5 bn c5] from by rw [hX1, hg5]; exact BoxC.new wr _ _)
      have HX1 := Lib.hid (show Below wr.heap.size wr X1 from by rw [hX1]; exact below_al (Below.refl _ _) _)
      rw [← hX1]
      (try rw [← hg5])
      clear hX1 hg5 y0 y1 y2 y3
      have H3X := Lib.hid (H3.out.below HX1.out H3.out.lt)
      have HOX := Lib.hid (own_below HO.out HX1.out)
      have HVX := Lib.hid (chain HV.out HX1.out)
      have e0 := H3X.out.cell 0 _ rfl
      have e1 := H3X.out.cell 1 _ rfl
      have r1 := H5.out.cell 1 _ rfl
      go_wp2_with (at_builtin; refine wpList_append_rw _ rfl _ _ 22 rfl V1.heap.size 3 i0 (.int .i64 0) 1 8 Try.underlying22 hi hz0 hz1 hz2 rfl (by decide) _ n _ rfl HOX.out A4 rn c4 (xr.flatMap nuC) rfl (by rw [HRN.out]; exact fl_len nuC_len xr) (fun h => by rw [HRN.out]; exact HQ0.out h) (HSRC.out _ HX1.out) (one_nu xr) (by unfold maxLen; omega) (by omega) HVX.out.size ?_; intro v1 wz hown1 hg1; obtain ⟨Az, cz, rfl⟩ := own_slice hown1; have H3Z := Lib.hid (H3X.out.grown (by decide) HOX.out hg1); have HOZ := Lib.hid hown1; have HBZ := Lib.hid (below_append HVX.out HOX.out (Nat.le_refl _) HVX.out.size hg1); clear hown1 hg1 e0 e1 r1; have e1 := H3Z.out.cell 1 _ rfl; have f1 := H3Z.out.frozen 1)
      clear e1 f1
      go_roundw
      case rel => exact ⟨k + 1, Az, n + rn, cz, by omega, by go_num, by rw [HNX.out, List.length_append, HN.out, HRN.out], H3Z.out.set 1 _, by rw [HNX.out, List.flatMap_append]; exact own_box HOZ.out H3Z.out (by decide) 1 _, HBZ.out.setCell (p := ⟨g3, 1, none⟩) HG3.out.1 _⟩
      case measure => simp [intOf]; omega
    · obtain rfl : s.ths.length = k := by omega
      have HOE := Lib.hid (show OwnI V1.heap.size wr (.slice Ak n d) (endR s) from by have := HO.out; rw [endK_all] at this; have h2 := HN.out; rw [endK_all] at h2; unfold OwnI; rw [← h2]; exact this)
      have HNE := Lib.hid (HN.out.trans (by rw [endK_all]))
      have HOM2 := Lib.hid (own_below HOM.out HV.out)
      have HRZ := Lib.hid (HR3.out.below HV.out HR3.out.lt)
      have HBE := Lib.hid (chain HB3.out HV.out)
      have HS1 := Lib.hid HB2.out.size
      have HS2 := Lib.hid HB3.out.size
      have e0 := H3.out.cell 0 _ rfl
      have e1 := H3.out.cell 1 _ rfl
      have r0 := HRZ.out.cell 0 _ rfl
      have r1 := HRZ.out.cell 1 _ rfl
      have f0 := HRZ.out.frozen 0
      have f1 := HRZ.out.frozen 1
      obtain ⟨W9, hW9⟩ : ∃ W, W = (wr.setCell ⟨gr, 0, none⟩ (.slice Am m cm)).setCell ⟨gr, 1, none⟩ (.slice Ak n d) := ⟨_, rfl⟩
      have HR9 := Lib.hid (show BoxC W9 gr 33 #[(.slice Am m cm), (.slice Ak n d)] from by rw [hW9]; exact (HRZ.out.set 0 _).set 1 _)
      have HO8 := Lib.hid (show OwnI W2.heap.size W9 (.slice Am m cm) s.mem from by rw [hW9]; exact own_box (own_box HOM2.out HRZ.out (by decide) 0 _) (HRZ.out.set 0 _) (by decide) 1 _)
      have HO9 := Lib.hid (show OwnI V1.heap.size W9 (.slice Ak n d) (endR s) from by rw [hW9]; exact own_box (own_box HOE.out HRZ.out (by decide) 0 _) (HRZ.out.set 0 _) (by decide) 1 _)
      have HB9 := Lib.hid (show Below w.heap.size w W9 from by rw [hW9]; exact (HBE.out.setCell (p := ⟨gr, 0, none⟩) HG.out _).setCell (p := ⟨gr, 1, none⟩) HG.out _)
      have HW9 := Lib.hid hW9
      clear hW9
      go_wp2_with fail
      rw [← HW9.out]
      clear r0 r1 f0 f1
      have r0 := HR9.out.cell 0 _ rfl
      have r1 := HR9.out.cell 1 _ rfl
      have hz : Try.prog.cellsOf 33 = 2 := by kernel_rfl
      refine bodyPost_ret (v := .agg #[(.slice Am m cm), (.slice Ak n d)]) (by simp [results, Try.results52, go_sem, r0, r1, hz]) rfl ?_
      exact ⟨_, _, _, _, _, _, rfl, HM.out, HNE.out, own_base HO8.out HS1.out, own_base HO9.out HS2.out, HB9.out⟩
end Go.Proofs.Ytbffjhdocicfoaa
namespace Go.Proofs.Ytbffjhdocicfoaa
open Go.RowKit Go.WideMaps
set_option linter.unusedVariables false
set_option linter.unusedSimpArgs false
open CodM (St Pg rightP hReg hLoc)
open BfM (Wr plc)
open NumM (inR)
open ScM EnM ExM ExN ExP EyP

open EyM ExR
/-- The ends of the first k states that are over, with their places. -/
def endN (P : Pg) (ss : List Sta) : Nat → List (OtM.Ot × Nat)
  | 0 => []
  | k + 1 => match ss[k]? with
    | some s => if overB P s then endN P ss k ++ [(enS s, k)] else endN P ss k
    | none => endN P ss k
theorem endN_len (P : Pg) (ss : List Sta) : ∀ k, (endN P ss k).length ≤ k
  | 0 => Nat.le_refl _
  | k + 1 => by
    have := endN_len P ss k
    unfold endN
    split
    · split
      · rw [List.length_append]; simp; omega
      · omega
    · omega
abbrev evP (e : EV) : OtM.Ot × Nat := (e.o, e.i)
structure EdK (P : Pg) (ss : List Sta) (k ne : Nat) (es : List EV) (v : Value) (w W : World) : Prop where
  len : es.length = ne
  own : W.ownsRow w.heap.size 85 3 v ne (es.flatMap evC)
  ok : ∀ e ∈ es, EvI w.heap.size W e
  eq : es.map evP = endN P ss k
  below : Below w.heap.size w W
theorem EdK.grown {P : Pg} {ss : List Sta} {k ne : Nat} {es : List EV} {v : Value} {w W W' : World} (h : EdK P ss k ne es v w W) (hb : Below W.heap.size W W') : EdK P ss k ne es v w W' :=
  { h with own := own_below h.own hb, ok := fun e he => (h.ok e he).grow hb, below := h.below.trans (hb.mono h.below.size) }
theorem EdK.no {P : Pg} {ss : List Sta} {k ne : Nat} {es : List EV} {v : Value} {w W : World} (h : EdK P ss k ne es v w W) (hk : k < ss.length) (ho : overB P ss[k] = false) : EdK P ss (k + 1) ne es v w W :=
  { h with eq := by rw [h.eq]; conv => rhs; unfold endN
                    rw [List.getElem?_eq_getElem hk]; simp [ho] }
theorem EdK.yes {P : Pg} {ss : List Sta} {k ne : Nat} {es : List EV} {v v' : Value} {w W W' : World} {x : EV} (h : EdK P ss k ne es v w W) (hk : k < ss.length) (ho : overB P ss[k] = true) (hx : evP x = (enS ss[k], k)) (hxi : EvI w.heap.size W x) (hown : W'.ownsRow w.heap.size 85 3 v' (ne + 1) (es.flatMap evC ++ evC x)) (hg : W.grownBy W' v.ownBlock) : EdK P ss (k + 1) (ne + 1) (es ++ [x]) v' w W' where
  len := by rw [List.length_append, h.len]; rfl
  own := by rw [List.flatMap_append]; simpa using hown
  ok := fun e he => by
    have h1 : EvI w.heap.size W e := by
      rcases List.mem_append.1 he with he | he
      · exact h.ok e he
      · rw [List.mem_singleton.1 he]; exact hxi
    exact ⟨own_grown (by decide) h1.1 h.own hg, own_grown (by decide) h1.2 h.own hg⟩
  eq := by
    rw [List.map_append, h.eq]; conv => rhs; unfold endN
    rw [List.getElem?_eq_getElem hk]; simp [ho, hx]
  below := below_append h.below h.own (Nat.le_refl _) h.below.size hg
def EdRet (P : Pg) (ss : List Sta) (w : World) (e : Ending) (w' : World) : Prop := ∃ ne es A c, e = .returned (.slice A ne c) ∧ EdK P ss ss.length ne es (.slice A ne c) w w'
set_option maxHeartbeats 8000000 in
set_option maxRecDepth 100000 in
theorem xends_any {B n0 g mb : Nat} {wk : Bool} {pi pt vr : Value} {ys : List RV} {P : Pg} (w : World) (h : SrB n0 g mb wk pi pt ys vr w) (hP : PgV B w (.agg #[pi, pt]) P) (hB : B ≤ n0) (hn0 : n0 ≤ w.heap.size) (hp : rightP P = true) (hrd : ∀ y ∈ ys, Rd P wk y.n.s) (hn : ys.length ≤ 30000) :
    Calls Try.prog 39 #[.pointer (some ⟨g, 0, none⟩)] w (EdRet P (ys.map (·.n.s)) w) := by
  obtain ⟨ln, hln⟩ : ∃ n, n = ys.length := ⟨_, rfl⟩
  obtain ⟨AR, cr, er⟩ := own_slice h.row
  rw [← hln] at er
  subst er
  have HLN := Lib.hid hln
  have HS := Lib.hid h
  have hl3 : ln ≤ 30000 := by omega
  have HN0 := Lib.hid hn0
  have HOV := Lib.hid (fun (i : Nat) (hi : i < ys.length) (W : World) (hW : Below w.heap.size w W) => over_any W ((hP.below (hW.mono (Nat.le_trans hB hn0))).more (Nat.le_trans (Nat.le_trans hB hn0) hW.size)) ((h.st _ (List.getElem_mem hi)).kpi (KpI.of (n := n0) hW)).sv (Nat.le_refl _) hp (hrd _ (List.getElem_mem hi)).rc.ok)
  have HEN := Lib.hid (fun (i : Nat) (hi : i < ys.length) (W : World) (hW : Below w.heap.size w W) => end_any W ((h.st _ (List.getElem_mem hi)).kpi (KpI.of (n := n0) hW)).sv (Nat.le_refl _) ((hrd _ (List.getElem_mem hi)).wide.more (by decide)))
  have HSL := Lib.hid (fun (i : Nat) (hi : i < ys.length) => (h.st _ (List.getElem_mem hi)).sl)
  have HAT := Lib.hid (fun (i : Nat) (hi : i < ys.length) => h.at hi)
  have g0' := h.box
  obtain ⟨i0, hi0, hz0, hz1, hz2⟩ := info_parts info_ev
  obtain ⟨pi', pt', e3, hpm⟩ := hP
  injection e3 with e3
  obtain ⟨rfl, rfl⟩ : pi = pi' ∧ pt = pt' := by simpa using e3
  obtain ⟨⟨P0, d0, rfl, -⟩, ⟨P1, d1, rfl, -⟩⟩ := hpm
  have gw0 := g0'.cell 0 (.slice P0 P.init.length d0) rfl
  have gw1 := g0'.cell 1 (.slice P1 P.ths.length d1) rfl
  have gw3 := g0'.cell 3 (.slice AR ln cr) rfl
  clear h hn0 hrd hn hln e3 g0'
  go_enter Try.func39, Try.ntmps39
  have g3 := gw3
  go_wp2
  clear g3
  go_loopw [3, 11] (fun x y wr => ∃ (k ne : Nat) (es : List EV) (A : Option Addr) (c : Nat), x = .slice A ne c ∧ y = .int .i64 k ∧ k ≤ ln ∧ ne ≤ k ∧ Hid (EdK P (ys.map (·.n.s)) k ne es (.slice A ne c) w wr)) (fun _ y _ => ln - (intOf y).toNat)
  case atStart => exact ⟨0, 0, [], none, 0, rfl, rfl, Nat.zero_le _, Nat.le_refl _, Lib.hid ⟨rfl, World.ownsRow_nil _ _ _ _, fun e he => (by cases he), rfl, Below.refl _ _⟩⟩
  case round =>
    obtain ⟨k, ne, es, A, c, rfl, rfl, hk, hne, HK⟩ := hrel
    by_cases hlt : k < ln
    · have hky : k < ys.length := by have := HLN.out; omega
      obtain ⟨gr, cr2, er, r0, r1, r2, r3, r4⟩ := HAT.out k hky
      injection er with er1 er0 er2
      clear er0
      subst er1 er2
      obtain ⟨A1, c1, A2, c2, e1, e2⟩ := HSL.out k hky
      have HOC := HOV.out k hky
      have HEC := HEN.out k hky
      rw [e1] at r0 HOC HEC
      rw [e2] at r1 HOC HEC
      have HKN := Lib.hid (fun (W : World) (h : EdK P (ys.map (·.n.s)) k ne es (.slice A ne c) w W) => And.intro (fun ho => h.no (by simpa using hky) (by simpa using ho)) (fun (v' : Value) (W' : World) (x : EV) ho hx hxi hown hg => h.yes (v' := v') (W' := W') (x := x) (by simpa using hky) (show overB P _ = true by simpa using ho) (by simpa using hx) hxi hown hg))
      obtain ⟨sy, hsy⟩ : ∃ s, s = ys[k].n.s := ⟨_, rfl⟩
      obtain ⟨fr, hfr⟩ : ∃ s, s = ys[k].n.fr := ⟨_, rfl⟩
      obtain ⟨⟨p1, p2⟩, hpk⟩ : ∃ s, s = ys[k].n.k := ⟨_, rfl⟩
      simp only [← hsy, ← hfr, ← hpk] at r0 r1 r2 r3 r4 HOC HEC HKN
      have HOC2 := Lib.hid HOC
      have HEC2 := Lib.hid HEC
      clear HOC HEC e1 e2 hsy hfr hpk hky
      have q0 := kc HK.out.below r0
      have q1 := kc HK.out.below r1
      have q2 := kc HK.out.below r2
      have q3 := kc HK.out.below r3
      have q4 := kc HK.out.below r4
      clear r0 r1 r2 r3 r4
      obtain ⟨W1, hW1⟩ : ∃ W, W = wr.alloc (.cells #[.slice A1 sy.mem.length c1, .slice A2 sy.ths.length c2, .int .i64 (fr : Int), .int .i64 (p1 : Int), .bool p2] 78) := ⟨_, rfl⟩
      obtain ⟨gt, hgt⟩ : ∃ x, x = wr.heap.size := ⟨_, rfl⟩
      have HTB := Lib.hid (show BoxC W1 gt 78 #[.slice A1 sy.mem.length c1, .slice A2 sy.ths.length c2, .int .i64 (fr : Int), .int .i64 (p1 : Int), .bool p2] from by rw [hW1, hgt]; exact BoxC.new wr _ _)
      have HB1 := Lib.hid (show Below wr.heap.size wr W1 from by rw [hW1]; exact below_al (Below.refl _ _) _)
      have HK1 := Lib.hid (HK.out.grown HB1.out)
      go_upto_region 5 with fail
      rw [← hW1]
      (try rw [← hgt])
      clear hW1 hgt q0 q1 q2 q3 q4
      have g0 := kc HK1.out.below gw0
      have g1 := kc HK1.out.below gw1
      have t0 := HTB.out.cell 0 (.slice A1 sy.mem.length c1) rfl
      have t1 := HTB.out.cell 1 (.slice A2 sy.ths.length c2) rfl
      obtain ⟨bb, hbb⟩ : ∃ b, b = overB P sy := ⟨_, rfl⟩
      rw [← hbb] at HOC2
      have HBB := Lib.hid hbb
      clear hbb
      refine wp_region_held_drew (S := (fun w' => (w'.cell? ⟨g, 0, none⟩ = some (.slice P0 P.init.length d0) ∧ w'.cell? ⟨g, 1, none⟩ = some (.slice P1 P.ths.length d1) ∧ w'.cell? ⟨gt, 0, none⟩ = some (.slice A1 sy.mem.length c1) ∧ w'.cell? ⟨gt, 1, none⟩ = some (.slice A2 sy.ths.length c2) ∧ True) ∧ Below W1.heap.size W1 w')) (by kernel_rfl) ⟨⟨g0, g1, t0, t1, trivial⟩, below_drewN (Below.refl _ _) 1⟩ (fun hHeld => ?_)
      refine wpAnyH_take (i := 0) (v := ?_) rfl (by kernel_rfl) (by kernel_rfl) (by kernel_rfl) (fun _ _ _ h => h) (Or.inl ⟨by rfl, ?_⟩) (by assumption) ?_
      rotate_left
      · intro w hSw; (try dsimp only at hSw); go_simp; (try with_reducible rfl)
      (try simp only [Act.put, pt8])
      refine wpAnyH_take (i := 1) (v := ?_) rfl (by kernel_rfl) (by kernel_rfl) (by kernel_rfl) (fun _ _ _ h => h) (Or.inl ⟨by rfl, ?_⟩) (by assumption) ?_
      rotate_left
      · intro w hSw; (try dsimp only at hSw); go_simp; (try with_reducible rfl)
      (try simp only [Act.put, pt8])
      refine wpAnyH_take (i := 2) (v := ?_) rfl (by kernel_rfl) (by kernel_rfl) (by kernel_rfl) (fun _ _ _ h => h) (Or.inl ⟨by rfl, ?_⟩) (by assumption) ?_
      rotate_left
      · intro w hSw; (try dsimp only at hSw); go_simp; (try with_reducible rfl)
      (try simp only [Act.put, pt8])
      refine wpAnyH_take (i := 3) (v := ?_) rfl (by kernel_rfl) (by kernel_rfl) (by kernel_rfl) (fun _ _ _ h => h) (Or.inl ⟨by rfl, ?_⟩) (by assumption) ?_
      rotate_left
      · intro w hSw; (try dsimp only at hSw); go_simp; (try with_reducible rfl)
      (try simp only [Act.put, pt8])
      refine wpAnyH_take (i := 4) (v := ?_) rfl (by kernel_rfl) (by kernel_rfl) (by kernel_rfl) (fun _ _ _ h => h) (Or.inl ⟨by rfl, ?_⟩) (by assumption) ?_
      rotate_left
      · intro w hSw; (try dsimp only at hSw); go_simp; (try with_reducible rfl)
      (try simp only [Act.put, pt8])
      refine wpAnyH_take (i := 5) (v := ?_) rfl (by kernel_rfl) (by kernel_rfl) (by kernel_rfl) (fun _ _ _ h => h) (Or.inl ⟨by rfl, ?_⟩) (by assumption) ?_
      rotate_left
      · intro w hSw; (try dsimp only at hSw); go_simp; (try with_reducible rfl)
      (try simp only [Act.put, pt8])
      refine wpAnyH_ready (rs := [6]) (by kernel_rfl) (by simp) ?_
      refine AllReadyH.cons rfl (fun K hK => ?_) AllReadyH.nil
      go_simp
      refine (HOC2.out _ (HK1.out.grown hHeld.2).below).mono ?_
      rintro e V ⟨rfl, hb⟩
      have HBV := Lib.hid (show Below W1.heap.size W1 V from chain hHeld.2 hb)
      clear hb
      refine hK.out _ _ ⟨⟨kc HBV.out g0, kc HBV.out g1, kc HBV.out t0, kc HBV.out t1, trivial⟩, HBV.out⟩ (fun hHeld => ?_)
      clear hK K
      (try simp only [Act.put, pt8])
      refine wpAnyH_done (by kernel_rfl) ?_ _
      clear hHeld g0 g1 t0 t1
      have HK2 := Lib.hid (HK1.out.grown HBV.out)
      have HT2 := Lib.hid (HTB.out.below HBV.out HTB.out.lt)
      cases bb
      · have HK3 := Lib.hid ((HKN.out _ HK2.out).1 HBB.out.symm)
        go_wp2
        go_roundw
        case rel => exact ⟨k + 1, ne, es, A, c, rfl, by go_num, by omega, by omega, HK3⟩
        case measure => simp [intOf]; omega
      · have t0 := HT2.out.cell 0 (.slice A1 sy.mem.length c1) rfl
        have t1 := HT2.out.cell 1 (.slice A2 sy.ths.length c2) rfl
        have HEV := Lib.hid (HEC2.out _ HK2.out.below)
        go_wp2_with fail
        refine HEV.out.mono ?_
        rintro e V6 ⟨X1, m1, x1, X2, m2, x2, rfl, hm1, hm2, ho1, ho2, hb6⟩
        have HK6 := Lib.hid (HK2.out.grown hb6)
        have HX6 := Lib.hid (show EvI w.heap.size V6 ⟨.slice X1 m1 x1, .slice X2 m2 x2, enS sy, k⟩ from ⟨own_base ho1 HK2.out.below.size, own_base ho2 HK2.out.below.size⟩)
        clear hm1 hm2 ho1 ho2 hb6 t0 t1
        obtain ⟨W7, hW7⟩ : ∃ W, W = V6.alloc (.cells #[.slice X1 m1 x1, .slice X2 m2 x2, .int .i64 (k : Int)] 85) := ⟨_, rfl⟩
        obtain ⟨gc, hgc⟩ : ∃ x, x = V6.heap.size := ⟨_, rfl⟩
        have HL7 := Lib.hid (show Below V6.heap.size V6 W7 from by rw [hW7]; exact below_al (Below.refl _ _) _)
        have HC7 := Lib.hid (show BoxC W7 gc 85 #[.slice X1 m1 x1, .slice X2 m2 x2, .int .i64 (k : Int)] from by rw [hW7, hgc]; exact BoxC.new V6 _ _)
        have HK7 := Lib.hid (HK6.out.grown HL7.out)
        have HX7 := Lib.hid (HX6.out.grow HL7.out)
        go_upto_region 7 with (first | (at_builtin; (try rw [← hW7]); (try rw [← hgc]); refine wpList_append_own _ rfl _ _ 81 rfl w.heap.size 85 i0 (.agg #[.slice none 0 0, .slice none 0 0, .int .i64 0]) 3 56 Try.underlying81 hi0 hz0 hz1 hz2 rfl (by decide) _ ne (es.flatMap evC) rfl HK7.out.own ⟨gc, 0, none⟩ 1 1 [.slice X1 m1 x1, .slice X2 m2 x2, .int .i64 (k : Int)] rfl rfl (fun j u hu => lit_at HC7.out _ rfl j u hu) (by intro u hu; simp at hu; rcases hu with rfl | rfl | rfl <;> rfl) (by unfold maxLen; omega) (by omega) HK7.out.below.size ?_; intro v8 w8 hown8 hg8 _; obtain ⟨A8, c8, rfl⟩ := own_slice hown8))
        have HK8 := Lib.hid ((HKN.out _ HK7.out).2 _ _ ⟨.slice X1 m1 x1, .slice X2 m2 x2, enS sy, k⟩ HBB.out.symm ⟨rfl, rfl⟩ HX7.out hown8 hg8)
        clear hown8 hg8 hW7 hgc
        go_wp2
        go_roundw
        case rel => exact ⟨k + 1, ne + 1, _, A8, c8, rfl, by go_num, by omega, by omega, HK8⟩
        case measure => simp [intOf]; omega
    · obtain rfl : k = ln := by omega
      go_wp2
      go_ret
      exact ⟨ne, es, A, c, rfl, by rw [List.length_map, ← HLN.out]; exact HK.out⟩
end Go.Proofs.Ytbffjhdocicfoaa
namespace Go.Proofs.Ytbffjhdocicfoaa
open Go.RowKit
set_option linter.unusedVariables false
set_option linter.unusedSimpArgs false
open OtM EyM

abbrev oF : Value := .func (.func 41) #[] #[]
set_option maxHeartbeats 4000000 in
set_option maxRecDepth 100000 in
theorem eswap_any {B b g n cap : Nat} {w0 : World} {zs : List EV} (a q k : Nat) (w : World) (h : SR B b g n cap w0 zs w) (hk : a + k ≤ n) (hq : q + k ≤ n) (hn : n ≤ 1000000) :
    Calls Try.prog 102 #[.slice (some ⟨g, 0, none⟩) n cap, .int .i64 (a : Int), .int .i64 (q : Int), .int .i64 (k : Int), oF] w (SRet B b g n cap w0 (swapN zs a q k)) := by
  have H0 := Lib.hid h
  clear h
  go_enter Try.func102, Try.ntmps102
  go_wp2
  go_loopw [10] (fun i wr => ∃ j : Nat, j ≤ k ∧ i = .int .i64 j ∧ Hid (SR B b g n cap w0 (swapN zs a q j) wr)) (fun i _ => k - (intOf i).toNat)
  case atStart => exact ⟨0, Nat.zero_le _, rfl, H0⟩
  case round =>
    obtain ⟨j, hj, rfl, HK⟩ := hrel
    by_cases hlt : j < k
    · obtain ⟨ia, hia⟩ : ∃ x, x = a + j := ⟨_, rfl⟩
      obtain ⟨iq, hiq⟩ : ∃ x, x = q + j := ⟨_, rfl⟩
      have HN := Lib.hid (show swapN zs a q (j + 1) = swap1 (swapN zs a q j) ia iq from by rw [hia, hiq]; rfl)
      have w1 : IntKind.i64.wrap ((a : Int) + (j : Int)) = (ia : Int) := by rw [IntWalk.i64_in _ (by omega)]; omega
      have w2 : IntKind.i64.wrap ((q : Int) + (j : Int)) = (iq : Int) := by rw [IntWalk.i64_in _ (by omega)]; omega
      obtain ⟨zc, hzc⟩ : ∃ z, z = swapN zs a q j := ⟨_, rfl⟩
      rw [← hzc] at HK HN
      have hb1 : ia < n := by omega
      have hb2 : iq < n := by omega
      clear hzc hia hiq
      have hi1 : ia < zc.length := by rw [HK.out.len]; exact hb1
      have hi2 : iq < zc.length := by rw [HK.out.len]; exact hb2
      obtain ⟨x0, x1, x2⟩ := HK.out.at hi1
      obtain ⟨y0, y1, y2⟩ := HK.out.at hi2
      have HS1 := Lib.hid (HK.out.set1 hi1 hi2)
      have HS := Lib.hid (HK.out.swap hi1 hi2)
      obtain ⟨⟨A1, n1, c1, e1⟩, A2, n2, c2, e2⟩ := And.intro (HK.out.ev hi1).1.sl (HK.out.ev hi1).2.sl
      obtain ⟨⟨A3, n3, c3, e3⟩, A4, n4, c4, e4⟩ := And.intro (HK.out.ev hi2).1.sl (HK.out.ev hi2).2.sl
      have f0 := own_frozen HK.out.own (ia * 3)
      have f1 := own_frozen HK.out.own (ia * 3 + 1)
      have f2 := own_frozen HK.out.own (ia * 3 + 2)
      obtain ⟨zi, hzi⟩ : ∃ z, z = swap1 zc ia iq := ⟨_, rfl⟩
      rw [← hzi] at HS
      have HZI := Lib.hid hzi
      obtain ⟨x, hx⟩ : ∃ z, z = zc[ia] := ⟨_, rfl⟩
      obtain ⟨y, hy⟩ : ∃ z, z = zc[iq] := ⟨_, rfl⟩
      rw [← hx] at x0 x1 x2 HS e1 e2
      rw [← hy] at y0 y1 y2 HS HS1 e3 e4
      obtain ⟨zu, hzu⟩ : ∃ z, z = zc.set ia y := ⟨_, rfl⟩
      rw [← hzu] at HS1
      clear hx hy hi1 hi2 hzi hzu
      obtain ⟨xm, xr, xo, xi⟩ := x
      obtain ⟨ym, yr, yo, yi⟩ := y
      dsimp only at x0 x1 x2 y0 y1 y2 HS HS1 e1 e2 e3 e4
      subst e1 e2 e3 e4
      rw [HZI.out, ← HN.out] at HS
      clear HZI HN
      go_upto_region 3 with fail
      refine wp_region_held_drew (S := (fun w' => True)) (by kernel_rfl) trivial (fun hHeld => ?_)
      refine wpAnyH_take (i := 0) (v := ?_) rfl (by kernel_rfl) (by kernel_rfl) (by kernel_rfl) (fun _ _ _ h => h) (Or.inl ⟨by rfl, ?_⟩) (by assumption) ?_
      rotate_left
      · intro w hSw; (try dsimp only at hSw); go_simp; (try with_reducible rfl)
      (try simp only [Act.put, pt8])
      refine wpAnyH_take (i := 1) (v := ?_) rfl (by kernel_rfl) (by kernel_rfl) (by kernel_rfl) (fun _ _ _ h => h) (Or.inl ⟨by rfl, ?_⟩) (by assumption) ?_
      rotate_left
      · intro w hSw; (try dsimp only at hSw); go_simp; (try with_reducible rfl)
      (try simp only [Act.put, pt8])
      refine wpAnyH_take (i := 2) (v := ?_) rfl (by kernel_rfl) (by kernel_rfl) (by kernel_rfl) (fun _ _ _ h => h) (Or.inl ⟨by rfl, ?_⟩) (by assumption) ?_
      rotate_left
      · intro w hSw; (try dsimp only at hSw); go_simp; (try with_reducible rfl)
      (try simp only [Act.put, pt8])
      refine wpAnyH_take (i := 3) (v := ?_) rfl (by kernel_rfl) (by kernel_rfl) (by kernel_rfl) (fun _ _ _ h => h) (Or.inl ⟨by rfl, ?_⟩) (by assumption) ?_
      rotate_left
      · intro w hSw; (try dsimp only at hSw); go_simp; (try with_reducible rfl)
      (try simp only [Act.put, pt8])
      refine wpAnyH_take (i := 4) (v := ?_) rfl (by kernel_rfl) (by kernel_rfl) (by kernel_rfl) (fun _ _ _ h => h) (Or.inl ⟨by rfl, ?_⟩) (by assumption) ?_
      rotate_left
      · intro w hSw; (try dsimp only at hSw); go_simp; (try with_reducible rfl)
      (try simp only [Act.put, pt8])
      refine wpAnyH_take (i := 5) (v := ?_) rfl (by kernel_rfl) (by kernel_rfl) (by kernel_rfl) (fun _ _ _ h => h) (Or.inl ⟨by rfl, ?_⟩) (by assumption) ?_
      rotate_left
      · intro w hSw; (try dsimp only at hSw); go_simp; (try with_reducible rfl)
      (try simp only [Act.put, pt8])
      refine wpAnyH_take (i := 6) (v := ?_) rfl (by kernel_rfl) (by kernel_rfl) (by kernel_rfl) (fun _ _ _ h => h) (Or.inl ⟨by rfl, ?_⟩) (by assumption) ?_
      rotate_left
      · intro w hSw; (try dsimp only at hSw); go_simp; (try with_reducible rfl)
      (try simp only [Act.put, pt8])
      refine wpAnyH_take (i := 7) (v := ?_) rfl (by kernel_rfl) (by kernel_rfl) (by kernel_rfl) (fun _ _ _ h => h) (Or.inl ⟨by rfl, ?_⟩) (by assumption) ?_
      rotate_left
      · intro w hSw; (try dsimp only at hSw); go_simp; (try with_reducible rfl)
      (try simp only [Act.put, pt8])
      refine wpAnyH_take (i := 8) (v := ?_) rfl (by kernel_rfl) (by kernel_rfl) (by kernel_rfl) (fun _ _ _ h => h) (Or.inl ⟨by rfl, ?_⟩) (by assumption) ?_
      rotate_left
      · intro w hSw; (try dsimp only at hSw); go_simp; (try with_reducible rfl)
      (try simp only [Act.put, pt8])
      refine wpAnyH_take (i := 9) (v := ?_) rfl (by kernel_rfl) (by kernel_rfl) (by kernel_rfl) (fun _ _ _ h => h) (Or.inl ⟨by rfl, ?_⟩) (by assumption) ?_
      rotate_left
      · intro w hSw; (try dsimp only at hSw); go_simp; (try with_reducible rfl)
      (try simp only [Act.put, pt8])
      refine wpAnyH_take (i := 10) (v := ?_) rfl (by kernel_rfl) (by kernel_rfl) (by kernel_rfl) (fun _ _ _ h => h) (Or.inl ⟨by rfl, ?_⟩) (by assumption) ?_
      rotate_left
      · intro w hSw; (try dsimp only at hSw); go_simp; (try with_reducible rfl)
      (try simp only [Act.put, pt8])
      refine wpAnyH_take (i := 11) (v := ?_) rfl (by kernel_rfl) (by kernel_rfl) (by kernel_rfl) (fun _ _ _ h => h) (Or.inl ⟨by rfl, ?_⟩) (by assumption) ?_
      rotate_left
      · intro w hSw; (try dsimp only at hSw); go_simp; (try with_reducible rfl)
      (try simp only [Act.put, pt8])
      refine wpAnyH_take (i := 12) (v := ?_) rfl (by kernel_rfl) (by kernel_rfl) (by kernel_rfl) (fun _ _ _ h => h) (Or.inl ⟨by rfl, ?_⟩) (by assumption) ?_
      rotate_left
      · intro w hSw; (try dsimp only at hSw); go_simp; (try with_reducible rfl)
      (try simp only [Act.put, pt8])
      refine wpAnyH_take (i := 14) (v := ?_) rfl (by kernel_rfl) (by kernel_rfl) (by kernel_rfl) (fun _ _ _ h => h) (Or.inl ⟨by rfl, ?_⟩) (by assumption) ?_
      rotate_left
      · intro w hSw; (try dsimp only at hSw); go_simp; (try with_reducible rfl)
      (try simp only [Act.put, pt8])
      refine wpAnyH_take (i := 15) (v := ?_) rfl (by kernel_rfl) (by kernel_rfl) (by kernel_rfl) (fun _ _ _ h => h) (Or.inl ⟨by rfl, ?_⟩) (by assumption) ?_
      rotate_left
      · intro w hSw; (try dsimp only at hSw); go_simp; (try with_reducible rfl)
      (try simp only [Act.put, pt8])
      refine wpAnyH_take (i := 16) (v := ?_) rfl (by kernel_rfl) (by kernel_rfl) (by kernel_rfl) (fun _ _ _ h => h) (Or.inl ⟨by rfl, ?_⟩) (by assumption) ?_
      rotate_left
      · intro w hSw; (try dsimp only at hSw); go_simp; (try with_reducible rfl)
      (try simp only [Act.put, pt8])
      refine wpAnyH_take (i := 17) (v := ?_) rfl (by kernel_rfl) (by kernel_rfl) (by kernel_rfl) (fun _ _ _ h => h) (Or.inl ⟨by rfl, ?_⟩) (by assumption) ?_
      rotate_left
      · intro w hSw; (try dsimp only at hSw); go_simp; (try with_reducible rfl)
      (try simp only [Act.put, pt8])
      refine wpAnyH_take (i := 18) (v := ?_) rfl (by kernel_rfl) (by kernel_rfl) (by kernel_rfl) (fun _ _ _ h => h) (Or.inl ⟨by rfl, ?_⟩) (by assumption) ?_
      rotate_left
      · intro w hSw; (try dsimp only at hSw); go_simp; (try with_reducible rfl)
      (try simp only [Act.put, pt8])
      refine wpAnyH_ready (rs := [13, 19]) (by kernel_rfl) (by simp) ?_
      refine AllReadyH.cons rfl (fun K hK => ?_) (AllReadyH.cons rfl (fun K hK => ?_) (AllReadyH.nil))
      · -- 13 first
        go_simp
        refine hK.out _ _ trivial (fun hHeld => ?_)
        clear hK K
        (try simp only [Act.put, pt8])
        refine wpAnyH_ready (rs := [19]) (by kernel_rfl) (by simp) ?_
        refine AllReadyH.cons rfl (fun K hK => ?_) AllReadyH.nil
        go_simp
        refine hK.out _ _ trivial (fun hHeld => ?_)
        clear hK K
        (try simp only [Act.put, pt8])
        refine wpAnyH_take (i := 20) (v := ?_) rfl (by kernel_rfl) (by kernel_rfl) (by kernel_rfl) (fun _ _ _ h => h) (Or.inl ⟨by rfl, ?_⟩) (by assumption) ?_
        rotate_left
        · intro w hSw; (try dsimp only at hSw); go_simp; (try with_reducible rfl)
        (try simp only [Act.put, pt8])
        refine wpAnyH_ready (rs := [21]) (by kernel_rfl) (by simp) ?_
        refine AllReadyH.cons rfl (fun K hK => ?_) AllReadyH.nil
        go_simp
        refine hK.out _ _ trivial (fun hHeld => ?_)
        clear hK K
        (try simp only [Act.put, pt8])
        obtain ⟨Y1, hY1⟩ : ∃ W, W = ((wr.setCell ⟨g, ia * 3, none⟩ (.slice A3 n3 c3)).setCell ⟨g, ia * 3 + 1, none⟩ (.slice A4 n4 c4)).setCell ⟨g, ia * 3 + 2, none⟩ (.int .i64 (yi : Int)) := ⟨_, rfl⟩
        rw [← hY1] at HS HS1
        rw [← hY1]
        clear hY1 x0 x1 x2 y0 y1 y2 f0 f1 f2
        obtain ⟨v0, v1, v2, x0, x1, x2, f0, f1, f2⟩ := HS1.out.there hb2
        refine wpAnyH_take (i := 22) (v := ?_) rfl (by kernel_rfl) (by kernel_rfl) (by kernel_rfl) (fun _ _ _ h => h) (Or.inl ⟨by rfl, ?_⟩) (by assumption) ?_
        rotate_left
        · intro w hSw; (try dsimp only at hSw); go_simp; (try with_reducible rfl)
        (try simp only [Act.put, pt8])
        refine wpAnyH_ready (rs := [23]) (by kernel_rfl) (by simp) ?_
        refine AllReadyH.cons rfl (fun K hK => ?_) AllReadyH.nil
        go_simp
        refine hK.out _ _ trivial (fun hHeld => ?_)
        clear hK K
        (try simp only [Act.put, pt8])
        refine wpAnyH_done (by kernel_rfl) ?_ _
        clear x0 x1 x2 f0 f1 f2
        go_wp2
        go_roundw
        case rel => exact ⟨j + 1, by omega, by go_num, Lib.hid (HS.out.grown (Bg.dn _ 1).1)⟩
        case measure => simp [intOf]; omega
      · -- 19 first
        go_simp
        refine hK.out _ _ trivial (fun hHeld => ?_)
        clear hK K
        (try simp only [Act.put, pt8])
        refine wpAnyH_ready (rs := [13]) (by kernel_rfl) (by simp) ?_
        refine AllReadyH.cons rfl (fun K hK => ?_) AllReadyH.nil
        go_simp
        refine hK.out _ _ trivial (fun hHeld => ?_)
        clear hK K
        (try simp only [Act.put, pt8])
        refine wpAnyH_take (i := 20) (v := ?_) rfl (by kernel_rfl) (by kernel_rfl) (by kernel_rfl) (fun _ _ _ h => h) (Or.inl ⟨by rfl, ?_⟩) (by assumption) ?_
        rotate_left
        · intro w hSw; (try dsimp only at hSw); go_simp; (try with_reducible rfl)
        (try simp only [Act.put, pt8])
        refine wpAnyH_ready (rs := [21]) (by kernel_rfl) (by simp) ?_
        refine AllReadyH.cons rfl (fun K hK => ?_) AllReadyH.nil
        go_simp
        refine hK.out _ _ trivial (fun hHeld => ?_)
        clear hK K
        (try simp only [Act.put, pt8])
        obtain ⟨Y1, hY1⟩ : ∃ W, W = ((wr.setCell ⟨g, ia * 3, none⟩ (.slice A3 n3 c3)).setCell ⟨g, ia * 3 + 1, none⟩ (.slice A4 n4 c4)).setCell ⟨g, ia * 3 + 2, none⟩ (.int .i64 (yi : Int)) := ⟨_, rfl⟩
        rw [← hY1] at HS HS1
        rw [← hY1]
        clear hY1 x0 x1 x2 y0 y1 y2 f0 f1 f2
        obtain ⟨v0, v1, v2, x0, x1, x2, f0, f1, f2⟩ := HS1.out.there hb2
        refine wpAnyH_take (i := 22) (v := ?_) rfl (by kernel_rfl) (by kernel_rfl) (by kernel_rfl) (fun _ _ _ h => h) (Or.inl ⟨by rfl, ?_⟩) (by assumption) ?_
        rotate_left
        · intro w hSw; (try dsimp only at hSw); go_simp; (try with_reducible rfl)
        (try simp only [Act.put, pt8])
        refine wpAnyH_ready (rs := [23]) (by kernel_rfl) (by simp) ?_
        refine AllReadyH.cons rfl (fun K hK => ?_) AllReadyH.nil
        go_simp
        refine hK.out _ _ trivial (fun hHeld => ?_)
        clear hK K
        (try simp only [Act.put, pt8])
        refine wpAnyH_done (by kernel_rfl) ?_ _
        clear x0 x1 x2 f0 f1 f2
        go_wp2
        go_roundw
        case rel => exact ⟨j + 1, by omega, by go_num, Lib.hid (HS.out.grown (Bg.dn _ 1).1)⟩
        case measure => simp [intOf]; omega
    · obtain rfl : j = k := by omega
      go_wp2
      refine bodyPost_end (v := .tuple #[]) (by simp [results, Try.results102, go_sem]) rfl ?_
      exact ⟨rfl, HK.out⟩
end Go.Proofs.Ytbffjhdocicfoaa
