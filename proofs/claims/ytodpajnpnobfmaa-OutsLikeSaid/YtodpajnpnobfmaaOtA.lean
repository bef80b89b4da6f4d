/-
  ENDS in memory; how the program holds two of them against one another.
-/
import Derived.Test.YtodpajnpnobfmaaOtM
import Derived.Test.YtodpajnpnobfmaaEnX
import Derived.Deep.RegionHeld3
import Derived.Deep.DeepCutAuto
import Derived.Sort.Grow
namespace Go.Proofs.Ytodpajnpnobfmaa
open Go.RowKit
set_option linter.unusedVariables false
set_option linter.unusedSimpArgs false
open OtM

/-- All that was stays, and what is drawn is drawn. -/
def Bg (w w' : World) : Prop := Below w.heap.size w w' ∧ w.drawn ≤ w'.drawn
theorem Bg.refl (w : World) : Bg w w := ⟨Below.refl _ _, Nat.le_refl _⟩
theorem Bg.trans {a b c : World} (h : Bg a b) (k : Bg b c) : Bg a c := ⟨chain h.1 k.1, Nat.le_trans h.2 k.2⟩
theorem Bg.al (w : World) (o : Obj) : Bg w (w.alloc o) := ⟨below_al (Below.refl _ _) o, Nat.le_refl _⟩
theorem drawn_drewN (w : World) : ∀ n, (w.drewN n).drawn = w.drawn + n
  | 0 => rfl
  | n + 1 => by show (w.drewN n).drawn + 1 = _; rw [drawn_drewN w n]; rfl
theorem Bg.dn (w : World) (n : Nat) : Bg w (w.drewN n) := ⟨below_drewN (Below.refl _ _) n, by rw [drawn_drewN]; omega⟩
/-- A world behind that differs by draws and new blocks. -/
theorem Bg.grow {w w' : World} (h : Bg w w') : ∃ q os, w' = Sort.grow (w.drewN q) os := by
  obtain ⟨hb, hd⟩ := h
  refine ⟨w'.drawn - w.drawn, w'.heap.extract w.heap.size w'.heap.size, ?_⟩
  have e1 : w'.heap = w.heap ++ w'.heap.extract w.heap.size w'.heap.size := by
    apply Array.ext
    · simp; have := hb.size; omega
    · intro i h1 h2
      by_cases hi : i < w.heap.size
      · have := hb.block i hi
        rw [Array.getElem?_eq_getElem h1, Array.getElem?_eq_getElem hi] at this
        rw [Array.getElem_append_left hi]; exact Option.some.inj this
      · rw [Array.getElem_append_right (by omega), Array.getElem_extract]
        congr 1; omega
  have hq : ∀ n, (w.drewN n).heap = w.heap ∧ (w.drewN n).tape = w.tape ∧ (w.drewN n).os = w.os ∧ (w.drewN n).output = w.output := by
    intro n; induction n with
    | zero => exact ⟨rfl, rfl, rfl, rfl⟩
    | succ n ih => exact ih
  obtain ⟨q1, q2, q3, q4⟩ := hq (w'.drawn - w.drawn)
  have q5 := drawn_drewN w (w'.drawn - w.drawn)
  obtain ⟨h5, h4, h3, h2, h1⟩ : w'.heap = w.heap ++ w'.heap.extract w.heap.size w'.heap.size ∧ w'.tape = w.tape ∧ w'.os = w.os ∧ w'.output = w.output ∧ w'.drawn = w.drawn + (w'.drawn - w.drawn) := ⟨e1, hb.tape, hb.os, hb.output, by omega⟩
  clear hb hd hq e1
  generalize (w.drewN (w'.drawn - w.drawn)) = X at *
  generalize w'.heap.extract w.heap.size w'.heap.size = os at *
  generalize w'.drawn - w.drawn = d at *
  obtain ⟨xh, xt, xd, xo, xp⟩ := X
  obtain ⟨wh, wt, wd, wo, wp⟩ := w'
  dsimp only at *
  subst q1 q2 q3 q4 q5 h1 h2 h3 h4 h5
  rfl

/-- An end, as two values that read as it. -/
structure OV where
  m : Value
  r : Value
  o : Ot
def ovC (x : OV) : List Value := [x.m, x.r]
theorem ovC_len (x : OV) : (ovC x).length = 2 := rfl
def OvOk (B : Nat) (w : World) (x : OV) : Prop := IntR B w x.m x.o.1 ∧ IntR B w x.r x.o.2
theorem OvOk.below {B : Nat} {w w' : World} {x : OV} (h : OvOk B w x) (hb : Below B w w') : OvOk B w' x := ⟨h.1.below hb, h.2.below hb⟩
theorem OvOk.more {B B' : Nat} {w : World} {x : OV} (h : OvOk B w x) (hb : B ≤ B') : OvOk B' w x := ⟨h.1.more hb, h.2.more hb⟩
/-- An end in memory. -/
def OutR (B : Nat) (w : World) (v : Value) (o : Ot) : Prop := ∃ vm vr, v = .agg #[vm, vr] ∧ IntR B w vm o.1 ∧ IntR B w vr o.2
theorem OutR.below {B : Nat} {w w' : World} {v : Value} {o : Ot} (h : OutR B w v o) (hb : Below B w w') : OutR B w' v o := by
  obtain ⟨a, b, e, h1, h2⟩ := h; exact ⟨a, b, e, h1.below hb, h2.below hb⟩
theorem OutR.more {B B' : Nat} {w : World} {v : Value} {o : Ot} (h : OutR B w v o) (hb : B ≤ B') : OutR B' w v o := by
  obtain ⟨a, b, e, h1, h2⟩ := h; exact ⟨a, b, e, h1.more hb, h2.more hb⟩
theorem OvOk.out {B : Nat} {w : World} {x : OV} (h : OvOk B w x) : OutR B w (.agg #[x.m, x.r]) x.o := ⟨_, _, rfl, h.1, h.2⟩
/-- A row of ends in memory. -/
def OutsX (B : Nat) (w : World) (v : Value) (xs : List OV) : Prop := Rw ovC 2 B w v xs ∧ ∀ x ∈ xs, OvOk B w x
theorem OutsX.below {B : Nat} {w w' : World} {v : Value} {xs : List OV} (h : OutsX B w v xs) (hb : Below B w w') : OutsX B w' v xs := ⟨h.1.below hb, fun x hx => (h.2 x hx).below hb⟩
theorem OutsX.more {B B' : Nat} {w : World} {v : Value} {xs : List OV} (h : OutsX B w v xs) (hb : B ≤ B') : OutsX B' w v xs := ⟨h.1.more hb, fun x hx => (h.2 x hx).more hb⟩
abbrev os (xs : List OV) : List Ot := xs.map (·.o)
def OutsR (B : Nat) (w : World) (v : Value) (l : List Ot) : Prop := ∃ xs, os xs = l ∧ OutsX B w v xs
theorem OutsR.below {B : Nat} {w w' : World} {v : Value} {l : List Ot} (h : OutsR B w v l) (hb : Below B w w') : OutsR B w' v l := by
  obtain ⟨xs, e, h⟩ := h; exact ⟨xs, e, h.below hb⟩
theorem OutsR.more {B B' : Nat} {w : World} {v : Value} {l : List Ot} (h : OutsR B w v l) (hb : B ≤ B') : OutsR B' w v l := by
  obtain ⟨xs, e, h⟩ := h; exact ⟨xs, e, h.more hb⟩
theorem IntR.one {B : Nat} {w : World} {v : Value} {l : List Int} (h : IntR B w v l) : v.oneCell' = true := by obtain ⟨A, c, rfl, _⟩ := h; rfl
theorem ov_one {B : Nat} {w : World} {xs : List OV} (h : ∀ x ∈ xs, OvOk B w x) : ∀ u ∈ xs.flatMap ovC, u.oneCell' = true := fun u hu => by
  obtain ⟨x, hx, hu⟩ := List.mem_flatMap.1 hu
  simp only [ovC, List.mem_cons, List.not_mem_nil, or_false] at hu
  rcases hu with rfl | rfl
  · exact (h x hx).1.one
  · exact (h x hx).2.one
theorem ov_at {B : Nat} {w : World} {A : Option Addr} {xs : List OV} (h : 0 < xs.length → ∃ g f, A = some ⟨g, f, none⟩ ∧ g < B ∧ ∀ j u, (xs.flatMap ovC)[j]? = some u → w.cell? ⟨g, f + j, none⟩ = some u) :
    0 < xs.length → ∃ g f, A = some ⟨g, f, none⟩ ∧ g < B ∧ ∀ j (hj : j < xs.length), w.cell? ⟨g, f + j * 2, none⟩ = some xs[j].m ∧ w.cell? ⟨g, f + j * 2 + 1, none⟩ = some xs[j].r := by
  intro k
  obtain ⟨g, f, e, hg, hc⟩ := h k
  refine ⟨g, f, e, hg, fun j hj => ⟨?_, ?_⟩⟩
  · exact hc (j * 2) _ ((fl_at ovC_len xs j 0 hj (by omega)).trans rfl)
  · exact hc (j * 2 + 1) _ ((fl_at ovC_len xs j 1 hj (by omega)).trans rfl)
abbrev OwnO (base : Nat) (w : World) (v : Value) (xs : List OV) : Prop := w.ownsRow base 24 2 v xs.length (xs.flatMap ovC)
theorem info_out : (Try.prog.info? 24).map (fun i => (i.zero, i.size, i.bytes)) = some (some (.agg #[.slice none 0 0, .slice none 0 0]), 2, 48) := by kernel_rfl
def cI (x y : Int) : Int := if x = y then 0 else if x < y then -1 else 1
set_option maxHeartbeats 1000000 in
set_option maxRecDepth 100000 in
theorem cint_any (x y : Int) (w : World) : Calls Try.prog 80 #[.int .i64 x, .int .i64 y] w fun e w' => e = .returned (.int .i64 (cI x y)) ∧ w' = w := by
  by_cases h1 : x = y
  · subst h1
    go_enter Try.func80, Try.ntmps80
    go_wp2
    go_ret
    exact ⟨by simp [cI], rfl⟩
  · by_cases h2 : x < y
    · have h3 : ¬ y < x := by omega
      go_enter Try.func80, Try.ntmps80
      go_wp2
      go_ret
      exact ⟨by simp [cI, h1, h2], rfl⟩
    · have h3 : y < x := by omega
      go_enter Try.func80, Try.ntmps80
      go_wp2
      go_ret
      exact ⟨by simp [cI, h1, h2], rfl⟩
set_option maxHeartbeats 4000000 in
set_option maxRecDepth 100000 in
theorem ccmp_any {B : Nat} {v u : Value} {ns ms : List Int} (w : World) (hv : IntR B w v ns) (hu : IntR B w u ms) :
    Calls Try.prog 79 #[v, u] w fun e w' => e = .returned (.int .i64 (cmpI ns ms)) ∧ w' = w := by
  obtain ⟨A1, c1, rfl, ha1, ha2, -, ha3⟩ := hv
  obtain ⟨A2, c2, rfl, hb1, hb2, -, hb3⟩ := hu
  unfold maxLen at ha2 hb2
  have ha3 := nu_at (c := c1) ha3
  have hb3 := nu_at (c := c2) hb3
  have HC := Lib.hid (fun (x y : Int) => cint_any x y w)
  obtain ⟨n, hn⟩ : ∃ n, n = ns.length := ⟨_, rfl⟩
  obtain ⟨m, hm⟩ : ∃ n, n = ms.length := ⟨_, rfl⟩
  have HN := Lib.hid hn
  have HM := Lib.hid hm
  rw [← hn] at ha1 ⊢
  rw [← hm] at hb1 ⊢
  clear hn hm
  go_enter Try.func79, Try.ntmps79
  go_wp2
  go_loopw [11] (fun i wr => ∃ k : Nat, k ≤ n ∧ i = .int .i64 k ∧ Hid (k ≤ m ∧ cmpI ns ms = cmpI (ns.drop k) (ms.drop k)) ∧ wr = w) (fun i _ => n - (intOf i).toNat)
  case atStart => exact ⟨0, Nat.zero_le _, rfl, Lib.hid ⟨Nat.zero_le _, rfl⟩, rfl⟩
  case round =>
    obtain ⟨k, hk, rfl, he, rfl⟩ := hrel
    by_cases hlt : k < n
    · obtain ⟨b1, f1, rfl, hl1, hc1⟩ := ha3 (by have := HN.out; omega)
      have hn1 : k < ns.length := by have := HN.out; omega
      have d1 := hc1 k (by have := HN.out; omega)
      by_cases hlm : k < m
      · obtain ⟨b2, f2, rfl, hl2, hc2⟩ := hb3 (by have := HM.out; omega)
        have hn2 : k < ms.length := by have := HM.out; omega
        have d2 := hc2 k hn2
        have HT := Lib.hid (fun (h : ns[k] = ms[k]) => he.out.2.trans (cmpI_step hn1 hn2 h))
        have HF := Lib.hid (fun (h : ¬ ns[k] = ms[k]) => he.out.2.trans (cmpI_apart hn1 hn2 h))
        obtain ⟨x, hx⟩ : ∃ x, x = ns[k] := ⟨_, rfl⟩
        obtain ⟨y, hy⟩ : ∃ x, x = ms[k] := ⟨_, rfl⟩
        rw [← hx] at d1 HT HF
        rw [← hy] at d2 HT HF
        have hml : ¬ m ≤ k := by omega
        clear hx hy hc1 hc2 ha3 hb3 he hn1 hn2
        by_cases hxy : x = y
        · have HE := Lib.hid (HT.out hxy)
          subst hxy
          have hc0 : cI x x = 0 := by simp [cI]
          have HC1 := HC.out x x
          rw [hc0] at HC1
          have HC2 := Lib.hid HC1
          clear HC1 HT HF hc0
          go_wp2_with fail
          refine HC2.out.mono ?_
          rintro e w' ⟨rfl, rfl⟩
          go_wp2
          go_roundw
          case rel => exact ⟨k + 1, by omega, by go_num, Lib.hid ⟨by omega, HE.out⟩, by first | trivial | rfl⟩
          case measure => simp [intOf]; omega
        · have HE := HF.out hxy
          have hc0 : cI x y = if x < y then -1 else 1 := by simp [cI, hxy]
          have HC1 := HC.out x y
          rw [hc0, ← HE] at HC1
          have HC2 := Lib.hid HC1
          have hne : ¬ cmpI ns ms = 0 := by rw [HE]; split <;> decide
          have hne2 : (cmpI ns ms != 0) = true := by simp [bne, hne]
          clear HC1 HT HF hc0 HE
          obtain ⟨r, hr⟩ : ∃ r, r = cmpI ns ms := ⟨_, rfl⟩
          rw [← hr] at HC2 hne hne2
          have HR := Lib.hid hr
          clear hr
          go_wp2_with fail
          refine HC2.out.mono ?_
          rintro e w' ⟨rfl, rfl⟩
          go_wp2
          go_ret
          exact ⟨by rw [← HR.out]; rfl, rfl⟩
      · have HE := Lib.hid (he.out.2.trans (cmpI_long hn1 (by have := HM.out; omega)))
        have hml : m ≤ k := by omega
        have hkm : m = k := by have := he.out.1; omega
        have HK := Lib.hid hkm
        clear hkm he hb3 ha3 hc1
        obtain ⟨x, hx⟩ : ∃ x, x = ns[k] := ⟨_, rfl⟩
        rw [← hx] at d1
        clear hx hn1
        go_wp2
        go_ret
        exact ⟨by rw [HE.out]; rfl, rfl⟩
    · obtain rfl : n = k := by omega
      have hk2 := he.out.1
      have HE := he.out.2
      by_cases hlm : n < m
      · rw [cmpI_short (by have := HN.out; omega) (by have := HM.out; omega)] at HE
        have HE := Lib.hid HE
        clear he ha3 hb3
        go_wp2
        go_ret
        exact ⟨by rw [HE.out]; rfl, rfl⟩
      · rw [cmpI_end (by have := HN.out; omega) (by have := HM.out; omega)] at HE
        have HE := Lib.hid HE
        have : m = n := by omega
        clear he ha3 hb3
        go_wp2
        go_ret
        exact ⟨by rw [HE.out]; rfl, rfl⟩
/-- A new box. -/
theorem box2 {w : World} (a b : Value) (T : TypeId) : (w.alloc (.cells #[a, b] T)).cell? ⟨w.heap.size, 0, none⟩ = some a ∧ (w.alloc (.cells #[a, b] T)).cell? ⟨w.heap.size, 1, none⟩ = some b := by
  refine ⟨?_, ?_⟩ <;> (rw [World.cell?_alloc_at _ _ _ _ rfl]; rfl)
theorem cmpO_eq (a b : Ot) (r : Int) (h : cmpI a.1 b.1 = r) : cmpO a b = if r = 0 then cmpI a.2 b.2 else r := by rw [cmpO, h]
set_option maxHeartbeats 4000000 in
set_option maxRecDepth 100000 in
theorem against_any {B : Nat} {v u : Value} {a b : Ot} (w : World) (hv : OutR B w v a) (hu : OutR B w u b) (hBB : B ≤ w.heap.size) :
    Calls Try.prog 78 #[v, u] w fun e w' => e = .returned (.int .i64 (cmpO a b)) ∧ Bg w w' := by
  obtain ⟨vm, vr, rfl, h1, h2⟩ := hv
  obtain ⟨um, ur, rfl, g1, g2⟩ := hu
  have HC1 := Lib.hid (fun W (hW : Below w.heap.size w W) => ccmp_any W (h1.below (hW.mono hBB)) (g1.below (hW.mono hBB)))
  have HC2 := Lib.hid (fun W (hW : Below w.heap.size w W) => ccmp_any W (h2.below (hW.mono hBB)) (g2.below (hW.mono hBB)))
  obtain ⟨A1, c1, rfl, -⟩ := h1
  obtain ⟨A2, c2, rfl, -⟩ := h2
  obtain ⟨D1, e1, rfl, -⟩ := g1
  obtain ⟨D2, e2, rfl, -⟩ := g2
  generalize a.1.length = n1 at *
  generalize a.2.length = n2 at *
  generalize b.1.length = n3 at *
  generalize b.2.length = n4 at *
  obtain ⟨W2, hW2⟩ : ∃ W, W = (w.alloc (.cells #[.slice A1 n1 c1, .slice A2 n2 c2] 58)).alloc (.cells #[.slice D1 n3 e1, .slice D2 n4 e2] 24) := ⟨_, rfl⟩
  obtain ⟨ga, hga⟩ : ∃ g, g = w.heap.size := ⟨_, rfl⟩
  obtain ⟨gb, hgb⟩ : ∃ g, g = w.heap.size + 1 := ⟨_, rfl⟩
  have HX := Lib.hid (show BoxC W2 ga 58 #[.slice A1 n1 c1, .slice A2 n2 c2] from by rw [hW2, hga]; exact (BoxC.new w _ _).alloc _)
  have HY := Lib.hid (show BoxC W2 gb 24 #[.slice D1 n3 e1, .slice D2 n4 e2] from by rw [hW2, hgb]; have := BoxC.new (w.alloc (.cells #[.slice A1 n1 c1, .slice A2 n2 c2] 58)) 24 #[.slice D1 n3 e1, .slice D2 n4 e2]; rw [World.size_alloc] at this; exact this)
  have HB2 := Lib.hid (show Bg w W2 from by rw [hW2]; exact (Bg.al _ _).trans (Bg.al _ _))
  obtain ⟨r, hr⟩ : ∃ r, r = cmpI a.1 b.1 := ⟨_, rfl⟩
  obtain ⟨s, hs⟩ : ∃ r, r = cmpI a.2 b.2 := ⟨_, rfl⟩
  rw [← hr] at HC1
  rw [← hs] at HC2
  have HR := Lib.hid (cmpO_eq a b r hr.symm)
  rw [← hs] at HR
  have hne : (r != 0) = !decide (r = 0) := by by_cases h : r = 0 <;> simp [bne, h]
  clear hr hs
  go_enter Try.func78, Try.ntmps78
  go_upto_region 1 with fail
  rw [← hW2]
  (try rw [← hgb])
  (try rw [← hga])
  clear hW2 hga hgb
  have x0 := HX.out.cell 0 _ rfl
  have x1 := HX.out.cell 1 _ rfl
  have y0 := HY.out.cell 0 _ rfl
  have y1 := HY.out.cell 1 _ rfl
  go_wp2_with fail
  refine (HC1.out _ HB2.out.1).mono ?_
  rintro e V1 ⟨rfl, rfl⟩
  by_cases h0 : r = 0
  · have hz : (r != 0) = false := by rw [hne]; simp [h0]
    have HZ := Lib.hid h0
    clear hne h0
    go_wp2_with fail
    refine (HC2.out _ HB2.out.1).mono ?_
    rintro e V2 ⟨rfl, rfl⟩
    go_wp2
    go_ret
    exact ⟨by rw [HR.out, if_pos HZ.out]; rfl, HB2.out⟩
  · have hz : (r != 0) = true := by rw [hne]; simp [h0]
    have HZ := Lib.hid h0
    clear hne h0
    go_wp2
    go_ret
    exact ⟨by rw [HR.out, if_neg HZ.out]; rfl, HB2.out⟩
end Go.Proofs.Ytodpajnpnobfmaa
