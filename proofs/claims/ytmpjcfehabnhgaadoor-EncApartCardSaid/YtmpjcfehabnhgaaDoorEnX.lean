/-
  THE DOCUMENT's Same of layer 10, of any two states: whether they are alike.
-/
import Derived.Test.YtmpjcfehabnhgaaDoorScX
import Derived.Deep.RegionHeld3
namespace Go.Proofs.YtmpjcfehabnhgaaDoor
open Go.RowKit
set_option linter.unusedVariables false
set_option linter.unusedSimpArgs false
open BfM (Wr plc)
open ScM

/-- What tells whether two are alike. -/
def AlRet {α : Type} (x y : α) (w : World) (e : Ending) (w' : World) : Prop := ∃ b, e = .returned (.bool b) ∧ (b = true ↔ x = y) ∧ Below w.heap.size w w'
set_option maxHeartbeats 4000000 in
set_option maxRecDepth 100000 in
theorem nsame_dec {B : Nat} {v u : Value} {ns ms : List Int} (w : World) (hv : IntR B w v ns) (hu : IntR B w u ms) (hBB : B ≤ w.heap.size) :
    Calls Tryd.prog 15 #[v, u] w (AlRet ns ms w) := by
  obtain ⟨A1, c1, rfl, ha1, ha2, -, ha3⟩ := hv
  obtain ⟨A2, c2, rfl, hb1, hb2, -, hb3⟩ := hu
  unfold maxLen at ha2 hb2
  have ha3 := nu_at (c := c1) ha3
  have hb3 := nu_at (c := c2) hb3
  by_cases hl : ns.length = ms.length
  · have HL := Lib.hid hl
    have q1 : ((ns.length : Int) != (ms.length : Int)) = false := by rw [hl]; simp
    have q2 : (ns.length : Int) = (ms.length : Int) := by rw [hl]
    obtain ⟨n, hn⟩ : ∃ n, n = ms.length := ⟨_, rfl⟩
    have HN := Lib.hid hn
    have HNN := Lib.hid (show ns.length = n from by rw [hn]; exact hl)
    rw [hl] at ha1 ⊢
    rw [← hn] at ha1 hb1 ⊢
    clear hl q1 q2 hn
    go_enter Tryd.func15, Tryd.ntmps15
    go_wp2
    go_loopw [5] (fun i wr => ∃ k : Nat, k ≤ n ∧ i = .int .i64 k ∧ ns.take k = ms.take k ∧ Below w.heap.size w wr) (fun i _ => n - (intOf i).toNat)
    case atStart => exact ⟨0, Nat.zero_le _, rfl, by simp, Below.refl _ _⟩
    case round =>
      obtain ⟨k, hk, rfl, he, hB⟩ := hrel
      by_cases hlt : k < n
      · have hn1 : k < ns.length := by have := HNN.out; omega
        have hn2 : k < ms.length := by have := HN.out; omega
        obtain ⟨b1, f1, rfl, hl1, hc1⟩ := ha3 (by omega)
        obtain ⟨b2, f2, rfl, hl2, hc2⟩ := hb3 (by omega)
        have d1 := ((hB.mono hBB).cell (p := ⟨b1, f1 + k, none⟩) hl1).trans (hc1 k hn1)
        have d2 := ((hB.mono hBB).cell (p := ⟨b2, f2 + k, none⟩) hl2).trans (hc2 k hn2)
        have HT := Lib.hid (fun (h : ns[k] = ms[k]) => show ns.take (k + 1) = ms.take (k + 1) from by rw [List.take_succ_eq_append_getElem hn1, List.take_succ_eq_append_getElem hn2, he, h])
        have HF := Lib.hid (fun (h : ¬ ns[k] = ms[k]) => show ¬ ns = ms from fun e => h (by subst e; rfl))
        obtain ⟨x, hx⟩ : ∃ x, x = ns[k] := ⟨_, rfl⟩
        obtain ⟨y, hy⟩ : ∃ x, x = ms[k] := ⟨_, rfl⟩
        rw [← hx] at d1 HT HF
        rw [← hy] at d2 HT HF
        clear hx hy hc1 hc2 ha3 hb3 he hn1 hn2
        by_cases hxy : x = y
        · have HE := Lib.hid (HT.out hxy)
          subst hxy
          clear HT HF
          go_wp2
          go_quiet (fail)
          go_wp2
          go_roundw
          case rel => exact ⟨k + 1, by omega, by go_num, HE.out, below_drewN hB _⟩
          case measure => simp [intOf]; omega
        · have HE := Lib.hid (HF.out hxy)
          have q1 : (x != y) = true := by simp [bne, hxy]
          have q2 : (x == y) = false := beq_eq_false_iff_ne.2 hxy
          clear HT HF
          go_wp2
          go_quiet (fail)
          go_wp2
          go_ret
          exact ⟨false, rfl, ⟨fun h => (by cases h), fun h => absurd h HE.out⟩, below_drewN hB _⟩
      · obtain rfl : n = k := by omega
        have HE := Lib.hid (show ns = ms from by
          have h1 := List.take_length (l := ns)
          have h2 := List.take_length (l := ms)
          rw [HNN.out] at h1
          rw [← HN.out] at h2
          rw [← h1, ← h2]; exact he)
        clear ha3 hb3 he
        go_wp2
        go_ret
        exact ⟨true, rfl, ⟨fun _ => HE.out, fun _ => rfl⟩, hB⟩
  · have HE := Lib.hid (show ¬ ns = ms from fun e => hl (by rw [e]))
    have q1 : ((ns.length : Int) != (ms.length : Int)) = true := by
      rw [bne, beq_eq_false_iff_ne.2 (by omega)]; rfl
    clear ha3 hb3
    go_enter Tryd.func15, Tryd.ntmps15
    go_wp2
    go_ret
    exact ⟨false, rfl, ⟨fun h => (by cases h), fun h => absurd h HE.out⟩, Below.refl _ _⟩
set_option maxHeartbeats 4000000 in
set_option maxRecDepth 100000 in
theorem wsame_dec {B : Nat} {v u : Value} {ns ms : List Wr} (w : World) (hv : WrR B w v ns) (hu : WrR B w u ms) (hBB : B ≤ w.heap.size) :
    Calls Tryd.prog 53 #[v, u] w (AlRet ns ms w) := by
  obtain ⟨A1, c1, rfl, ha1, ha2, -, ha3⟩ := hv
  obtain ⟨A2, c2, rfl, hb1, hb2, -, hb3⟩ := hu
  unfold maxLen at ha2 hb2
  have ha3 := wr_at (c := c1) ha3
  have hb3 := wr_at (c := c2) hb3
  by_cases hl : ns.length = ms.length
  · have HL := Lib.hid hl
    have q1 : ((ns.length : Int) != (ms.length : Int)) = false := by rw [hl]; simp
    have q2 : (ns.length : Int) = (ms.length : Int) := by rw [hl]
    obtain ⟨n, hn⟩ : ∃ n, n = ms.length := ⟨_, rfl⟩
    have HN := Lib.hid hn
    have HNN := Lib.hid (show ns.length = n from by rw [hn]; exact hl)
    rw [hl] at ha1 ⊢
    rw [← hn] at ha1 hb1 ⊢
    clear hl q1 q2 hn
    go_enter Tryd.func53, Tryd.ntmps53
    go_wp2
    go_loopw [5] (fun i wr => ∃ k : Nat, k ≤ n ∧ i = .int .i64 k ∧ ns.take k = ms.take k ∧ Below w.heap.size w wr) (fun i _ => n - (intOf i).toNat)
    case atStart => exact ⟨0, Nat.zero_le _, rfl, by simp, Below.refl _ _⟩
    case round =>
      obtain ⟨k, hk, rfl, he, hB⟩ := hrel
      by_cases hlt : k < n
      · have hn1 : k < ns.length := by have := HNN.out; omega
        have hn2 : k < ms.length := by have := HN.out; omega
        obtain ⟨b1, f1, rfl, hl1, hc1⟩ := ha3 (by omega)
        obtain ⟨b2, f2, rfl, hl2, hc2⟩ := hb3 (by omega)
        have d1 := ((hB.mono hBB).cell (p := ⟨b1, f1 + k * 2, none⟩) hl1).trans (hc1 k hn1).1
        have d2 := ((hB.mono hBB).cell (p := ⟨b1, f1 + k * 2 + 1, none⟩) hl1).trans (hc1 k hn1).2
        have d3 := ((hB.mono hBB).cell (p := ⟨b2, f2 + k * 2, none⟩) hl2).trans (hc2 k hn2).1
        have d4 := ((hB.mono hBB).cell (p := ⟨b2, f2 + k * 2 + 1, none⟩) hl2).trans (hc2 k hn2).2
        have HT := Lib.hid (fun (h : ns[k] = ms[k]) => show ns.take (k + 1) = ms.take (k + 1) from by rw [List.take_succ_eq_append_getElem hn1, List.take_succ_eq_append_getElem hn2, he, h])
        have HF := Lib.hid (fun (h : ¬ ns[k] = ms[k]) => show ¬ ns = ms from fun e => h (by subst e; rfl))
        obtain ⟨x, hx⟩ : ∃ x, x = ns[k] := ⟨_, rfl⟩
        obtain ⟨y, hy⟩ : ∃ x, x = ms[k] := ⟨_, rfl⟩
        rw [← hx] at d1 d2 HT HF
        rw [← hy] at d3 d4 HT HF
        clear hx hy hc1 hc2 ha3 hb3 he hn1 hn2
        by_cases hxy : x = y
        · have HE := Lib.hid (HT.out hxy)
          subst hxy
          clear HT HF
          go_wp2
          go_quiet (fail)
          go_wp2
          go_roundw
          case rel => exact ⟨k + 1, by omega, by go_num, HE.out, below_drewN hB _⟩
          case measure => simp [intOf]; omega
        · have HE := Lib.hid (HF.out hxy)
          obtain ⟨xl, xn⟩ := x
          obtain ⟨yl, yn⟩ := y
          dsimp only at d1 d2 d3 d4
          by_cases e1 : xl = yl
          · have e2 : ¬ xn = yn := fun e => hxy (by rw [e1, e])
            subst e1
            have q1 : (xn != yn) = true := by simp [bne, e2]
            have q2 : (xn == yn) = false := beq_eq_false_iff_ne.2 e2
            clear HT HF hxy
            go_wp2
            go_quiet (fail)
            go_wp2
            go_ret
            exact ⟨false, rfl, ⟨fun h => (by cases h), fun h => absurd h HE.out⟩, below_drewN hB _⟩
          · have q1 : (xl != yl) = true := by simp [bne, e1]
            have q2 : (xl == yl) = false := beq_eq_false_iff_ne.2 e1
            clear HT HF hxy
            go_wp2
            go_quiet (fail)
            go_wp2
            go_ret
            exact ⟨false, rfl, ⟨fun h => (by cases h), fun h => absurd h HE.out⟩, below_drewN hB _⟩
      · obtain rfl : n = k := by omega
        have HE := Lib.hid (show ns = ms from by
          have h1 := List.take_length (l := ns)
          have h2 := List.take_length (l := ms)
          rw [HNN.out] at h1
          rw [← HN.out] at h2
          rw [← h1, ← h2]; exact he)
        clear ha3 hb3 he
        go_wp2
        go_ret
        exact ⟨true, rfl, ⟨fun _ => HE.out, fun _ => rfl⟩, hB⟩
  · have HE := Lib.hid (show ¬ ns = ms from fun e => hl (by rw [e]))
    have q1 : ((ns.length : Int) != (ms.length : Int)) = true := by
      rw [bne, beq_eq_false_iff_ne.2 (by omega)]; rfl
    clear ha3 hb3
    go_enter Tryd.func53, Tryd.ntmps53
    go_wp2
    go_ret
    exact ⟨false, rfl, ⟨fun h => (by cases h), fun h => absurd h HE.out⟩, Below.refl _ _⟩
set_option maxHeartbeats 4000000 in
set_option maxRecDepth 100000 in
theorem sameth_dec {B : Nat} {v u : Value} {t s : Th} (w : World) (hv : ThV B w v t) (hu : ThV B w u s) (hBB : B ≤ w.heap.size) :
    Calls Tryd.prog 36 #[v, u] w (AlRet t s w) := by
  obtain ⟨vr, vb, rfl, hr, hb⟩ := hv
  obtain ⟨ur, ub, rfl, ir, ib⟩ := hu
  obtain ⟨a, rs, q, bs⟩ := t
  obtain ⟨a', rs', q', bs'⟩ := s
  dsimp only at hr hb ir ib ⊢
  have HNI := Lib.hid (fun W (hW : Below w.heap.size w W) => nsame_dec W ((hr.below (hW.mono hBB)).more (Nat.le_trans hBB hW.size)) ((ir.below (hW.mono hBB)).more (Nat.le_trans hBB hW.size)) (Nat.le_refl _))
  have HWI := Lib.hid (fun W (hW : Below w.heap.size w W) => wsame_dec W ((hb.below (hW.mono hBB)).more (Nat.le_trans hBB hW.size)) ((ib.below (hW.mono hBB)).more (Nat.le_trans hBB hW.size)) (Nat.le_refl _))
  obtain ⟨A1, c1, rfl, -⟩ := hr
  obtain ⟨A2, c2, rfl, -⟩ := hb
  obtain ⟨A3, c3, rfl, -⟩ := ir
  obtain ⟨A4, c4, rfl, -⟩ := ib
  have hB1 := below_al (Below.refl w.heap.size w) (.cells #[.int .i64 a, .slice A1 rs.length c1, .bool q, .slice A2 bs.length c2] 44)
  have hB2 := below_al hB1 (.cells #[.int .i64 a', .slice A3 rs'.length c3, .bool q', .slice A4 bs'.length c4] 44)
  have HX := Lib.hid (kc4 (below_al (Below.refl _ _) (.cells #[.int .i64 a', .slice A3 rs'.length c3, .bool q', .slice A4 bs'.length c4] 44)) (box4 (w := w) (.int .i64 a) (.slice A1 rs.length c1) (.bool q) (.slice A2 bs.length c2) 44))
  have HY := Lib.hid (box4 (w := w.alloc (.cells #[.int .i64 a, .slice A1 rs.length c1, .bool q, .slice A2 bs.length c2] 44)) (.int .i64 a') (.slice A3 rs'.length c3) (.bool q') (.slice A4 bs'.length c4) 44)
  rw [show (w.alloc (.cells #[.int .i64 a, .slice A1 rs.length c1, .bool q, .slice A2 bs.length c2] 44)).heap.size = w.heap.size + 1 from by simp] at HY
  obtain ⟨x0, x1, x2, x3⟩ := HX.out
  obtain ⟨y0, y1, y2, y3⟩ := HY.out
  have HNE := Lib.hid (fun (h : ¬ (a = a' ∧ q = q' ∧ rs = rs' ∧ bs = bs')) => show ¬ (⟨a, rs, q, bs⟩ : Th) = ⟨a', rs', q', bs'⟩ from fun e => absurd (by injection e with e1 e2 e3 e4; exact ⟨e1, e3, e2, e4⟩) h)
  have HEQ := Lib.hid (fun (h1 : a = a') (h2 : q = q') (h3 : rs = rs') (h4 : bs = bs') => show (⟨a, rs, q, bs⟩ : Th) = ⟨a', rs', q', bs'⟩ from by subst h1 h2 h3 h4; rfl)
  generalize (⟨a, rs, q, bs⟩ : Th) = T1 at *
  generalize (⟨a', rs', q', bs'⟩ : Th) = T2 at *
  clear hB1
  by_cases ha : a = a'
  · have HA := Lib.hid ha
    have p1 : (a == a') = true := by rw [ha]; simp
    by_cases hq : q = q'
    · have HQ := Lib.hid hq
      have p2 : (q == q') = true := by rw [hq]; simp
      clear ha hq
      go_enter Tryd.func36, Tryd.ntmps36
      go_wp2_with fail
      refine (HNI.out _ hB2).mono ?_
      rintro e w1 ⟨b1, rfl, hb1, hbb⟩
      replace HX := Lib.hid (kc4 hbb HX.out)
      replace HY := Lib.hid (kc4 hbb HY.out)
      have hB3 := chain hB2 hbb
      have HI1 := Lib.hid hb1
      clear x0 x1 x2 x3 y0 y1 y2 y3 hbb hB2 HNI hb1
      obtain ⟨x0, x1, x2, x3⟩ := HX.out
      obtain ⟨y0, y1, y2, y3⟩ := HY.out
      cases b1 with
      | false =>
        have HR := Lib.hid (HNE.out (fun h => by have := HI1.out.2 h.2.2.1; cases this))
        go_wp2
        go_ret
        exact ⟨false, rfl, ⟨fun h => (by cases h), fun h => absurd h HR.out⟩, hB3⟩
      | true =>
        have HM1 := Lib.hid (HI1.out.1 rfl)
        go_wp2_with fail
        refine (HWI.out _ hB3).mono ?_
        rintro e w2 ⟨b2, rfl, hb2, hbb⟩
        have hB4 := chain hB3 hbb
        have HI2 := Lib.hid hb2
        clear x0 x1 x2 x3 y0 y1 y2 y3 hbb hB3 HWI HX HY hb2
        cases b2 with
        | false =>
          have HR := Lib.hid (HNE.out (fun h => by have := HI2.out.2 h.2.2.2; cases this))
          go_wp2
          go_ret
          exact ⟨false, rfl, ⟨fun h => (by cases h), fun h => absurd h HR.out⟩, hB4⟩
        | true =>
          have HR := Lib.hid (HEQ.out HA.out HQ.out HM1.out (HI2.out.1 rfl))
          go_wp2
          go_ret
          exact ⟨true, rfl, ⟨fun _ => HR.out, fun _ => rfl⟩, hB4⟩
    · have p2 : (q == q') = false := beq_eq_false_iff_ne.2 hq
      have HR := Lib.hid (HNE.out (fun h => hq h.2.1))
      clear ha hq
      go_enter Tryd.func36, Tryd.ntmps36
      go_wp2
      go_ret
      exact ⟨false, rfl, ⟨fun h => (by cases h), fun h => absurd h HR.out⟩, hB2⟩
  · have p1 : (a == a') = false := beq_eq_false_iff_ne.2 ha
    have HR := Lib.hid (HNE.out (fun h => ha h.1))
    clear ha
    go_enter Tryd.func36, Tryd.ntmps36
    go_wp2
    go_ret
    exact ⟨false, rfl, ⟨fun h => (by cases h), fun h => absurd h HR.out⟩, hB2⟩
set_option maxHeartbeats 8000000 in
set_option maxRecDepth 100000 in
theorem stsame_dec {B : Nat} {v u : Value} {a c : Sta} (w : World) (hv : StaV B w v a) (hu : StaV B w u c) (hBB : B ≤ w.heap.size) :
    Calls Tryd.prog 20 #[v, u] w (AlRet a c w) := by
  obtain ⟨vm, vt, rfl, hvm, hvt⟩ := hv
  obtain ⟨um, ut, rfl, hum, hut⟩ := hu
  have HNI := Lib.hid (fun W (hW : Below w.heap.size w W) => nsame_dec W ((hvm.below (hW.mono hBB)).more (Nat.le_trans hBB hW.size)) ((hum.below (hW.mono hBB)).more (Nat.le_trans hBB hW.size)) (Nat.le_refl _))
  obtain ⟨A7, c7, rfl, -⟩ := hvm
  obtain ⟨A8, c8, rfl, -⟩ := hum
  obtain ⟨A1, c1, rfl, g1, g2, -, g3⟩ := hvt
  obtain ⟨A2, c2, rfl, g4, g5, -, g6⟩ := hut
  unfold maxLen at g2 g5
  have HNE := Lib.hid (fun (h : ¬ (a.mem = c.mem ∧ a.ths = c.ths)) => show ¬ a = c from fun e => absurd (by subst e; exact ⟨rfl, rfl⟩) h)
  have HEQ := Lib.hid (fun (h1 : a.mem = c.mem) (h2 : a.ths = c.ths) => show a = c from by cases a; cases c; simp only at h1 h2; subst h1 h2; rfl)
  obtain ⟨am, at'⟩ := a
  obtain ⟨cm, ct'⟩ := c
  dsimp only at HNI g1 g3 g4 g6 HNE HEQ ⊢
  generalize (⟨am, at'⟩ : Sta) = T1 at *
  generalize (⟨cm, ct'⟩ : Sta) = T2 at *
  have hB1 := below_al (Below.refl w.heap.size w) (.cells #[.slice A7 am.length c7, .slice A1 at'.length c1] 25)
  have hB2 := below_al hB1 (.cells #[.slice A8 cm.length c8, .slice A2 ct'.length c2] 25)
  have HX := Lib.hid ((PgBox.at (w := w) rfl (.slice A7 am.length c7) (.slice A1 at'.length c1) 25).below (below_al (Below.refl _ _) (.cells #[.slice A8 cm.length c8, .slice A2 ct'.length c2] 25)))
  have hsz : (w.alloc (.cells #[.slice A7 am.length c7, .slice A1 at'.length c1] 25)).heap.size = w.heap.size + 1 := by simp
  have HY := Lib.hid (PgBox.at (w := w.alloc (.cells #[.slice A7 am.length c7, .slice A1 at'.length c1] 25)) hsz.symm (.slice A8 cm.length c8) (.slice A2 ct'.length c2) 25)
  obtain ⟨t0, t1⟩ := HX.out
  obtain ⟨s0, s1⟩ := HY.out
  clear hB1 hsz
  go_enter Tryd.func20, Tryd.ntmps20
  go_wp2_with fail
  refine (HNI.out _ hB2).mono ?_
  rintro e w1 ⟨b1, rfl, hb1, hbb⟩
  have HI1 := Lib.hid hb1
  replace HX := Lib.hid (HX.out.below hbb)
  replace HY := Lib.hid (HY.out.below hbb)
  have hB := chain hB2 hbb
  clear t0 t1 s0 s1 hbb hB2 HNI hb1
  obtain ⟨t0, t1⟩ := HX.out
  obtain ⟨s0, s1⟩ := HY.out
  cases b1 with
  | false =>
    have HR := Lib.hid (HNE.out (fun h => by have := HI1.out.2 h.1; cases this))
    clear g3 g6
    go_wp2
    go_ret
    exact ⟨false, rfl, ⟨fun h => (by cases h), fun h => absurd h HR.out⟩, hB⟩
  | true =>
  have HM1 := Lib.hid (HI1.out.1 rfl)
  by_cases hl : at'.length = ct'.length
  · obtain ⟨n, hn⟩ : ∃ n, n = ct'.length := ⟨_, rfl⟩
    have HN := Lib.hid hn
    have HNN := Lib.hid (show at'.length = n from by rw [hn]; exact hl)
    rw [hl, ← hn] at g1 t1
    rw [← hn] at g4 s1
    have HX1 := Lib.hid t1
    have HX0 := Lib.hid t0
    have HY1 := Lib.hid s1
    have HY0 := Lib.hid s0
    rw [hl, ← hn]
    clear hl hn HX HY
    go_wp2
    go_loopw [5] (fun i wr => (∃ k : Nat, k ≤ n ∧ i = .int .i64 k ∧ at'.take k = ct'.take k ∧ Below w.heap.size w wr ∧ Below w1.heap.size w1 wr)) (fun i _ => n - (intOf i).toNat)
    case atStart => exact ⟨0, Nat.zero_le _, rfl, by simp, hB, Below.refl _ _⟩
    case round =>
    obtain ⟨k, hk, rfl, he, hB, hW⟩ := hrel
    clear t0 t1 s0 s1
    have t1 := kc hW HX1.out
    have s1 := kc hW HY1.out
    by_cases hlt : k < n
    · have hn1 : k < at'.length := by have := HNN.out; omega
      have hn2 : k < ct'.length := by have := HN.out; omega
      obtain ⟨b1, f1, rfl, hb1, hc1⟩ := g3 (by omega)
      obtain ⟨b2, f2, rfl, hb2, hc2⟩ := g6 (by omega)
      obtain ⟨vr, vb, p0, p1, p2, p3, hr, hb⟩ := (hc1 k hn1).below (hB.mono hBB) hb1
      obtain ⟨ur, ub, r0, r1, r2, r3, ir, ib⟩ := (hc2 k hn2).below (hB.mono hBB) hb2
      have HT := Lib.hid (fun (h : at'[k] = ct'[k]) => show at'.take (k + 1) = ct'.take (k + 1) from by rw [List.take_succ_eq_append_getElem hn1, List.take_succ_eq_append_getElem hn2, he, h])
      have HF := Lib.hid (fun (h : ¬ at'[k] = ct'[k]) => show ¬ at' = ct' from fun e => h (by subst e; rfl))
      obtain ⟨x, hx⟩ : ∃ x, x = at'[k] := ⟨_, rfl⟩
      obtain ⟨y, hy⟩ : ∃ x, x = ct'[k] := ⟨_, rfl⟩
      rw [← hx] at p0 p2 hr hb HT HF
      rw [← hy] at r0 r2 ir ib HT HF
      have hBw := Nat.le_trans hBB hB.size
      have HST := Lib.hid (fun W (hW : Below wr.heap.size wr W) => sameth_dec W (show ThV W.heap.size W (.agg #[.int .i64 x.at', vr, .bool x.eq, vb]) x from ⟨_, _, rfl, (hr.below (hW.mono hBw)).more (Nat.le_trans hBw hW.size), (hb.below (hW.mono hBw)).more (Nat.le_trans hBw hW.size)⟩)
        (show ThV W.heap.size W (.agg #[.int .i64 y.at', ur, .bool y.eq, ub]) y from ⟨_, _, rfl, (ir.below (hW.mono hBw)).more (Nat.le_trans hBw hW.size), (ib.below (hW.mono hBw)).more (Nat.le_trans hBw hW.size)⟩) (Nat.le_refl _))
      obtain ⟨A3, c3, rfl, -⟩ := hr
      obtain ⟨A4, c4, rfl, -⟩ := hb
      obtain ⟨A5, c5, rfl, -⟩ := ir
      obtain ⟨A6, c6, rfl, -⟩ := ib
      clear hx hy hc1 hc2 g3 g6 he hn1 hn2
      go_upto_region 6 with fail
      refine wp_region_held_drew (S := (fun w' => (w'.cell? ⟨w.heap.size, 1, none⟩ = some (.slice (some ⟨b1, f1, none⟩) n c1) ∧ w'.cell? ⟨w.heap.size + 1, 1, none⟩ = some (.slice (some ⟨b2, f2, none⟩) n c2) ∧ w'.cell? ⟨b1, f1 + k * 4, none⟩ = some (.int .i64 x.at') ∧ w'.cell? ⟨b1, f1 + k * 4 + 1, none⟩ = some (.slice A3 x.regs.length c3) ∧ w'.cell? ⟨b1, f1 + k * 4 + 2, none⟩ = some (.bool x.eq) ∧ w'.cell? ⟨b1, f1 + k * 4 + 3, none⟩ = some (.slice A4 x.buf.length c4) ∧ w'.cell? ⟨b2, f2 + k * 4, none⟩ = some (.int .i64 y.at') ∧ w'.cell? ⟨b2, f2 + k * 4 + 1, none⟩ = some (.slice A5 y.regs.length c5) ∧ w'.cell? ⟨b2, f2 + k * 4 + 2, none⟩ = some (.bool y.eq) ∧ w'.cell? ⟨b2, f2 + k * 4 + 3, none⟩ = some (.slice A6 y.buf.length c6)) ∧ Below wr.heap.size wr w')) (by kernel_rfl) ⟨⟨t1, s1, p0, p1, p2, p3, r0, r1, r2, r3⟩, below_drewN (Below.refl _ _) 1⟩ (fun hHeld => ?_)
      refine wpAnyH_take (i := 0) (v := ?_) rfl (by kernel_rfl) (by kernel_rfl) (by kernel_rfl) (fun _ _ _ h => h) (Or.inl ⟨by rfl, ?_⟩) (by assumption) ?_
      rotate_left
      · intro w hSw; (try dsimp only at hSw); go_simp; (try with_reducible rfl)
      (try simp only [Act.put, List.getElem_toArray, List.getElem_cons_zero, List.getElem_cons_succ, Array.getInternal_eq_getElem, List.setIfInBounds_toArray, List.set_cons_zero, List.set_cons_succ])
      refine wpAnyH_take (i := 1) (v := ?_) rfl (by kernel_rfl) (by kernel_rfl) (by kernel_rfl) (fun _ _ _ h => h) (Or.inl ⟨by rfl, ?_⟩) (by assumption) ?_
      rotate_left
      · intro w hSw; (try dsimp only at hSw); go_simp; (try with_reducible rfl)
      (try simp only [Act.put, List.getElem_toArray, List.getElem_cons_zero, List.getElem_cons_succ, Array.getInternal_eq_getElem, List.setIfInBounds_toArray, List.set_cons_zero, List.set_cons_succ])
      refine wpAnyH_take (i := 2) (v := ?_) rfl (by kernel_rfl) (by kernel_rfl) (by kernel_rfl) (fun _ _ _ h => h) (Or.inl ⟨by rfl, ?_⟩) (by assumption) ?_
      rotate_left
      · intro w hSw; (try dsimp only at hSw); go_simp; (try with_reducible rfl)
      (try simp only [Act.put, List.getElem_toArray, List.getElem_cons_zero, List.getElem_cons_succ, Array.getInternal_eq_getElem, List.setIfInBounds_toArray, List.set_cons_zero, List.set_cons_succ])
      refine wpAnyH_take (i := 3) (v := ?_) rfl (by kernel_rfl) (by kernel_rfl) (by kernel_rfl) (fun _ _ _ h => h) (Or.inl ⟨by rfl, ?_⟩) (by assumption) ?_
      rotate_left
      · intro w hSw; (try dsimp only at hSw); go_simp; (try with_reducible rfl)
      (try simp only [Act.put, List.getElem_toArray, List.getElem_cons_zero, List.getElem_cons_succ, Array.getInternal_eq_getElem, List.setIfInBounds_toArray, List.set_cons_zero, List.set_cons_succ])
      refine wpAnyH_take (i := 4) (v := ?_) rfl (by kernel_rfl) (by kernel_rfl) (by kernel_rfl) (fun _ _ _ h => h) (Or.inl ⟨by rfl, ?_⟩) (by assumption) ?_
      rotate_left
      · intro w hSw; (try dsimp only at hSw); go_simp; (try with_reducible rfl)
      (try simp only [Act.put, List.getElem_toArray, List.getElem_cons_zero, List.getElem_cons_succ, Array.getInternal_eq_getElem, List.setIfInBounds_toArray, List.set_cons_zero, List.set_cons_succ])
      refine wpAnyH_take (i := 5) (v := ?_) rfl (by kernel_rfl) (by kernel_rfl) (by kernel_rfl) (fun _ _ _ h => h) (Or.inl ⟨by rfl, ?_⟩) (by assumption) ?_
      rotate_left
      · intro w hSw; (try dsimp only at hSw); go_simp; (try with_reducible rfl)
      (try simp only [Act.put, List.getElem_toArray, List.getElem_cons_zero, List.getElem_cons_succ, Array.getInternal_eq_getElem, List.setIfInBounds_toArray, List.set_cons_zero, List.set_cons_succ])
      refine wpAnyH_take (i := 6) (v := ?_) rfl (by kernel_rfl) (by kernel_rfl) (by kernel_rfl) (fun _ _ _ h => h) (Or.inl ⟨by rfl, ?_⟩) (by assumption) ?_
      rotate_left
      · intro w hSw; (try dsimp only at hSw); go_simp; (try with_reducible rfl)
      (try simp only [Act.put, List.getElem_toArray, List.getElem_cons_zero, List.getElem_cons_succ, Array.getInternal_eq_getElem, List.setIfInBounds_toArray, List.set_cons_zero, List.set_cons_succ])
      refine wpAnyH_take (i := 7) (v := ?_) rfl (by kernel_rfl) (by kernel_rfl) (by kernel_rfl) (fun _ _ _ h => h) (Or.inl ⟨by rfl, ?_⟩) (by assumption) ?_
      rotate_left
      · intro w hSw; (try dsimp only at hSw); go_simp; (try with_reducible rfl)
      (try simp only [Act.put, List.getElem_toArray, List.getElem_cons_zero, List.getElem_cons_succ, Array.getInternal_eq_getElem, List.setIfInBounds_toArray, List.set_cons_zero, List.set_cons_succ])
      refine wpAnyH_take (i := 8) (v := ?_) rfl (by kernel_rfl) (by kernel_rfl) (by kernel_rfl) (fun _ _ _ h => h) (Or.inl ⟨by rfl, ?_⟩) (by assumption) ?_
      rotate_left
      · intro w hSw; (try dsimp only at hSw); go_simp; (try with_reducible rfl)
      (try simp only [Act.put, List.getElem_toArray, List.getElem_cons_zero, List.getElem_cons_succ, Array.getInternal_eq_getElem, List.setIfInBounds_toArray, List.set_cons_zero, List.set_cons_succ])
      refine wpAnyH_take (i := 9) (v := ?_) rfl (by kernel_rfl) (by kernel_rfl) (by kernel_rfl) (fun _ _ _ h => h) (Or.inl ⟨by rfl, ?_⟩) (by assumption) ?_
      rotate_left
      · intro w hSw; (try dsimp only at hSw); go_simp; (try with_reducible rfl)
      (try simp only [Act.put, List.getElem_toArray, List.getElem_cons_zero, List.getElem_cons_succ, Array.getInternal_eq_getElem, List.setIfInBounds_toArray, List.set_cons_zero, List.set_cons_succ])
      refine wpAnyH_ready (rs := [10]) (by kernel_rfl) (by simp) ?_
      refine AllReadyH.cons rfl (fun K hK => ?_) AllReadyH.nil
      go_simp
      refine (HST.out _ hHeld.2).mono ?_
      rintro e wa ⟨bb, rfl, hbi, hba⟩
      have HBI := Lib.hid hbi
      clear hbi
      obtain ⟨q0, q1, q2, q3, q4, q5, q6, q7, q8, q9⟩ := hHeld.1
      refine hK.out _ _ ⟨⟨kc hba q0, kc hba q1, kc hba q2, kc hba q3, kc hba q4, kc hba q5, kc hba q6, kc hba q7, kc hba q8, kc hba q9⟩, chain hHeld.2 hba⟩ (fun hHeld => ?_)
      clear hba q0 q1 q2 q3 q4 q5 q6 q7 q8 q9
      clear hK K
      (try simp only [Act.put, List.getElem_toArray, List.getElem_cons_zero, List.getElem_cons_succ, Array.getInternal_eq_getElem, List.setIfInBounds_toArray, List.set_cons_zero, List.set_cons_succ])
      refine wpAnyH_take (i := 11) (v := ?_) rfl (by kernel_rfl) (by kernel_rfl) (by kernel_rfl) (fun _ _ _ h => h) (Or.inl ⟨by rfl, ?_⟩) (by assumption) ?_
      rotate_left
      · intro w hSw; (try dsimp only at hSw); go_simp; (try with_reducible rfl)
      (try simp only [Act.put, List.getElem_toArray, List.getElem_cons_zero, List.getElem_cons_succ, Array.getInternal_eq_getElem, List.setIfInBounds_toArray, List.set_cons_zero, List.set_cons_succ])
      refine wpAnyH_done (by kernel_rfl) ?_ _
      have hE := chain hB hHeld.2
      have hE1 := chain hW hHeld.2
      clear hHeld
      cases bb with
      | true =>
        have HE := Lib.hid (HT.out (HBI.out.1 rfl))
        go_wp2
        go_roundw
        case rel => exact ⟨k + 1, by omega, by go_num, HE.out, hE, hE1⟩
        case measure => simp [intOf]; omega
      | false =>
        have HR := Lib.hid (HNE.out (fun h => HF.out (fun e => by have := HBI.out.2 e; cases this) h.2))
        go_wp2
        go_ret
        exact ⟨false, rfl, ⟨fun h => (by cases h), fun h => absurd h HR.out⟩, hE⟩
    · obtain rfl : n = k := by omega
      have HR := Lib.hid (HEQ.out HM1.out (show at' = ct' from by
        have h1 := List.take_length (l := at')
        have h2 := List.take_length (l := ct')
        rw [HNN.out] at h1
        rw [← HN.out] at h2
        rw [← h1, ← h2]; exact he))
      clear g3 g6 he
      go_wp2
      go_ret
      exact ⟨true, rfl, ⟨fun _ => HR.out, fun _ => rfl⟩, hB⟩
  · have HR := Lib.hid (HNE.out (fun h => hl (by rw [h.2])))
    have q1 : ((at'.length : Int) != (ct'.length : Int)) = true := by
      rw [bne, beq_eq_false_iff_ne.2 (by omega)]; rfl
    clear g3 g6
    go_wp2
    go_ret
    exact ⟨false, rfl, ⟨fun h => (by cases h), fun h => absurd h HR.out⟩, hB⟩
end Go.Proofs.YtmpjcfehabnhgaaDoor
