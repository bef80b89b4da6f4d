/-
  enc.writer: what is laid behind the numbers that are there.
-/
import Derived.Test.YtbffjhdocicfoaaScP
import Derived.Test.YtbffjhdocicfoaaScX
import Derived.Test.YtbffjhdocicfoaaK10
namespace Go.Proofs.Ytbffjhdocicfoaa
open Go.RowKit
set_option linter.unusedVariables false
set_option linter.unusedSimpArgs false
open BfM (Wr)
open ScM
open EnM

def bN (b : Bool) : Int := if b then 1 else 0
/-- What a writer in block g leaves as it was: what lay below B, and all blocks but its own and rows of numbers. -/
def KpW (B g : Nat) (W W' : World) : Prop := Below B W W' ∧ ∀ k cs T fr, W.heap[k]? = some (.cells cs T fr) → T ≠ 3 → k ≠ g → W'.heap[k]? = W.heap[k]?
theorem KpW.refl (B g : Nat) (W : World) : KpW B g W W := ⟨Below.refl _ _, fun _ _ _ _ _ _ _ => rfl⟩
theorem KpW.trans {B g : Nat} {a b c : World} (h : KpW B g a b) (k : KpW B g b c) : KpW B g a c :=
  ⟨h.1.trans k.1, fun i cs T fr e1 e2 e3 => by
    have e := h.2 i cs T fr e1 e2 e3
    exact (k.2 i cs T fr (e.trans e1) e2 e3).trans e⟩
theorem KpW.box {B g b : Nat} {W W' : World} {T : TypeId} {cs : Array Value} (h : KpW B g W W') (hb : BoxC W b T cs) (hT : T ≠ 3) (hne : b ≠ g) : BoxC W' b T cs := (h.2 b cs T (0, 0) hb hT hne).trans hb
theorem KpW.al {B g : Nat} {W W' : World} (h : KpW B g W W') (hB : B ≤ W.heap.size) (o : Obj) : KpW B g W (W'.alloc o) :=
  ⟨h.1.alloc (Nat.le_trans hB h.1.size) o, fun k cs T fr e1 e2 e3 => by
    have e := h.2 k cs T fr e1 e2 e3
    have hlt : k < W'.heap.size := (Array.getElem?_eq_some_iff.1 (e.trans e1)).1
    exact ((below_al (Below.refl _ W') o).block k hlt).trans e⟩
/-- A writer in block g, that holds these numbers. -/
def WtS (base g : Nat) (W : World) (ns : List Int) : Prop := base ≤ g ∧ ∃ v, BoxC W g 138 #[v] ∧ OwnI base W v ns
theorem WtS.below {base g : Nat} {W W' : World} {ns : List Int} (h : WtS base g W ns) (hb : Below W.heap.size W W') : WtS base g W' ns := by
  obtain ⟨h0, v, h1, h2⟩ := h
  exact ⟨h0, v, h1.below hb h1.lt, own_below h2 hb⟩
theorem WtS.lt {base g : Nat} {W : World} {ns : List Int} (h : WtS base g W ns) : g < W.heap.size := by obtain ⟨_, v, h, _⟩ := h; exact h.lt
/-- Behind an append to its row, and a store. -/
theorem kpw_app {base g c n : Nat} {w w1 : World} {A : Option Addr} {T : TypeId} {cs : Array Value} {xs : List Value} {o : Obj} {x : Value} (hg : base ≤ g) (hb : BoxC w g T cs)
    (ho : w.ownsRow base 3 1 (.slice A n c) n xs) (h : (w.alloc o).grownBy w1 (Value.slice A n c).ownBlock) : KpW base g w (w1.setCell ⟨g, 0, none⟩ x) := by
  have h1 : KpW base g w (w.alloc o) := (KpW.refl base g w).al (Nat.le_trans hg (Nat.le_of_lt hb.lt)) o
  have h2 : KpW base g (w.alloc o) w1 := by
    have hal := below_al (Below.refl w.heap.size w) o
    have ho' := own_below ho hal
    refine ⟨⟨h.os, h.tape, h.output, h.size, fun k hk => h.block k (by have := hal.size; have := hb.lt; omega) (fun e => ?_)⟩, fun k cs T fr e1 e2 e3 => h.block k (Array.getElem?_eq_some_iff.1 e1).1 (fun e => ?_)⟩
    · have := (ho'.lt k e.symm).1; omega
    · rcases ho'.2 with ⟨e4, _⟩ | ⟨g1, c1, cur1, e4, _, hh1, _⟩
      · rw [e4] at e; cases e
      · rw [e4] at e; injection e with e
        have e : k = g1 := e
        subst e
        rw [hh1] at e1; injection e1 with e1; injection e1 with _ e1
        exact e2 e1.symm
  have h3 : KpW base g w1 (w1.setCell ⟨g, 0, none⟩ x) :=
    ⟨(Below.refl base w1).setCell (p := ⟨g, 0, none⟩) hg x, fun k cs T fr e1 e2 e3 => heap_setCell_other w1 ⟨g, 0, none⟩ k x e3⟩
  exact (h1.trans h2).trans h3
set_option maxHeartbeats 4000000 in
set_option maxRecDepth 100000 in
theorem wnumber_any {base g : Nat} {ns : List Int} (n : Int) (w : World) (h : WtS base g w ns) (hl : ns.length ≤ 1000000000) :
    Calls Try.prog 95 #[.pointer (some ⟨g, 0, none⟩), .int .i64 n] w fun e w' => e = .returned (.tuple #[]) ∧ WtS base g w' (ns ++ [n]) ∧ KpW base g w w' := by
  obtain ⟨i0, hi, hz0, hz1, hz2⟩ := info_parts info_nu
  have hlt := h.lt
  obtain ⟨hg, v, hb, ho⟩ := h
  obtain ⟨A, c, rfl⟩ := own_slice ho
  have c0 := hb.cell 0 _ rfl
  have hbA := below_al (Below.refl w.heap.size w) (.cells #[.int .i64 n] 3)
  have HB := Lib.hid hb
  have HO := Lib.hid ho
  clear hb ho
  go_enter Try.func95, Try.ntmps95
  go_wp2_with (at_builtin; refine wpList_append_own _ rfl _ _ 22 rfl base 3 i0 (.int .i64 0) 1 8 Try.underlying22 hi hz0 hz1 hz2 rfl (by decide) _ _ _ rfl (HO.out.alloc _) ⟨w.heap.size, 0, none⟩ 1 1 [.int .i64 n] rfl rfl (cell_one_new _ _ _) (by simp [Value.oneCell']) (by unfold maxLen; omega) (by omega) (by simp; omega) ?_; intro v1 w1 hown1 hg1 _; obtain ⟨A1, c1, rfl⟩ := own_slice hown1; have hb1 := (HB.out.alloc (.cells #[.int .i64 n] 3)).grown (by decide) (HO.out.alloc _) hg1; have fz := hb1.frozen 0; have d0 := hb1.cell 0 _ rfl)
  have hk1 := kpw_app (x := .slice A1 (ns.length + 1) c1) hg HB.out HO.out hg1
  have hlen : (ns ++ [n]).length = ns.length + 1 := by simp
  refine bodyPost_end (v := .tuple #[]) (by simp [results, Try.results95, go_sem]) rfl ?_
  refine ⟨rfl, ⟨hg, _, hb1.set 0 _, ?_⟩, hk1⟩
  have := own_box (x := .slice A1 (ns.length + 1) c1) hown1 hb1 (by decide) 0
  unfold OwnI
  rw [hlen, List.flatMap_append]
  exact this
theorem WtS.al {base g : Nat} {W : World} {ns : List Int} (h : WtS base g W ns) (o : Obj) : WtS base g (W.alloc o) ns := h.below (below_al (Below.refl _ _) o)
theorem WtS.base {base g : Nat} {W : World} {ns : List Int} (h : WtS base g W ns) : base ≤ W.heap.size := Nat.le_trans h.1 (Nat.le_of_lt h.lt)
theorem WtS.eq {base g : Nat} {W : World} {ns ms : List Int} (h : WtS base g W ns) (e : ns = ms) : WtS base g W ms := e ▸ h
set_option maxHeartbeats 4000000 in
set_option maxRecDepth 100000 in
theorem wtruth_any {base g : Nat} {ns : List Int} (b : Bool) (w : World) (h : WtS base g w ns) (hl : ns.length ≤ 1000000000) :
    Calls Try.prog 103 #[.pointer (some ⟨g, 0, none⟩), .bool b] w fun e w' => e = .returned (.tuple #[]) ∧ WtS base g w' (ns ++ [bN b]) ∧ KpW base g w w' := by
  have H1 := Lib.hid (fun (n : Int) => wnumber_any n w h hl)
  go_enter Try.func103, Try.ntmps103
  cases b
  · go_wp2_with (go_at_call 95; refine (H1.out 0).mono ?_)
    rintro e w1 ⟨rfl, h1, k1⟩
    go_wp2
    refine bodyPost_end (v := .tuple #[]) (by simp [results, Try.results103, go_sem]) rfl ?_
    exact ⟨rfl, h1, k1⟩
  · go_wp2_with (go_at_call 95; refine (H1.out 1).mono ?_)
    rintro e w1 ⟨rfl, h1, k1⟩
    go_wp2
    refine bodyPost_end (v := .tuple #[]) (by simp [results, Try.results103, go_sem]) rfl ?_
    exact ⟨rfl, h1, k1⟩
set_option maxHeartbeats 4000000 in
set_option maxRecDepth 100000 in
theorem wwrite_any {base g : Nat} {ns : List Int} (x : Wr) (w : World) (h : WtS base g w ns) (hl : ns.length ≤ 999999999) :
    Calls Try.prog 105 #[.pointer (some ⟨g, 0, none⟩), .agg #[.int .i64 x.loc, .int .i64 x.n]] w fun e w' => e = .returned (.tuple #[]) ∧ WtS base g w' (ns ++ [x.loc, x.n]) ∧ KpW base g w w' := by
  obtain ⟨xl, xn⟩ := x
  have hbx := BoxC.new w 135 #[.int .i64 xl, .int .i64 xn]
  have hne : w.heap.size ≠ g := fun e => by have := h.lt; omega
  have hk0 := (KpW.refl base g w).al h.base (.cells #[.int .i64 xl, .int .i64 xn] 135)
  have c0 := hbx.cell 0 _ rfl
  have c1 := hbx.cell 1 _ rfl
  have H1 := Lib.hid (wnumber_any xl _ (h.al (.cells #[.int .i64 xl, .int .i64 xn] 135)) (by omega))
  go_enter Try.func105, Try.ntmps105
  go_wp2_with (go_at_call 95; refine H1.out.mono ?_)
  rintro e w1 ⟨rfl, h1, k1⟩
  have hb1 := k1.box hbx (by decide) hne
  have hk1 := hk0.trans k1
  clear c0 c1 H1
  have c0 := hb1.cell 0 _ rfl
  have c1 := hb1.cell 1 _ rfl
  have hl2 : (ns ++ [xl]).length ≤ 1000000000 := by simp; omega
  have H1 := Lib.hid (wnumber_any xn w1 h1 hl2)
  go_wp2_with (go_at_call 95; refine H1.out.mono ?_)
  rintro e w2 ⟨rfl, h2, k2⟩
  go_wp2
  refine bodyPost_end (v := .tuple #[]) (by simp [results, Try.results105, go_sem]) rfl ?_
  exact ⟨rfl, h2.eq (by simp), hk1.trans k2⟩
def EnRel (base g : Nat) (ns : List Int) (f : Nat → List Int) (n : Nat) (w : World) (i : Value) (wr : World) : Prop :=
  ∃ k : Nat, k ≤ n ∧ i = .int .i64 k ∧ WtS base g wr (ns ++ (n : Int) :: f k) ∧ KpW base g w wr
set_option maxHeartbeats 8000000 in
set_option maxRecDepth 100000 in
theorem wints_any {B base g : Nat} {ns m : List Int} {v : Value} (w : World) (h : WtS base g w ns) (hv : IntR B w v m) (hBB : B ≤ base) (hl : ns.length + m.length ≤ 999999999) :
    Calls Try.prog 94 #[.pointer (some ⟨g, 0, none⟩), v, .func (.func 95) #[.pointer (some ⟨g, 0, none⟩)] #[]] w fun e w' => e = .returned (.tuple #[]) ∧ WtS base g w' (ns ++ rowN m) ∧ KpW base g w w' := by
  have H1 := Lib.hid (wnumber_any (m.length : Int) w h (by omega))
  obtain ⟨A1, c1, rfl, ha1, ha2, -, ha3⟩ := hv
  unfold maxLen at ha2
  have ha3 := nu_at (c := c1) ha3
  have HW := Lib.hid (fun (n : Int) (k : Nat) (hk : k < m.length) W (hW : WtS base g W (ns ++ (m.length : Int) :: m.take k)) => wnumber_any n W hW (by simp; omega))
  clear h
  go_enter Try.func94, Try.ntmps94
  go_wp2_with (go_at_call 95; refine H1.out.mono ?_)
  rintro e w1 ⟨rfl, h1, k1⟩
  go_wp2
  go_loopw [14] (fun i wr => EnRel base g ns (fun k => m.take k) m.length w i wr) (fun i _ => m.length - (intOf i).toNat)
  case atStart => exact ⟨0, Nat.zero_le _, rfl, h1.eq (by simp), k1⟩
  case round =>
    obtain ⟨k, hk, rfl, hw, hK⟩ := hrel
    by_cases hlt : k < m.length
    · obtain ⟨b1, f1, rfl, hl1, hc1⟩ := ha3 (by omega)
      have d1 := ((hK.1.mono hBB).cell (p := ⟨b1, f1 + k, none⟩) hl1).trans (hc1 k hlt)
      have HT := Lib.hid (show m.take (k + 1) = m.take k ++ [m[k]] from List.take_succ_eq_append_getElem hlt)
      obtain ⟨x, hx⟩ : ∃ x, x = m[k] := ⟨_, rfl⟩
      rw [← hx] at d1 HT
      have HC := Lib.hid (HW.out x k hlt wr hw)
      clear hx hc1 ha3 hw H1 h1 k1
      go_wp2_with fail
      refine HC.out.mono ?_
      rintro e w2 ⟨rfl, h2, k2⟩
      have hK2 := hK.trans k2
      clear hK k2 HC d1
      go_wp2
      go_roundw
      case rel => exact ⟨k + 1, by omega, by go_num, h2.eq (by show _ = ns ++ (m.length : Int) :: m.take (k + 1); rw [HT.out]; simp), hK2⟩
      case measure => simp [intOf]; omega
    · obtain rfl : m.length = k := by omega
      replace hw : WtS base g wr (ns ++ (m.length : Int) :: m.take m.length) := hw
      rw [List.take_length] at hw
      clear ha3
      go_wp2
      refine bodyPost_end (v := .tuple #[]) (by simp [results, Try.results94, go_sem]) rfl ?_
      exact ⟨rfl, hw.eq (by simp [rowN]), hK⟩
theorem wrN_take (b : List Wr) (k : Nat) (h : k < b.length) : wrN (b.take (k + 1)) = wrN (b.take k) ++ [b[k].loc, b[k].n] := by
  rw [List.take_succ_eq_append_getElem h, wrN, List.flatMap_append]; simp [wrN]
theorem wrN_take_len (b : List Wr) (k : Nat) (h : k ≤ b.length) : (wrN (b.take k)).length = 2 * k := by rw [wrN_len, List.length_take]; omega
set_option maxHeartbeats 8000000 in
set_option maxRecDepth 100000 in
theorem wwrites_any {B base g : Nat} {ns : List Int} {m : List Wr} {v : Value} (w : World) (h : WtS base g w ns) (hv : WrR B w v m) (hBB : B ≤ base) (hl : ns.length + 2 * m.length ≤ 999999990) :
    Calls Try.prog 104 #[.pointer (some ⟨g, 0, none⟩), v, .func (.func 105) #[.pointer (some ⟨g, 0, none⟩)] #[]] w fun e w' => e = .returned (.tuple #[]) ∧ WtS base g w' (ns ++ (m.length : Int) :: wrN m) ∧ KpW base g w w' := by
  have hBw := h.base
  have H1 := Lib.hid (wnumber_any (m.length : Int) w h (by omega))
  obtain ⟨A1, c1, rfl, ha1, ha2, -, ha3⟩ := hv
  unfold maxLen at ha2
  have ha3 := wr_at (c := c1) ha3
  have HW := Lib.hid (fun (x : Wr) (k : Nat) (hk : k < m.length) W (hW : WtS base g W (ns ++ (m.length : Int) :: wrN (m.take k))) => wwrite_any x W hW (by rw [List.length_append, List.length_cons, wrN_take_len _ _ (Nat.le_of_lt hk)]; omega))
  clear h
  go_enter Try.func104, Try.ntmps104
  go_wp2_with (go_at_call 95; refine H1.out.mono ?_)
  rintro e w1 ⟨rfl, h1, k1⟩
  go_wp2
  go_loopw [14] (fun i wr => EnRel base g ns (fun k => wrN (m.take k)) m.length w i wr) (fun i _ => m.length - (intOf i).toNat)
  case atStart => exact ⟨0, Nat.zero_le _, rfl, h1.eq (by simp [wrN]), k1⟩
  case round =>
    obtain ⟨k, hk, rfl, hw, hK⟩ := hrel
    by_cases hlt : k < m.length
    · obtain ⟨b1, f1, rfl, hl1, hc1⟩ := ha3 (by omega)
      obtain ⟨p0, p1⟩ := hc1 k hlt
      have d1 := ((hK.1.mono hBB).cell (p := ⟨b1, f1 + k * 2, none⟩) hl1).trans p0
      have d2 := ((hK.1.mono hBB).cell (p := ⟨b1, f1 + k * 2 + 1, none⟩) hl1).trans p1
      have HT := Lib.hid (wrN_take m k hlt)
      obtain ⟨x, hx⟩ : ∃ x, x = m[k] := ⟨_, rfl⟩
      rw [← hx] at d1 d2 HT
      have hA := hw.al (.cells #[.int .i64 x.loc, .int .i64 x.n] 135)
      have HC := Lib.hid (HW.out x k hlt _ hA)
      have hKA := hK.al hBw (.cells #[.int .i64 x.loc, .int .i64 x.n] 135)
      clear hx hc1 ha3 hw H1 h1 k1 p0 p1 hA
      go_wp2_with fail
      refine HC.out.mono ?_
      rintro e w2 ⟨rfl, h2, k2⟩
      have hK2 := hKA.trans k2
      clear hK hKA k2 HC d1 d2
      go_wp2
      go_roundw
      case rel => exact ⟨k + 1, by omega, by go_num, h2.eq (by show _ = ns ++ (m.length : Int) :: wrN (m.take (k + 1)); rw [HT.out]; simp), hK2⟩
      case measure => simp [intOf]; omega
    · obtain rfl : m.length = k := by omega
      replace hw : WtS base g wr (ns ++ (m.length : Int) :: wrN (m.take m.length)) := hw
      rw [List.take_length] at hw
      clear ha3
      go_wp2
      refine bodyPost_end (v := .tuple #[]) (by simp [results, Try.results104, go_sem]) rfl ?_
      exact ⟨rfl, hw, hK⟩
set_option maxHeartbeats 8000000 in
set_option maxRecDepth 100000 in
theorem wthread_any {B base g : Nat} {ns : List Int} {t : Th} {v : Value} (w : World) (h : WtS base g w ns) (hv : ThV B w v t) (hBB : B ≤ base) (hl : ns.length + (thN t).length ≤ 999999980) :
    Calls Try.prog 97 #[.pointer (some ⟨g, 0, none⟩), v] w fun e w' => e = .returned (.tuple #[]) ∧ WtS base g w' (ns ++ thN t) ∧ KpW base g w w' := by
  obtain ⟨vr, vb, rfl, hr, hb⟩ := hv
  obtain ⟨ta, tr, te, tb⟩ := t
  rw [thN_len] at hl
  dsimp only at hl hr hb
  have hBw := h.base
  have HR := Lib.hid (fun W (hK : KpW base g w W) (ms : List Int) (hm : WtS base g W ms) (he : ms.length = ns.length + 2) => wints_any W hm (hr.below (hK.1.mono hBB)) hBB (by omega))
  have HB := Lib.hid (fun W (hK : KpW base g w W) (ms : List Int) (hm : WtS base g W ms) (he : ms.length = ns.length + 3 + tr.length) => wwrites_any W hm (hb.below (hK.1.mono hBB)) hBB (by omega))
  obtain ⟨A1, c1, rfl, -⟩ := hr
  obtain ⟨A2, c2, rfl, -⟩ := hb
  have hbx := BoxC.new w 94 #[.int .i64 ta, .slice A1 tr.length c1, .bool te, .slice A2 tb.length c2]
  have hne : w.heap.size ≠ g := fun e => by have := h.lt; omega
  have hk0 := (KpW.refl base g w).al hBw (.cells #[.int .i64 ta, .slice A1 tr.length c1, .bool te, .slice A2 tb.length c2] 94)
  have H1 := Lib.hid (wnumber_any ta _ (h.al (.cells #[.int .i64 ta, .slice A1 tr.length c1, .bool te, .slice A2 tb.length c2] 94)) (by omega))
  have c0 := hbx.cell 0 _ rfl
  clear h
  go_enter Try.func97, Try.ntmps97
  go_wp2_with (go_at_call 95; refine H1.out.mono ?_)
  rintro e w1 ⟨rfl, h1, k1⟩
  have hb1 := k1.box hbx (by decide) hne
  have hk1 := hk0.trans k1
  have H2 := Lib.hid (wtruth_any te w1 h1 (by simp; omega))
  clear c0 H1 hk0 k1 hbx h1
  have c0 := hb1.cell 2 _ rfl
  go_wp2_with (go_at_call 103; refine H2.out.mono ?_)
  rintro e w2 ⟨rfl, h2, k2⟩
  have hb2 := k2.box hb1 (by decide) hne
  have hk2 := hk1.trans k2
  have H3 := Lib.hid (HR.out w2 hk2 _ h2 (by simp))
  clear c0 H2 hk1 k2 hb1 h2 HR
  have c0 := hb2.cell 1 _ rfl
  go_wp2_with (go_at_call 94; refine H3.out.mono ?_)
  rintro e w3 ⟨rfl, h3, k3⟩
  have hb3 := k3.box hb2 (by decide) hne
  have hk3 := hk2.trans k3
  have H4 := Lib.hid (HB.out w3 hk3 _ h3 (by simp [rowN]; omega))
  clear c0 H3 hk2 k3 hb2 h3 HB
  have c0 := hb3.cell 3 _ rfl
  go_wp2_with (go_at_call 104; refine H4.out.mono ?_)
  rintro e w4 ⟨rfl, h4, k4⟩
  have hk4 := hk3.trans k4
  clear c0 H4 hk3 k4 hb3
  go_wp2
  refine bodyPost_end (v := .tuple #[]) (by simp [results, Try.results97, go_sem]) rfl ?_
  exact ⟨rfl, h4.eq (by simp [thN, rowN, bN]), hk4⟩
theorem ths_take (l : List Th) (k : Nat) (h : k < l.length) : (l.take (k + 1)).flatMap thN = (l.take k).flatMap thN ++ thN l[k] := by
  rw [List.take_succ_eq_append_getElem h, List.flatMap_append]; simp
theorem ths_take_len (l : List Th) (k : Nat) (h : k < l.length) : ((l.take k).flatMap thN).length + (thN l[k]).length ≤ (l.flatMap thN).length := by
  have h1 := congrArg List.length (ths_take l k h)
  have h2 : l.flatMap thN = (l.take (k + 1)).flatMap thN ++ (l.drop (k + 1)).flatMap thN := by rw [← List.flatMap_append, List.take_append_drop]
  have h3 := congrArg List.length h2
  rw [List.length_append] at h1 h3
  omega
set_option maxHeartbeats 8000000 in
set_option maxRecDepth 100000 in
theorem wths_any {B base g : Nat} {ns : List Int} {m : List Th} {v : Value} (w : World) (h : WtS base g w ns) (hv : ThR B w v m) (hBB : B ≤ base) (hl : ns.length + (m.flatMap thN).length ≤ 999999970) :
    Calls Try.prog 96 #[.pointer (some ⟨g, 0, none⟩), v, .func (.func 97) #[.pointer (some ⟨g, 0, none⟩)] #[]] w fun e w' => e = .returned (.tuple #[]) ∧ WtS base g w' (ns ++ (m.length : Int) :: m.flatMap thN) ∧ KpW base g w w' := by
  have hBw := h.base
  have H1 := Lib.hid (wnumber_any (m.length : Int) w h (by omega))
  obtain ⟨A1, c1, rfl, ha1, ha2, -, ha3⟩ := hv
  unfold maxLen at ha2
  have HW := Lib.hid (fun (u : Value) (k : Nat) (hk : k < m.length) W (hu : ThV B W u m[k]) (hW : WtS base g W (ns ++ (m.length : Int) :: (m.take k).flatMap thN)) => wthread_any W hW hu hBB (by have := ths_take_len m k hk; rw [List.length_append, List.length_cons]; omega))
  clear h
  go_enter Try.func96, Try.ntmps96
  go_wp2_with (go_at_call 95; refine H1.out.mono ?_)
  rintro e w1 ⟨rfl, h1, k1⟩
  go_wp2
  go_loopw [14] (fun i wr => EnRel base g ns (fun k => (m.take k).flatMap thN) m.length w i wr) (fun i _ => m.length - (intOf i).toNat)
  case atStart => exact ⟨0, Nat.zero_le _, rfl, h1.eq (by simp), k1⟩
  case round =>
    obtain ⟨k, hk, rfl, hw, hK⟩ := hrel
    by_cases hlt : k < m.length
    · obtain ⟨b1, f1, rfl, hl1, hc1⟩ := ha3 (by omega)
      obtain ⟨vr, vb, d0, d1, d2, d3, hr, hb⟩ := (hc1 k hlt).below (hK.1.mono hBB) hl1
      have HT := Lib.hid (ths_take m k hlt)
      have hA := hw.al (.cells #[.int .i64 m[k].at', vr, .bool m[k].eq, vb] 94)
      have hKA := hK.al hBw (.cells #[.int .i64 m[k].at', vr, .bool m[k].eq, vb] 94)
      have hbn := (below_al (Below.refl wr.heap.size wr) (.cells #[.int .i64 m[k].at', vr, .bool m[k].eq, vb] 94)).mono (Nat.le_trans hBB (Nat.le_trans hBw hK.1.size))
      have HC := Lib.hid (HW.out (.agg #[.int .i64 m[k].at', vr, .bool m[k].eq, vb]) k hlt _ ⟨vr, vb, rfl, hr.below hbn, hb.below hbn⟩ hA)
      have HCC := Lib.hid (box4 (w := wr) (.int .i64 m[k].at') vr (.bool m[k].eq) vb 94)
      obtain ⟨A2, c2, rfl, -⟩ := hr
      obtain ⟨A3, c3, rfl, -⟩ := hb
      obtain ⟨x, hx⟩ : ∃ x, x = m[k] := ⟨_, rfl⟩
      rw [← hx] at d0 d1 d2 d3 HT HC hKA HCC
      obtain ⟨x0, x1, x2, x3⟩ := HCC.out
      clear hx hc1 ha3 hw H1 h1 k1 hA hbn HW
      go_wp2_with fail
      refine HC.out.mono ?_
      rintro e w2 ⟨rfl, h2, k2⟩
      have hK2 := hKA.trans k2
      clear hK hKA k2 HC d0 d1 d2 d3 x0 x1 x2 x3 HCC
      go_wp2
      go_roundw
      case rel => exact ⟨k + 1, by omega, by go_num, h2.eq (by show _ = ns ++ (m.length : Int) :: (m.take (k + 1)).flatMap thN; rw [HT.out]; simp), hK2⟩
      case measure => simp [intOf]; omega
    · obtain rfl : m.length = k := by omega
      replace hw : WtS base g wr (ns ++ (m.length : Int) :: (m.take m.length).flatMap thN) := hw
      rw [List.take_length] at hw
      clear ha3
      go_wp2
      refine bodyPost_end (v := .tuple #[]) (by simp [results, Try.results96, go_sem]) rfl ?_
      exact ⟨rfl, hw, hK⟩
set_option maxHeartbeats 8000000 in
set_option maxRecDepth 100000 in
theorem wstate_any {B base g : Nat} {ns : List Int} {s : Sta} {v : Value} (w : World) (h : WtS base g w ns) (hv : StaV B w v s) (hBB : B ≤ base) (hl : ns.length + (numsS s).length ≤ 999999900) :
    Calls Try.prog 80 #[.pointer (some ⟨g, 0, none⟩), v] w fun e w' => e = .returned (.tuple #[]) ∧ WtS base g w' (ns ++ numsS s) ∧ KpW base g w w' := by
  obtain ⟨vm, vt, rfl, hm, ht⟩ := hv
  obtain ⟨m, ts⟩ := s
  have hl2 : ns.length + m.length + (ts.flatMap thN).length + 2 ≤ 999999900 := by simp only [numsS, rowN, List.length_append, List.length_cons] at hl; omega
  dsimp only at hm ht
  have hBw := h.base
  have HT := Lib.hid (fun W (hK : KpW base g w W) (ms : List Int) (hm : WtS base g W ms) (he : ms.length = ns.length + 1 + m.length) => wths_any W hm (ht.below (hK.1.mono hBB)) hBB (by omega))
  have hk0 := (KpW.refl base g w).al hBw (.cells #[vm, vt] 62)
  have H1 := Lib.hid (wints_any _ (h.al (.cells #[vm, vt] 62)) (hm.below (hk0.1.mono hBB)) hBB (by omega))
  have hbx := BoxC.new w 62 #[vm, vt]
  have hne : w.heap.size ≠ g := fun e => by have := h.lt; omega
  obtain ⟨A1, c1, rfl, -⟩ := hm
  obtain ⟨A2, c2, rfl, -⟩ := ht
  have c0 := hbx.cell 0 _ rfl
  clear h
  go_enter Try.func80, Try.ntmps80
  go_wp2_with (go_at_call 94; refine H1.out.mono ?_)
  rintro e w1 ⟨rfl, h1, k1⟩
  have hb1 := k1.box hbx (by decide) hne
  have hk1 := hk0.trans k1
  have H2 := Lib.hid (HT.out w1 hk1 _ h1 (by simp [rowN]; omega))
  clear c0 H1 hk0 k1 hbx h1 HT
  have c0 := hb1.cell 1 _ rfl
  go_wp2_with (go_at_call 96; refine H2.out.mono ?_)
  rintro e w2 ⟨rfl, h2, k2⟩
  have hk2 := hk1.trans k2
  clear c0 H2 hk1 k2 hb1
  go_wp2
  refine bodyPost_end (v := .tuple #[]) (by simp [results, Try.results80, go_sem]) rfl ?_
  exact ⟨rfl, h2.eq (by simp [numsS, rowN]), hk2⟩
set_option maxHeartbeats 8000000 in
set_option maxRecDepth 100000 in
/-- The numbers of a state, in a row of the call's own. -/
theorem nums_any {B : Nat} {s : Sta} {v : Value} (w : World) (hv : StaV B w v s) (hBB : B ≤ w.heap.size) (hl : (numsS s).length ≤ 999999900) :
    Calls Try.prog 58 #[v] w fun e w' => ∃ u, e = .returned u ∧ OwnI w.heap.size w' u (numsS s) ∧ Below w.heap.size w w' := by
  obtain ⟨vm, vt, rfl, hm, ht⟩ := hv
  have hA := below_al (Below.refl w.heap.size w) (.cells #[vm, vt] 62)
  have hA2 := below_al hA (.cells #[.slice none 0 0] 138)
  have hs1 : (w.alloc (.cells #[vm, vt] 62)).heap.size = w.heap.size + 1 := by simp
  have hbw := BoxC.new (w.alloc (.cells #[vm, vt] 62)) 138 #[.slice none 0 0]
  rw [hs1] at hbw
  have hbx := (BoxC.new w 62 #[vm, vt]).alloc (.cells #[.slice none 0 0] 138)
  have hW : WtS w.heap.size (w.heap.size + 1) ((w.alloc (.cells #[vm, vt] 62)).alloc (.cells #[.slice none 0 0] 138)) [] := ⟨by omega, _, hbw, World.ownsRow_nil _ _ _ _⟩
  have H1 := Lib.hid (wstate_any _ hW ⟨vm, vt, rfl, StaM.below ⟨hm, ht⟩ (hA2.mono hBB)⟩ hBB (by simpa using hl))
  obtain ⟨A1, c1, rfl, -⟩ := hm
  obtain ⟨A2, c2, rfl, -⟩ := ht
  have c0 := hbx.cell 0 _ rfl
  have c1 := hbx.cell 1 _ rfl
  clear hW hbw hbx hA
  go_enter Try.func58, Try.ntmps58
  go_wp2_with (go_at_call 80; refine H1.out.mono ?_)
  rintro e w2 ⟨rfl, ⟨hg, u, hbu, hou⟩, k2⟩
  have hB2 := hA2.trans k2.1
  obtain ⟨A3, c3, rfl⟩ := own_slice hou
  clear c0 c1 H1 k2 hA2
  have c0 := hbu.cell 0 _ rfl
  go_wp2
  go_ret
  exact ⟨_, rfl, by simpa using hou, hB2⟩
end Go.Proofs.Ytbffjhdocicfoaa
