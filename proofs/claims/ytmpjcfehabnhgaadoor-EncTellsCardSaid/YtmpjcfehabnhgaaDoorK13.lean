/-
  A STATE'S KEY, as mathematics: its numbers' texts, with one blank between, and what is got from a text. (Ahead of layer 12.)
  enc.writer: what is laid behind the numbers that are there.
  num.Text and num.Get, over any world.
  enc.Key: the numbers' texts, with one blank between.
  enc.numbers, enc.Read: what state a text is the key of.
  enc.Read: what state a text is the key of.
-/
import Derived.Test.YtmpjcfehabnhgaaDoorK10
import Derived.Test.YtmpjcfehabnhgaaDoorK00
import Derived.Test.YtmpjcfehabnhgaaDoorScP
import Derived.Test.YtmpjcfehabnhgaaDoorScX
import Derived.Test.YtmpjcfehabnhgaaDoorEnB
import Derived.Test.YtmpjcfehabnhgaaDoorEnS
set_option linter.unusedVariables false
set_option linter.unusedSimpArgs false
namespace Go.Proofs.YtmpjcfehabnhgaaDoor
set_option linter.unusedVariables false
set_option linter.unusedSimpArgs false
namespace EnM
open ScM (Th Sta)
open BfM (Wr)
open NumM (inR text get)
open WordM (words)
local notation "Tx" => List UInt8

/-- The texts of numbers, with one blank between. -/
def keyL : List Int → Tx
  | [] => []
  | [n] => text n
  | n :: m :: r => text n ++ 32 :: keyL (m :: r)
/-- A state's key. -/
def keyS (s : Sta) : Tx := keyL (numsS s)
/-- The numbers of a text's words. -/
def numsK (k : Tx) : List Int := (words k).map fun x => (get x).1
/-- The state whose key this is. -/
def readK (k : Tx) : Option Sta := match ofN (numsK k) with
  | some s => if keyS s = k then some s else none
  | none => none

theorem text_free (n : Int) (h : inR n) : (32 : UInt8) ∉ text n ∧ text n ≠ [] := by
  have hn : n.natAbs < 10 ^ 20 := Nat.lt_trans (NumM.natAbs_lt n h) (by decide)
  have hd : (32 : UInt8) ∉ NumM.digs n.natAbs := fun e => by
    have := (NumM.digs_digit _ hn _ e).1
    exact absurd this (by decide)
  have he := NumM.digs_ne _ hn
  unfold text
  split
  · refine ⟨fun e => ?_, fun e => by cases e⟩
    rcases List.mem_cons.1 e with e | e
    · exact absurd e (by decide)
    · exact hd e
  · exact ⟨hd, he⟩
theorem words_key : ∀ (l : List Int), (∀ n ∈ l, inR n) → words (keyL l) = l.map text
  | [], _ => by rfl
  | [n], h => by
    have := text_free n (h n List.mem_cons_self)
    exact WordM.words_one _ this.1 this.2
  | n :: m :: r, h => by
    have h1 := text_free n (h n List.mem_cons_self)
    have h2 := words_key (m :: r) (fun x hx => h x (List.mem_cons_of_mem _ hx))
    show words (text n ++ 32 :: keyL (m :: r)) = _
    rw [WordM.words_cat, WordM.words_one _ h1.1 h1.2, h2]
    rfl
theorem numsK_key {l : List Int} (h : ∀ n ∈ l, inR n) : numsK (keyL l) = l := by
  unfold numsK
  rw [words_key l h, List.map_map]
  conv => rhs; rw [← List.map_id l]
  refine List.map_congr_left (fun n hn => ?_)
  show (get (text n)).1 = n
  rw [NumM.get_text n (h n hn)]
/-- Each state is got from its key. -/
theorem readK_ok {s : Sta} (h : ∀ n ∈ numsS s, inR n) : readK (keyS s) = some s := by
  have h1 : ofN (numsK (keyS s)) = some s := by unfold keyS; rw [numsK_key h]; exact ofN_ok s
  unfold readK
  rw [h1]
  exact if_pos rfl
theorem readK_inv {k : Tx} {s : Sta} (h : readK k = some s) : keyS s = k := by
  unfold readK at h
  split at h
  · split at h
    · rename_i hk
      injection h with h
      subst h
      exact hk
    · cases h
  · cases h
/-- Unlike states have unlike keys. -/
theorem keyS_inj {s t : Sta} (hs : ∀ n ∈ numsS s, inR n) (ht : ∀ n ∈ numsS t, inR n) (h : keyS s = keyS t) : s = t := by
  have := readK_ok hs
  rw [h, readK_ok ht] at this
  exact (Option.some.inj this).symm
/-- A blank ahead of each. -/
theorem keyL_blank : ∀ (l : List Int), l ≠ [] → 32 :: keyL l = l.flatMap fun n => 32 :: text n
  | [], h => absurd rfl h
  | [n], _ => by simp [keyL]
  | n :: m :: r, _ => by
    have := keyL_blank (m :: r) (by simp)
    rw [List.flatMap_cons, ← this]
    simp [keyL]
theorem wr_in {b : List Wr} (h : ∀ x ∈ b, inR x.loc ∧ inR x.n) : ∀ n ∈ wrN b, inR n := by
  intro n hn
  obtain ⟨x, hx, hn⟩ := List.mem_flatMap.1 hn
  rcases List.mem_cons.1 hn with rfl | hn
  · exact (h x hx).1
  · rcases List.mem_cons.1 hn with rfl | hn
    · exact (h x hx).2
    · cases hn
theorem len_in {n : Nat} (h : n ≤ 9223372036854775807) : inR (n : Int) := by unfold inR; omega
theorem th_in {t : Th} (ha : inR t.at') (hr : ∀ n ∈ t.regs, inR n) (hb : ∀ x ∈ t.buf, inR x.loc ∧ inR x.n) (h1 : t.regs.length ≤ 9223372036854775807) (h2 : t.buf.length ≤ 9223372036854775807) :
    ∀ n ∈ thN t, inR n := by
  intro n hn
  simp only [thN, rowN, List.mem_cons, List.mem_append] at hn
  rcases hn with rfl | rfl | ((rfl | hn) | (rfl | hn))
  · exact ha
  · unfold inR; split <;> omega
  · exact len_in h1
  · exact hr n hn
  · exact len_in h2
  · exact wr_in hb n hn
theorem nums_in {s : Sta} (hm : ∀ n ∈ s.mem, inR n) (h1 : s.mem.length ≤ 9223372036854775807) (h2 : s.ths.length ≤ 9223372036854775807) (ht : ∀ t ∈ s.ths, ∀ n ∈ thN t, inR n) : ∀ n ∈ numsS s, inR n := by
  intro n hn
  simp only [numsS, rowN, List.mem_cons, List.mem_append] at hn
  rcases hn with (rfl | hn) | (rfl | hn)
  · exact len_in h1
  · exact hm n hn
  · exact len_in h2
  · obtain ⟨t, htm, hn⟩ := List.mem_flatMap.1 hn
    exact ht t htm n hn
theorem keyL_len : ∀ (l : List Int), (∀ n ∈ l, inR n) → (keyL l).length ≤ 21 * l.length
  | [], _ => Nat.le_refl _
  | [n], h => by
    have := NumM.text_len n (h n List.mem_cons_self)
    simp only [keyL, List.length_cons, List.length_nil]; omega
  | n :: m :: r, h => by
    have h1 := NumM.text_len n (h n List.mem_cons_self)
    have h2 := keyL_len (m :: r) (fun x hx => h x (List.mem_cons_of_mem _ hx))
    simp only [keyL, List.length_append, List.length_cons] at h2 ⊢; omega
theorem thN_len (t : Th) : (thN t).length = 4 + t.regs.length + 2 * t.buf.length := by
  simp only [thN, rowN, List.length_append, List.length_cons, wrN_len]; omega
theorem ths_most {M : Nat} : ∀ (l : List Th), (∀ t ∈ l, (thN t).length ≤ M) → (l.flatMap thN).length ≤ l.length * M
  | [], _ => by simp
  | t :: l, h => by
    have h1 := h t List.mem_cons_self
    have h2 := ths_most l (fun x hx => h x (List.mem_cons_of_mem _ hx))
    rw [List.flatMap_cons, List.length_append, List.length_cons, Nat.succ_mul]; omega
/-- How many numbers there are at most. -/
theorem numsS_len {s : Sta} {a b c d : Nat} (hm : s.mem.length ≤ a) (ht : s.ths.length ≤ b) (h : ∀ t ∈ s.ths, t.regs.length ≤ c ∧ t.buf.length ≤ d) : (numsS s).length ≤ 2 + a + b * (4 + c + 2 * d) := by
  have h1 := ths_most (M := 4 + c + 2 * d) s.ths (fun t hx => by have := h t hx; rw [thN_len]; omega)
  have h2 : s.ths.length * (4 + c + 2 * d) ≤ b * (4 + c + 2 * d) := Nat.mul_le_mul_right _ ht
  simp only [numsS, rowN, List.length_append, List.length_cons]; omega
end EnM
end Go.Proofs.YtmpjcfehabnhgaaDoor
namespace Go.Proofs.YtmpjcfehabnhgaaDoor
open Go.RowKit
set_option linter.unusedVariables false
set_option linter.unusedSimpArgs false
open BfM (Wr)
open ScM
open EnM

def bN (b : Bool) : Int := if b then 1 else 0
/-- What a writer in block g leaves as it was: what lay below B, and all blocks but its own and rows of numbers. -/
def KpW (B g : Nat) (W W' : World) : Prop := Below B W W' ∧ ∀ k cs T fr, W.heap[k]? = some (.cells cs T fr) → T ≠ 3 → k ≠ g → W'.heap[k]? = W.heap[k]?
theorem KpW.refl (B g : Nat) (W : World) : KpW B g W W := ⟨Below.refl _ _, fun _ _ _ _ _ _ _ => rfl⟩
theorem KpW.trans {B g : Nat} {a b c : World} (h : KpW B g a b) (k : KpW B g b c) : KpW B g a c :=
  ⟨h.1.trans k.1, fun i cs T fr e1 e2 e3 => by
    have e := h.2 i cs T fr e1 e2 e3
    exact (k.2 i cs T fr (e.trans e1) e2 e3).trans e⟩
theorem KpW.box {B g b : Nat} {W W' : World} {T : TypeId} {cs : Array Value} (h : KpW B g W W') (hb : BoxC W b T cs) (hT : T ≠ 3) (hne : b ≠ g) : BoxC W' b T cs := (h.2 b cs T (0, 0) hb hT hne).trans hb
theorem KpW.al {B g : Nat} {W W' : World} (h : KpW B g W W') (hB : B ≤ W.heap.size) (o : Obj) : KpW B g W (W'.alloc o) :=
  ⟨h.1.alloc (Nat.le_trans hB h.1.size) o, fun k cs T fr e1 e2 e3 => by
    have e := h.2 k cs T fr e1 e2 e3
    have hlt : k < W'.heap.size := (Array.getElem?_eq_some_iff.1 (e.trans e1)).1
    exact ((below_al (Below.refl _ W') o).block k hlt).trans e⟩
/-- A writer in block g, that holds these numbers. -/
def WtS (base g : Nat) (W : World) (ns : List Int) : Prop := base ≤ g ∧ ∃ v, BoxC W g 63 #[v] ∧ OwnI base W v ns
theorem WtS.below {base g : Nat} {W W' : World} {ns : List Int} (h : WtS base g W ns) (hb : Below W.heap.size W W') : WtS base g W' ns := by
  obtain ⟨h0, v, h1, h2⟩ := h
  exact ⟨h0, v, h1.below hb h1.lt, own_below h2 hb⟩
theorem WtS.lt {base g : Nat} {W : World} {ns : List Int} (h : WtS base g W ns) : g < W.heap.size := by obtain ⟨_, v, h, _⟩ := h; exact h.lt
/-- Behind an append to its row, and a store. -/
theorem kpw_app {base g c n : Nat} {w w1 : World} {A : Option Addr} {T : TypeId} {cs : Array Value} {xs : List Value} {o : Obj} {x : Value} (hg : base ≤ g) (hb : BoxC w g T cs)
    (ho : w.ownsRow base 3 1 (.slice A n c) n xs) (h : (w.alloc o).grownBy w1 (Value.slice A n c).ownBlock) : KpW base g w (w1.setCell ⟨g, 0, none⟩ x) := by
  have h1 : KpW base g w (w.alloc o) := (KpW.refl base g w).al (Nat.le_trans hg (Nat.le_of_lt hb.lt)) o
  have h2 : KpW base g (w.alloc o) w1 := by
    have hal := below_al (Below.refl w.heap.size w) o
    have ho' := own_below ho hal
    refine ⟨⟨h.os, h.tape, h.output, h.size, fun k hk => h.block k (by have := hal.size; have := hb.lt; omega) (fun e => ?_)⟩, fun k cs T fr e1 e2 e3 => h.block k (Array.getElem?_eq_some_iff.1 e1).1 (fun e => ?_)⟩
    · have := (ho'.lt k e.symm).1; omega
    · rcases ho'.2 with ⟨e4, _⟩ | ⟨g1, c1, cur1, e4, _, hh1, _⟩
      · rw [e4] at e; cases e
      · rw [e4] at e; injection e with e
        have e : k = g1 := e
        subst e
        rw [hh1] at e1; injection e1 with e1; injection e1 with _ e1
        exact e2 e1.symm
  have h3 : KpW base g w1 (w1.setCell ⟨g, 0, none⟩ x) :=
    ⟨(Below.refl base w1).setCell (p := ⟨g, 0, none⟩) hg x, fun k cs T fr e1 e2 e3 => heap_setCell_other w1 ⟨g, 0, none⟩ k x e3⟩
  exact (h1.trans h2).trans h3
set_option maxHeartbeats 4000000 in
set_option maxRecDepth 100000 in
theorem wnumber_any {base g : Nat} {ns : List Int} (n : Int) (w : World) (h : WtS base g w ns) (hl : ns.length ≤ 1000000000) :
    Calls Tryd.prog 48 #[.pointer (some ⟨g, 0, none⟩), .int .i64 n] w fun e w' => e = .returned (.tuple #[]) ∧ WtS base g w' (ns ++ [n]) ∧ KpW base g w w' := by
  obtain ⟨i0, hi, hz0, hz1, hz2⟩ := info_parts info_nu
  have hlt := h.lt
  obtain ⟨hg, v, hb, ho⟩ := h
  obtain ⟨A, c, rfl⟩ := own_slice ho
  have c0 := hb.cell 0 _ rfl
  have hbA := below_al (Below.refl w.heap.size w) (.cells #[.int .i64 n] 3)
  have HB := Lib.hid hb
  have HO := Lib.hid ho
  clear hb ho
  go_enter Tryd.func48, Tryd.ntmps48
  go_wp2_with (at_builtin; refine wpList_append_own _ rfl _ _ 22 rfl base 3 i0 (.int .i64 0) 1 8 Tryd.underlying22 hi hz0 hz1 hz2 rfl (by decide) _ _ _ rfl (HO.out.alloc _) ⟨w.heap.size, 0, none⟩ 1 1 [.int .i64 n] rfl rfl (cell_one_new _ _ _) (by simp [Value.oneCell']) (by unfold maxLen; omega) (by omega) (by simp; omega) ?_; intro v1 w1 hown1 hg1 _; obtain ⟨A1, c1, rfl⟩ := own_slice hown1; have hb1 := (HB.out.alloc (.cells #[.int .i64 n] 3)).grown (by decide) (HO.out.alloc _) hg1; have fz := hb1.frozen 0; have d0 := hb1.cell 0 _ rfl)
  have hk1 := kpw_app (x := .slice A1 (ns.length + 1) c1) hg HB.out HO.out hg1
  have hlen : (ns ++ [n]).length = ns.length + 1 := by simp
  refine bodyPost_end (v := .tuple #[]) (by simp [results, Tryd.results48, go_sem]) rfl ?_
  refine ⟨rfl, ⟨hg, _, hb1.set 0 _, ?_⟩, hk1⟩
  have := own_box (x := .slice A1 (ns.length + 1) c1) hown1 hb1 (by decide) 0
  unfold OwnI
  rw [hlen, List.flatMap_append]
  exact this
theorem WtS.al {base g : Nat} {W : World} {ns : List Int} (h : WtS base g W ns) (o : Obj) : WtS base g (W.alloc o) ns := h.below (below_al (Below.refl _ _) o)
theorem WtS.base {base g : Nat} {W : World} {ns : List Int} (h : WtS base g W ns) : base ≤ W.heap.size := Nat.le_trans h.1 (Nat.le_of_lt h.lt)
theorem WtS.eq {base g : Nat} {W : World} {ns ms : List Int} (h : WtS base g W ns) (e : ns = ms) : WtS base g W ms := e ▸ h
set_option maxHeartbeats 4000000 in
set_option maxRecDepth 100000 in
theorem wtruth_any {base g : Nat} {ns : List Int} (b : Bool) (w : World) (h : WtS base g w ns) (hl : ns.length ≤ 1000000000) :
    Calls Tryd.prog 60 #[.pointer (some ⟨g, 0, none⟩), .bool b] w fun e w' => e = .returned (.tuple #[]) ∧ WtS base g w' (ns ++ [bN b]) ∧ KpW base g w w' := by
  have H1 := Lib.hid (fun (n : Int) => wnumber_any n w h hl)
  go_enter Tryd.func60, Tryd.ntmps60
  cases b
  · go_wp2_with (go_at_call 48; refine (H1.out 0).mono ?_)
    rintro e w1 ⟨rfl, h1, k1⟩
    go_wp2
    refine bodyPost_end (v := .tuple #[]) (by simp [results, Tryd.results60, go_sem]) rfl ?_
    exact ⟨rfl, h1, k1⟩
  · go_wp2_with (go_at_call 48; refine (H1.out 1).mono ?_)
    rintro e w1 ⟨rfl, h1, k1⟩
    go_wp2
    refine bodyPost_end (v := .tuple #[]) (by simp [results, Tryd.results60, go_sem]) rfl ?_
    exact ⟨rfl, h1, k1⟩
set_option maxHeartbeats 4000000 in
set_option maxRecDepth 100000 in
theorem wwrite_any {base g : Nat} {ns : List Int} (x : Wr) (w : World) (h : WtS base g w ns) (hl : ns.length ≤ 999999999) :
    Calls Tryd.prog 62 #[.pointer (some ⟨g, 0, none⟩), .agg #[.int .i64 x.loc, .int .i64 x.n]] w fun e w' => e = .returned (.tuple #[]) ∧ WtS base g w' (ns ++ [x.loc, x.n]) ∧ KpW base g w w' := by
  obtain ⟨xl, xn⟩ := x
  have hbx := BoxC.new w 41 #[.int .i64 xl, .int .i64 xn]
  have hne : w.heap.size ≠ g := fun e => by have := h.lt; omega
  have hk0 := (KpW.refl base g w).al h.base (.cells #[.int .i64 xl, .int .i64 xn] 41)
  have c0 := hbx.cell 0 _ rfl
  have c1 := hbx.cell 1 _ rfl
  have H1 := Lib.hid (wnumber_any xl _ (h.al (.cells #[.int .i64 xl, .int .i64 xn] 41)) (by omega))
  go_enter Tryd.func62, Tryd.ntmps62
  go_wp2_with (go_at_call 48; refine H1.out.mono ?_)
  rintro e w1 ⟨rfl, h1, k1⟩
  have hb1 := k1.box hbx (by decide) hne
  have hk1 := hk0.trans k1
  clear c0 c1 H1
  have c0 := hb1.cell 0 _ rfl
  have c1 := hb1.cell 1 _ rfl
  have hl2 : (ns ++ [xl]).length ≤ 1000000000 := by simp; omega
  have H1 := Lib.hid (wnumber_any xn w1 h1 hl2)
  go_wp2_with (go_at_call 48; refine H1.out.mono ?_)
  rintro e w2 ⟨rfl, h2, k2⟩
  go_wp2
  refine bodyPost_end (v := .tuple #[]) (by simp [results, Tryd.results62, go_sem]) rfl ?_
  exact ⟨rfl, h2.eq (by simp), hk1.trans k2⟩
def EnRel (base g : Nat) (ns : List Int) (f : Nat → List Int) (n : Nat) (w : World) (i : Value) (wr : World) : Prop :=
  ∃ k : Nat, k ≤ n ∧ i = .int .i64 k ∧ WtS base g wr (ns ++ (n : Int) :: f k) ∧ KpW base g w wr
set_option maxHeartbeats 8000000 in
set_option maxRecDepth 100000 in
theorem wints_any {B base g : Nat} {ns m : List Int} {v : Value} (w : World) (h : WtS base g w ns) (hv : IntR B w v m) (hBB : B ≤ base) (hl : ns.length + m.length ≤ 999999999) :
    Calls Tryd.prog 47 #[.pointer (some ⟨g, 0, none⟩), v, .func (.func 48) #[.pointer (some ⟨g, 0, none⟩)] #[]] w fun e w' => e = .returned (.tuple #[]) ∧ WtS base g w' (ns ++ rowN m) ∧ KpW base g w w' := by
  have H1 := Lib.hid (wnumber_any (m.length : Int) w h (by omega))
  obtain ⟨A1, c1, rfl, ha1, ha2, -, ha3⟩ := hv
  unfold maxLen at ha2
  have ha3 := nu_at (c := c1) ha3
  have HW := Lib.hid (fun (n : Int) (k : Nat) (hk : k < m.length) W (hW : WtS base g W (ns ++ (m.length : Int) :: m.take k)) => wnumber_any n W hW (by simp; omega))
  clear h
  go_enter Tryd.func47, Tryd.ntmps47
  go_wp2_with (go_at_call 48; refine H1.out.mono ?_)
  rintro e w1 ⟨rfl, h1, k1⟩
  go_wp2
  go_loopw [14] (fun i wr => EnRel base g ns (fun k => m.take k) m.length w i wr) (fun i _ => m.length - (intOf i).toNat)
  case atStart => exact ⟨0, Nat.zero_le _, rfl, h1.eq (by simp), k1⟩
  case round =>
    obtain ⟨k, hk, rfl, hw, hK⟩ := hrel
    by_cases hlt : k < m.length
    · obtain ⟨b1, f1, rfl, hl1, hc1⟩ := ha3 (by omega)
      have d1 := ((hK.1.mono hBB).cell (p := ⟨b1, f1 + k, none⟩) hl1).trans (hc1 k hlt)
      have HT := Lib.hid (show m.take (k + 1) = m.take k ++ [m[k]] from List.take_succ_eq_append_getElem hlt)
      obtain ⟨x, hx⟩ : ∃ x, x = m[k] := ⟨_, rfl⟩
      rw [← hx] at d1 HT
      have HC := Lib.hid (HW.out x k hlt wr hw)
      clear hx hc1 ha3 hw H1 h1 k1
      go_wp2_with fail
      refine HC.out.mono ?_
      rintro e w2 ⟨rfl, h2, k2⟩
      have hK2 := hK.trans k2
      clear hK k2 HC d1
      go_wp2
      go_roundw
      case rel => exact ⟨k + 1, by omega, by go_num, h2.eq (by show _ = ns ++ (m.length : Int) :: m.take (k + 1); rw [HT.out]; simp), hK2⟩
      case measure => simp [intOf]; omega
    · obtain rfl : m.length = k := by omega
      replace hw : WtS base g wr (ns ++ (m.length : Int) :: m.take m.length) := hw
      rw [List.take_length] at hw
      clear ha3
      go_wp2
      refine bodyPost_end (v := .tuple #[]) (by simp [results, Tryd.results47, go_sem]) rfl ?_
      exact ⟨rfl, hw.eq (by simp [rowN]), hK⟩
theorem wrN_take (b : List Wr) (k : Nat) (h : k < b.length) : wrN (b.take (k + 1)) = wrN (b.take k) ++ [b[k].loc, b[k].n] := by
  rw [List.take_succ_eq_append_getElem h, wrN, List.flatMap_append]; simp [wrN]
theorem wrN_take_len (b : List Wr) (k : Nat) (h : k ≤ b.length) : (wrN (b.take k)).length = 2 * k := by rw [wrN_len, List.length_take]; omega
set_option maxHeartbeats 8000000 in
set_option maxRecDepth 100000 in
theorem wwrites_any {B base g : Nat} {ns : List Int} {m : List Wr} {v : Value} (w : World) (h : WtS base g w ns) (hv : WrR B w v m) (hBB : B ≤ base) (hl : ns.length + 2 * m.length ≤ 999999990) :
    Calls Tryd.prog 61 #[.pointer (some ⟨g, 0, none⟩), v, .func (.func 62) #[.pointer (some ⟨g, 0, none⟩)] #[]] w fun e w' => e = .returned (.tuple #[]) ∧ WtS base g w' (ns ++ (m.length : Int) :: wrN m) ∧ KpW base g w w' := by
  have hBw := h.base
  have H1 := Lib.hid (wnumber_any (m.length : Int) w h (by omega))
  obtain ⟨A1, c1, rfl, ha1, ha2, -, ha3⟩ := hv
  unfold maxLen at ha2
  have ha3 := wr_at (c := c1) ha3
  have HW := Lib.hid (fun (x : Wr) (k : Nat) (hk : k < m.length) W (hW : WtS base g W (ns ++ (m.length : Int) :: wrN (m.take k))) => wwrite_any x W hW (by rw [List.length_append, List.length_cons, wrN_take_len _ _ (Nat.le_of_lt hk)]; omega))
  clear h
  go_enter Tryd.func61, Tryd.ntmps61
  go_wp2_with (go_at_call 48; refine H1.out.mono ?_)
  rintro e w1 ⟨rfl, h1, k1⟩
  go_wp2
  go_loopw [14] (fun i wr => EnRel base g ns (fun k => wrN (m.take k)) m.length w i wr) (fun i _ => m.length - (intOf i).toNat)
  case atStart => exact ⟨0, Nat.zero_le _, rfl, h1.eq (by simp [wrN]), k1⟩
  case round =>
    obtain ⟨k, hk, rfl, hw, hK⟩ := hrel
    by_cases hlt : k < m.length
    · obtain ⟨b1, f1, rfl, hl1, hc1⟩ := ha3 (by omega)
      obtain ⟨p0, p1⟩ := hc1 k hlt
      have d1 := ((hK.1.mono hBB).cell (p := ⟨b1, f1 + k * 2, none⟩) hl1).trans p0
      have d2 := ((hK.1.mono hBB).cell (p := ⟨b1, f1 + k * 2 + 1, none⟩) hl1).trans p1
      have HT := Lib.hid (wrN_take m k hlt)
      obtain ⟨x, hx⟩ : ∃ x, x = m[k] := ⟨_, rfl⟩
      rw [← hx] at d1 d2 HT
      have hA := hw.al (.cells #[.int .i64 x.loc, .int .i64 x.n] 41)
      have HC := Lib.hid (HW.out x k hlt _ hA)
      have hKA := hK.al hBw (.cells #[.int .i64 x.loc, .int .i64 x.n] 41)
      clear hx hc1 ha3 hw H1 h1 k1 p0 p1 hA
      go_wp2_with fail
      refine HC.out.mono ?_
      rintro e w2 ⟨rfl, h2, k2⟩
      have hK2 := hKA.trans k2
      clear hK hKA k2 HC d1 d2
      go_wp2
      go_roundw
      case rel => exact ⟨k + 1, by omega, by go_num, h2.eq (by show _ = ns ++ (m.length : Int) :: wrN (m.take (k + 1)); rw [HT.out]; simp), hK2⟩
      case measure => simp [intOf]; omega
    · obtain rfl : m.length = k := by omega
      replace hw : WtS base g wr (ns ++ (m.length : Int) :: wrN (m.take m.length)) := hw
      rw [List.take_length] at hw
      clear ha3
      go_wp2
      refine bodyPost_end (v := .tuple #[]) (by simp [results, Tryd.results61, go_sem]) rfl ?_
      exact ⟨rfl, hw, hK⟩
set_option maxHeartbeats 8000000 in
set_option maxRecDepth 100000 in
theorem wthread_any {B base g : Nat} {ns : List Int} {t : Th} {v : Value} (w : World) (h : WtS base g w ns) (hv : ThV B w v t) (hBB : B ≤ base) (hl : ns.length + (thN t).length ≤ 999999980) :
    Calls Tryd.prog 50 #[.pointer (some ⟨g, 0, none⟩), v] w fun e w' => e = .returned (.tuple #[]) ∧ WtS base g w' (ns ++ thN t) ∧ KpW base g w w' := by
  obtain ⟨vr, vb, rfl, hr, hb⟩ := hv
  obtain ⟨ta, tr, te, tb⟩ := t
  rw [thN_len] at hl
  dsimp only at hl hr hb
  have hBw := h.base
  have HR := Lib.hid (fun W (hK : KpW base g w W) (ms : List Int) (hm : WtS base g W ms) (he : ms.length = ns.length + 2) => wints_any W hm (hr.below (hK.1.mono hBB)) hBB (by omega))
  have HB := Lib.hid (fun W (hK : KpW base g w W) (ms : List Int) (hm : WtS base g W ms) (he : ms.length = ns.length + 3 + tr.length) => wwrites_any W hm (hb.below (hK.1.mono hBB)) hBB (by omega))
  obtain ⟨A1, c1, rfl, -⟩ := hr
  obtain ⟨A2, c2, rfl, -⟩ := hb
  have hbx := BoxC.new w 44 #[.int .i64 ta, .slice A1 tr.length c1, .bool te, .slice A2 tb.length c2]
  have hne : w.heap.size ≠ g := fun e => by have := h.lt; omega
  have hk0 := (KpW.refl base g w).al hBw (.cells #[.int .i64 ta, .slice A1 tr.length c1, .bool te, .slice A2 tb.length c2] 44)
  have H1 := Lib.hid (wnumber_any ta _ (h.al (.cells #[.int .i64 ta, .slice A1 tr.length c1, .bool te, .slice A2 tb.length c2] 44)) (by omega))
  have c0 := hbx.cell 0 _ rfl
  clear h
  go_enter Tryd.func50, Tryd.ntmps50
  go_wp2_with (go_at_call 48; refine H1.out.mono ?_)
  rintro e w1 ⟨rfl, h1, k1⟩
  have hb1 := k1.box hbx (by decide) hne
  have hk1 := hk0.trans k1
  have H2 := Lib.hid (wtruth_any te w1 h1 (by simp; omega))
  clear c0 H1 hk0 k1 hbx h1
  have c0 := hb1.cell 2 _ rfl
  go_wp2_with (go_at_call 60; refine H2.out.mono ?_)
  rintro e w2 ⟨rfl, h2, k2⟩
  have hb2 := k2.box hb1 (by decide) hne
  have hk2 := hk1.trans k2
  have H3 := Lib.hid (HR.out w2 hk2 _ h2 (by simp))
  clear c0 H2 hk1 k2 hb1 h2 HR
  have c0 := hb2.cell 1 _ rfl
  go_wp2_with (go_at_call 47; refine H3.out.mono ?_)
  rintro e w3 ⟨rfl, h3, k3⟩
  have hb3 := k3.box hb2 (by decide) hne
  have hk3 := hk2.trans k3
  have H4 := Lib.hid (HB.out w3 hk3 _ h3 (by simp [rowN]; omega))
  clear c0 H3 hk2 k3 hb2 h3 HB
  have c0 := hb3.cell 3 _ rfl
  go_wp2_with (go_at_call 61; refine H4.out.mono ?_)
  rintro e w4 ⟨rfl, h4, k4⟩
  have hk4 := hk3.trans k4
  clear c0 H4 hk3 k4 hb3
  go_wp2
  refine bodyPost_end (v := .tuple #[]) (by simp [results, Tryd.results50, go_sem]) rfl ?_
  exact ⟨rfl, h4.eq (by simp [thN, rowN, bN]), hk4⟩
theorem ths_take (l : List Th) (k : Nat) (h : k < l.length) : (l.take (k + 1)).flatMap thN = (l.take k).flatMap thN ++ thN l[k] := by
  rw [List.take_succ_eq_append_getElem h, List.flatMap_append]; simp
theorem ths_take_len (l : List Th) (k : Nat) (h : k < l.length) : ((l.take k).flatMap thN).length + (thN l[k]).length ≤ (l.flatMap thN).length := by
  have h1 := congrArg List.length (ths_take l k h)
  have h2 : l.flatMap thN = (l.take (k + 1)).flatMap thN ++ (l.drop (k + 1)).flatMap thN := by rw [← List.flatMap_append, List.take_append_drop]
  have h3 := congrArg List.length h2
  rw [List.length_append] at h1 h3
  omega
set_option maxHeartbeats 8000000 in
set_option maxRecDepth 100000 in
theorem wths_any {B base g : Nat} {ns : List Int} {m : List Th} {v : Value} (w : World) (h : WtS base g w ns) (hv : ThR B w v m) (hBB : B ≤ base) (hl : ns.length + (m.flatMap thN).length ≤ 999999970) :
    Calls Tryd.prog 49 #[.pointer (some ⟨g, 0, none⟩), v, .func (.func 50) #[.pointer (some ⟨g, 0, none⟩)] #[]] w fun e w' => e = .returned (.tuple #[]) ∧ WtS base g w' (ns ++ (m.length : Int) :: m.flatMap thN) ∧ KpW base g w w' := by
  have hBw := h.base
  have H1 := Lib.hid (wnumber_any (m.length : Int) w h (by omega))
  obtain ⟨A1, c1, rfl, ha1, ha2, -, ha3⟩ := hv
  unfold maxLen at ha2
  have HW := Lib.hid (fun (u : Value) (k : Nat) (hk : k < m.length) W (hu : ThV B W u m[k]) (hW : WtS base g W (ns ++ (m.length : Int) :: (m.take k).flatMap thN)) => wthread_any W hW hu hBB (by have := ths_take_len m k hk; rw [List.length_append, List.length_cons]; omega))
  clear h
  go_enter Tryd.func49, Tryd.ntmps49
  go_wp2_with (go_at_call 48; refine H1.out.mono ?_)
  rintro e w1 ⟨rfl, h1, k1⟩
  go_wp2
  go_loopw [14] (fun i wr => EnRel base g ns (fun k => (m.take k).flatMap thN) m.length w i wr) (fun i _ => m.length - (intOf i).toNat)
  case atStart => exact ⟨0, Nat.zero_le _, rfl, h1.eq (by simp), k1⟩
  case round =>
    obtain ⟨k, hk, rfl, hw, hK⟩ := hrel
    by_cases hlt : k < m.length
    · obtain ⟨b1, f1, rfl, hl1, hc1⟩ := ha3 (by omega)
      obtain ⟨vr, vb, d0, d1, d2, d3, hr, hb⟩ := (hc1 k hlt).below (hK.1.mono hBB) hl1
      have HT := Lib.hid (ths_take m k hlt)
      have hA := hw.al (.cells #[.int .i64 m[k].at', vr, .bool m[k].eq, vb] 44)
      have hKA := hK.al hBw (.cells #[.int .i64 m[k].at', vr, .bool m[k].eq, vb] 44)
      have hbn := (below_al (Below.refl wr.heap.size wr) (.cells #[.int .i64 m[k].at', vr, .bool m[k].eq, vb] 44)).mono (Nat.le_trans hBB (Nat.le_trans hBw hK.1.size))
      have HC := Lib.hid (HW.out (.agg #[.int .i64 m[k].at', vr, .bool m[k].eq, vb]) k hlt _ ⟨vr, vb, rfl, hr.below hbn, hb.below hbn⟩ hA)
      have HCC := Lib.hid (box4 (w := wr) (.int .i64 m[k].at') vr (.bool m[k].eq) vb 44)
      obtain ⟨A2, c2, rfl, -⟩ := hr
      obtain ⟨A3, c3, rfl, -⟩ := hb
      obtain ⟨x, hx⟩ : ∃ x, x = m[k] := ⟨_, rfl⟩
      rw [← hx] at d0 d1 d2 d3 HT HC hKA HCC
      obtain ⟨x0, x1, x2, x3⟩ := HCC.out
      clear hx hc1 ha3 hw H1 h1 k1 hA hbn HW
      go_wp2_with fail
      refine HC.out.mono ?_
      rintro e w2 ⟨rfl, h2, k2⟩
      have hK2 := hKA.trans k2
      clear hK hKA k2 HC d0 d1 d2 d3 x0 x1 x2 x3 HCC
      go_wp2
      go_roundw
      case rel => exact ⟨k + 1, by omega, by go_num, h2.eq (by show _ = ns ++ (m.length : Int) :: (m.take (k + 1)).flatMap thN; rw [HT.out]; simp), hK2⟩
      case measure => simp [intOf]; omega
    · obtain rfl : m.length = k := by omega
      replace hw : WtS base g wr (ns ++ (m.length : Int) :: (m.take m.length).flatMap thN) := hw
      rw [List.take_length] at hw
      clear ha3
      go_wp2
      refine bodyPost_end (v := .tuple #[]) (by simp [results, Tryd.results49, go_sem]) rfl ?_
      exact ⟨rfl, hw, hK⟩
set_option maxHeartbeats 8000000 in
set_option maxRecDepth 100000 in
theorem wstate_any {B base g : Nat} {ns : List Int} {s : Sta} {v : Value} (w : World) (h : WtS base g w ns) (hv : StaV B w v s) (hBB : B ≤ base) (hl : ns.length + (numsS s).length ≤ 999999900) :
    Calls Tryd.prog 32 #[.pointer (some ⟨g, 0, none⟩), v] w fun e w' => e = .returned (.tuple #[]) ∧ WtS base g w' (ns ++ numsS s) ∧ KpW base g w w' := by
  obtain ⟨vm, vt, rfl, hm, ht⟩ := hv
  obtain ⟨m, ts⟩ := s
  have hl2 : ns.length + m.length + (ts.flatMap thN).length + 2 ≤ 999999900 := by simp only [numsS, rowN, List.length_append, List.length_cons] at hl; omega
  dsimp only at hm ht
  have hBw := h.base
  have HT := Lib.hid (fun W (hK : KpW base g w W) (ms : List Int) (hm : WtS base g W ms) (he : ms.length = ns.length + 1 + m.length) => wths_any W hm (ht.below (hK.1.mono hBB)) hBB (by omega))
  have hk0 := (KpW.refl base g w).al hBw (.cells #[vm, vt] 25)
  have H1 := Lib.hid (wints_any _ (h.al (.cells #[vm, vt] 25)) (hm.below (hk0.1.mono hBB)) hBB (by omega))
  have hbx := BoxC.new w 25 #[vm, vt]
  have hne : w.heap.size ≠ g := fun e => by have := h.lt; omega
  obtain ⟨A1, c1, rfl, -⟩ := hm
  obtain ⟨A2, c2, rfl, -⟩ := ht
  have c0 := hbx.cell 0 _ rfl
  clear h
  go_enter Tryd.func32, Tryd.ntmps32
  go_wp2_with (go_at_call 47; refine H1.out.mono ?_)
  rintro e w1 ⟨rfl, h1, k1⟩
  have hb1 := k1.box hbx (by decide) hne
  have hk1 := hk0.trans k1
  have H2 := Lib.hid (HT.out w1 hk1 _ h1 (by simp [rowN]; omega))
  clear c0 H1 hk0 k1 hbx h1 HT
  have c0 := hb1.cell 1 _ rfl
  go_wp2_with (go_at_call 49; refine H2.out.mono ?_)
  rintro e w2 ⟨rfl, h2, k2⟩
  have hk2 := hk1.trans k2
  clear c0 H2 hk1 k2 hb1
  go_wp2
  refine bodyPost_end (v := .tuple #[]) (by simp [results, Tryd.results32, go_sem]) rfl ?_
  exact ⟨rfl, h2.eq (by simp [numsS, rowN]), hk2⟩
set_option maxHeartbeats 8000000 in
set_option maxRecDepth 100000 in
/-- The numbers of a state, in a row of the call's own. -/
theorem nums_any {B : Nat} {s : Sta} {v : Value} (w : World) (hv : StaV B w v s) (hBB : B ≤ w.heap.size) (hl : (numsS s).length ≤ 999999900) :
    Calls Tryd.prog 16 #[v] w fun e w' => ∃ u, e = .returned u ∧ OwnI w.heap.size w' u (numsS s) ∧ Below w.heap.size w w' := by
  obtain ⟨vm, vt, rfl, hm, ht⟩ := hv
  have hA := below_al (Below.refl w.heap.size w) (.cells #[vm, vt] 25)
  have hA2 := below_al hA (.cells #[.slice none 0 0] 63)
  have hs1 : (w.alloc (.cells #[vm, vt] 25)).heap.size = w.heap.size + 1 := by simp
  have hbw := BoxC.new (w.alloc (.cells #[vm, vt] 25)) 63 #[.slice none 0 0]
  rw [hs1] at hbw
  have hbx := (BoxC.new w 25 #[vm, vt]).alloc (.cells #[.slice none 0 0] 63)
  have hW : WtS w.heap.size (w.heap.size + 1) ((w.alloc (.cells #[vm, vt] 25)).alloc (.cells #[.slice none 0 0] 63)) [] := ⟨by omega, _, hbw, World.ownsRow_nil _ _ _ _⟩
  have H1 := Lib.hid (wstate_any _ hW ⟨vm, vt, rfl, StaM.below ⟨hm, ht⟩ (hA2.mono hBB)⟩ hBB (by simpa using hl))
  obtain ⟨A1, c1, rfl, -⟩ := hm
  obtain ⟨A2, c2, rfl, -⟩ := ht
  have c0 := hbx.cell 0 _ rfl
  have c1 := hbx.cell 1 _ rfl
  clear hW hbw hbx hA
  go_enter Tryd.func16, Tryd.ntmps16
  go_wp2_with (go_at_call 32; refine H1.out.mono ?_)
  rintro e w2 ⟨rfl, ⟨hg, u, hbu, hou⟩, k2⟩
  have hB2 := hA2.trans k2.1
  obtain ⟨A3, c3, rfl⟩ := own_slice hou
  clear c0 c1 H1 k2 hA2
  have c0 := hbu.cell 0 _ rfl
  go_wp2
  go_ret
  exact ⟨_, rfl, by simpa using hou, hB2⟩
end Go.Proofs.YtmpjcfehabnhgaaDoor
namespace Go.Proofs.YtmpjcfehabnhgaaDoor
open Go.RowKit
set_option linter.unusedVariables false
set_option maxHeartbeats 1000000 in
set_option maxRecDepth 100000 in
theorem ndigit_any (n : Int) (w : World) (h0 : 0 ≤ n) (h1 : n ≤ 9) :
    Calls Tryd.prog 52 #[.int .u64 n] w fun e w' => e = .returned (.int .u8 (48 + n)) ∧ w = w' := by
  go_enter Tryd.func52, Tryd.ntmps52
  go_wp2
  go_ret
  exact ⟨rfl, rfl⟩
set_option maxHeartbeats 1000000 in
set_option maxRecDepth 100000 in
theorem cutp_yes (s : ByteArray) (w : World) (h1 : 1 ≤ (s.size : Int)) (h2 : ((s.extract 0 1).toList == [45]) = true) :
    Calls Tryd.prog 64 #[.string s, .string ⟨#[45]⟩] w fun e w' => e = .returned (.tuple #[.string (s.extract 1 s.size), .bool true]) ∧ w = w' := by
  go_enter Tryd.func64, Tryd.ntmps64
  go_wp2
  go_ret2
  exact ⟨rfl, rfl⟩
set_option maxHeartbeats 1000000 in
set_option maxRecDepth 100000 in
theorem cutp_no (s : ByteArray) (w : World) (h1 : 1 ≤ (s.size : Int)) (h2 : ((s.extract 0 1).toList == [45]) = false) :
    Calls Tryd.prog 64 #[.string s, .string ⟨#[45]⟩] w fun e w' => e = .returned (.tuple #[.string s, .bool false]) ∧ w = w' := by
  go_enter Tryd.func64, Tryd.ntmps64
  go_wp2
  go_ret2
  exact ⟨rfl, rfl⟩
set_option maxHeartbeats 1000000 in
set_option maxRecDepth 100000 in
theorem cutp_nil (s : ByteArray) (w : World) (h1 : (s.size : Int) < 1) :
    Calls Tryd.prog 64 #[.string s, .string ⟨#[45]⟩] w fun e w' => e = .returned (.tuple #[.string s, .bool false]) ∧ w = w' := by
  go_enter Tryd.func64, Tryd.ntmps64
  go_wp2
  go_ret2
  exact ⟨rfl, rfl⟩
def cutpS (s : ByteArray) : ByteArray := if s.data.toList.head? = some 45 then s.extract 1 s.size else s
def cutpB (s : ByteArray) : Bool := decide (s.data.toList.head? = some 45)
theorem cutp_any (s : ByteArray) (w : World) :
    Calls Tryd.prog 64 #[.string s, .string ⟨#[45]⟩] w fun e w' => e = .returned (.tuple #[.string (cutpS s), .bool (cutpB s)]) ∧ w = w' := by
  have hx : (s.extract 0 1).toList = s.data.toList.take 1 := by
    rw [ByteArray.toList_eq]; rw [Lib.extract_data]; simp
  by_cases h1 : (s.size : Int) < 1
  · have : s.data.toList = [] := by
      have := Lib.size_eq s
      exact List.eq_nil_of_length_eq_zero (by omega)
    have e1 : cutpS s = s := by simp [cutpS, this]
    have e2 : cutpB s = false := by simp [cutpB, this]
    rw [e1, e2]
    exact cutp_nil s w h1
  · have hc : s.data.toList ≠ [] := by
      intro e; have := Lib.size_eq s; rw [e, List.length_nil] at this; omega
    obtain ⟨c, r, e⟩ := List.exists_cons_of_ne_nil hc
    by_cases h2 : c = 45
    · subst h2
      have e1 : cutpS s = s.extract 1 s.size := by simp [cutpS, e]
      have e2 : cutpB s = true := by simp [cutpB, e]
      rw [e1, e2]
      exact cutp_yes s w (by omega) (by rw [hx, e]; simp)
    · have e1 : cutpS s = s := by simp [cutpS, e, h2]
      have e2 : cutpB s = false := by simp [cutpB, e, h2]
      rw [e1, e2]
      exact cutp_no s w (by omega) (by rw [hx, e]; simp [h2])
theorem cutpS_size (s : ByteArray) : (cutpS s).size ≤ s.size := by
  unfold cutpS; split
  · simp
  · exact Nat.le_refl _
theorem made_cut (s : ByteArray) : NumM.made s.data.toList = if cutpB s = true then wrap64 (-NumM.madeD (cutpS s).data.toList) else NumM.madeD (cutpS s).data.toList := by
  unfold cutpB cutpS
  by_cases h : s.data.toList.head? = some 45
  · simp only [h, decide_true, if_true]
    have e : s.data.toList = 45 :: (s.extract 1 s.size).data.toList := by
      rw [Lib.extract_data, Lib.size_eq]
      cases e : s.data.toList with
      | nil => rw [e] at h; cases h
      | cons c r =>
        rw [e] at h
        simp only [List.head?_cons, Option.some.injEq] at h
        subst h
        simp
    conv => lhs; rw [e]
    exact NumM.made_neg _
  · rw [if_neg h, if_neg (by simpa using h)]
    exact NumM.made_pos _ h
set_option maxHeartbeats 1000000 in
set_option maxRecDepth 100000 in
theorem made_any (s : ByteArray) (w : World) (hs : s.size ≤ maxLen) :
    Calls Tryd.prog 57 #[.string s] w fun e w' => e = .returned (.int .i64 (NumM.made s.data.toList)) ∧ w = w' := by
  unfold maxLen at hs
  have hs2 := cutpS_size s
  have HM := Lib.hid (made_cut s)
  go_enter Tryd.func57, Tryd.ntmps57
  go_wp2_with (go_at_call 64; refine (cutp_any _ _).mono ?_; rintro e w' ⟨rfl, rfl⟩)
  generalize cutpS s = d at *
  generalize cutpB s = b at *
  go_loop [5, 14] (fun n i => ∃ k : Nat, k ≤ d.size ∧ i = .int .i64 k ∧ n = .int .i64 (NumM.madeD (d.data.toList.take k))) (fun _ i => d.size - (intOf i).toNat)
  case atStart => exact ⟨0, Nat.zero_le _, rfl, rfl⟩
  case round =>
    obtain ⟨k, hk, rfl, rfl⟩ := hrel
    by_cases hlt : k < d.size
    · have HT := Lib.hid (take_snoc d k hlt)
      go_wp2
      go_round
      case rel => exact ⟨k + 1, by omega, by go_num, by rw [HT.out, NumM.madeD_snoc]; rfl⟩
      case measure => simp [intOf]; omega
    · obtain rfl : d.size = k := by omega
      have ht : d.data.toList.take d.size = d.data.toList := List.take_of_length_le (by rw [← Lib.size_eq]; exact Nat.le_refl _)
      rw [ht]
      cases b
      all_goals
        go_wp2
        go_ret
        exact ⟨ret_int (by rw [HM.out]; rfl), rfl⟩
/-- The array of the digits as they stand. -/
def NRow (w : World) (b : Nat) (xs : List UInt8) : Prop := ∀ i, i < 19 → w.cell? ⟨b, i, none⟩ = some (.int .u8 ((xs.getD i 0).toNat : Int)) ∧ w.frozen? ⟨b, i, none⟩ = false
def NTRel (w : World) (R : Nat) (a r : Nat) (xs : List UInt8) (wr : World) : Prop :=
  r < 10 ^ (a + 1) ∧ xs.length = 19 ∧ NumM.digs r ++ xs.drop (a + 1) = NumM.digs R ∧ NRow wr w.heap.size xs ∧ Below w.heap.size w wr ∧ w.heap.size < wr.heap.size
theorem pow_step (r a : Nat) (h : r < 10 ^ (a + 1)) (h9 : 9 < r) : 1 ≤ a ∧ r / 10 < 10 ^ (a - 1 + 1) := by
  have ha : a ≠ 0 := by intro e; subst e; simp at h; omega
  refine ⟨by omega, ?_⟩
  rw [show a - 1 + 1 = a by omega, Nat.div_lt_iff_lt_mul (by omega)]
  rwa [Nat.pow_succ] at h
theorem row_set {w : World} {b a : Nat} {xs : List UInt8} (h : NRow w b xs) (ha : a ≤ 18) (hl : xs.length = 19) (r : Nat) (hr : r ≤ 9) :
    NRow (w.setCell ⟨b, a, none⟩ (.int .u8 (48 + (r : Int)))) b (xs.set a (UInt8.ofNat (48 + r))) := by
  intro i hi
  refine ⟨?_, by rw [World.frozen?_setCell]; exact (h i hi).2⟩
  by_cases e : i = a
  · subst e
    rw [World.cell?_setCell_same _ _ _ (h i hi).1]
    simp only [List.getD, List.getElem?_set_self (show i < xs.length by omega), Option.getD_some]
    rw [NumM.u8_toNat_small r hr]; rfl
  · rw [World.cell?_setCell_other _ _ _ _ (by intro k; injection k with _ k2; exact e k2.symm), (h i hi).1]
    simp only [List.getD, List.getElem?_set_ne (Ne.symm e)]
theorem trel_set {w wr : World} {R a r : Nat} {xs : List UInt8} (h : NTRel w R a r xs wr) (ha : a ≤ 18) (d : Nat) (hd : d ≤ 9) (r' a' : Nat) (h1 : r' < 10 ^ (a' + 1))
    (h2 : NumM.digs r' ++ (xs.set a (UInt8.ofNat (48 + d))).drop (a' + 1) = NumM.digs R) :
    NTRel w R a' r' (xs.set a (UInt8.ofNat (48 + d))) (wr.setCell ⟨w.heap.size, a, none⟩ (.int .u8 (48 + (d : Int)))) := by
  obtain ⟨g1, g2, g3, g4, g5, g6⟩ := h
  refine ⟨h1, by simp [g2], h2, row_set g4 ha g2 d hd, g5.setCell (Nat.le_refl _) _, by simpa [World.setCell] using g6⟩
theorem trel_step {w wr : World} {R a r : Nat} {xs : List UInt8} (h : NTRel w R a r xs wr) (ha : a ≤ 18) (h9 : 9 < r) (hr : r < 10 ^ 20) :
    NTRel w R (a - 1) (r / 10) (xs.set a (UInt8.ofNat (48 + r % 10))) (wr.setCell ⟨w.heap.size, a, none⟩ (.int .u8 (48 + (r : Int) % 10))) := by
  have hp := pow_step r a h.1 h9
  have := trel_set h ha (r % 10) (by omega) (r / 10) (a - 1) hp.2 (by
    rw [← h.2.2.1, NumM.digs_big r (by omega) hr, List.append_assoc, show a - 1 + 1 = a by omega]
    congr 1
    rw [List.drop_set]
    rw [if_neg (by omega), Nat.sub_self]
    have hl := h.2.1
    rw [List.drop_eq_getElem_cons (show a < xs.length by omega)]
    rfl)
  exact this
/-- The digits are all there: what the array has from the last place on. -/
theorem trel_last {w wr : World} {R a r : Nat} {xs : List UInt8} (h : NTRel w R a r xs wr) (ha : a ≤ 18) (h9 : r ≤ 9) :
    (xs.set a (UInt8.ofNat (48 + r))).drop a = NumM.digs R := by
  rw [← h.2.2.1, NumM.digs_small r h9, List.drop_set, if_neg (by omega), Nat.sub_self]
  have hl := h.2.1
  rw [List.drop_eq_getElem_cons (show a < xs.length by omega)]
  rfl
theorem row_bytes {w : World} {b a : Nat} {xs : List UInt8} (h : NRow w b xs) (ha : a ≤ 18) (hl : xs.length = 19) (P : Program) (src e dst : TypeId)
    (hs : P.underlying src = some (.slice e)) (he : P.underlying e = some (.int .u8)) (hd : P.underlying dst = some .string) (cap : Nat) :
    (convert src dst (.slice (some ⟨b, a, none⟩) (19 - a) cap)).run P w = .ok (.string ⟨(xs.drop a).toArray⟩) w := by
  have := run_convert_bytes_arg (P := P) w src e hs he b a (19 - a) cap ((xs.drop a).map fun x => (x.toNat : Int)) (by simp [hl]) (fun i hi => by
    rw [(h (a + i) (by omega)).1]
    congr 2
    simp only [List.getD, List.getElem?_map, List.getElem?_drop]
    rw [List.getElem?_eq_getElem (show a + i < xs.length by omega)]
    simp) dst hd
  rw [this]
  congr 2
  unfold strOfNums
  congr 1
  rw [List.map_map]
  congr 1
  conv => rhs; rw [← List.map_id (xs.drop a)]
  apply List.map_congr_left
  intro x _
  simp
theorem slice_row (w : World) (b a : Nat) (h : a ≤ 18) :
    (Instr.sliceAt 91 (.pointer (some ⟨b, 0, none⟩)) (some (.int .i64 (a : Int))) none none).run Tryd.prog w = .ok (.slice (some ⟨b, a, none⟩) (19 - a) (19 - a)) w := by
  have hl : Tryd.prog.arrayLen 91 = 19 := by kernel_rfl
  have hz : ∀ w, (Go.sizeOf (Tryd.prog.elem 91)).run Tryd.prog w = .ok 1 w := fun w => by kernel_rfl
  rw [run_sliceAt_array_l w 91 _ (by kernel_rfl) .i64 (a : Int) (by omega) (by rw [hl]; omega), hz, hl]
  simp only [Result.andThen, slicedAt, Addr.add, Int.toNat_natCast]
  rw [if_neg (by omega)]
  have e : (if ((⟨b, 0, none⟩ : Addr).spot.isSome) = true then (⟨b, 0, none⟩ : Addr) else ⟨b, 0 + a * 1, none⟩) = ⟨b, a, none⟩ := by simp
  first | exact congrArg (fun x => Result.ok (Value.slice (some x) (19 - a) (19 - a)) w) e | (simp; omega)
set_option maxHeartbeats 1000000 in
set_option maxRecDepth 100000 in
theorem text_neg (n : Int) (w : World) (h0 : n < 0) (h1 : -9223372036854775808 ≤ n) :
    Calls Tryd.prog 34 #[.int .i64 n] w fun e w' => e = .returned (.string ⟨(NumM.text n).toArray⟩) ∧ Below w.heap.size w w' := by
  go_enter Tryd.func34, Tryd.ntmps34
  go_wp2
  have hE : IntKind.u64.wrap (-IntKind.u64.wrap n) = (n.natAbs : Int) := by
    simp [IntKind.wrap, IntKind.bits, IntKind.signed]; omega
  have hR : n.natAbs ≤ 9223372036854775808 := by omega
  have hX := Lib.hid (show NumM.text n = 45 :: NumM.digs n.natAbs by unfold NumM.text; rw [if_pos h0])
  rw [hE]
  clear hE
  generalize n.natAbs = R at *
  go_loopw [4, 5] (fun at_ rest wr => ∃ (a r : Nat) (xs : List UInt8), a ≤ 18 ∧ r ≤ R ∧ at_ = .int .i64 a ∧ rest = .int .u64 r ∧ NTRel w R a r xs wr) (fun at_ _ _ => (intOf at_).toNat)
  case atStart =>
    refine ⟨18, R, List.replicate 19 0, by omega, by omega, rfl, rfl, by omega, rfl, by simp, ?_, (Below.refl _ _).alloc (Nat.le_refl _) _, by simp⟩
    intro i hi
    rw [World.cell?_alloc_at _ _ _ _ rfl, World.frozen?_alloc_at _ _ _ _ rfl]
    refine ⟨?_, rfl⟩
    have h1 : ((List.replicate 19 (Value.int IntKind.u8 0)).toArray)[i]? = some (.int .u8 0) := by
      rw [List.getElem?_toArray, List.getElem?_replicate, if_pos hi]
    have h2 : (List.replicate 19 (0 : UInt8)).getD i 0 = 0 := by
      rw [List.getD_eq_getElem?_getD, List.getElem?_replicate, if_pos hi]; rfl
    rw [h2]
    exact h1
  case round =>
    obtain ⟨a, r, xs, ha, hrR, rfl, rfl, hT⟩ := hrel
    have hc := (hT.2.2.2.1 a (by omega)).1
    have hf := (hT.2.2.2.1 a (by omega)).2
    by_cases h9 : 9 < r
    · have hp := (pow_step r a hT.1 h9).1
      go_wp2_with (go_at_call 52; refine (ndigit_any _ _ (by omega) (by omega)).mono ?_; rintro e w' ⟨rfl, rfl⟩)
      go_roundw
      case rel => exact ⟨a - 1, r / 10, _, by omega, by omega, by go_num, by go_num, trel_step hT ha h9 (by omega)⟩
      case measure => simp [intOf]; omega
    · have hS := row_set hT.2.2.2.1 ha hT.2.1 r (by omega)
      have hl := hT.2.1
      have hY := Lib.hid (trel_last hT ha (by omega))
      have hsl := fun W => slice_row W w.heap.size a ha
      have hB := (hT.2.2.2.2.1.setCell (p := ⟨w.heap.size, a, none⟩) (Nat.le_refl _) (.int .u8 (48 + (r : Int))))
      have hcv := row_bytes hS ha (by simp [hl]) Tryd.prog 66 5 9 (by kernel_rfl) (by kernel_rfl) (by kernel_rfl) (19 - a)
      rw [hY.out] at hcv
      have hdl := NumM.digs_len R (by omega)
      have hcat := fun W => run_string_add_sum (P := Tryd.prog) (w := W) ⟨#[45]⟩ ⟨(NumM.digs R).toArray⟩ (by simp [ByteArray.size]; omega)
      clear hT hS hl hdl
      go_wp2_with (go_at_call 52; refine (ndigit_any _ _ (by omega) (by omega)).mono ?_; rintro e w' ⟨rfl, rfl⟩)
      go_ret
      exact ⟨by rw [hX.out]; rfl, hB⟩
set_option maxHeartbeats 1000000 in
set_option maxRecDepth 100000 in
theorem text_pos (R : Nat) (w : World) (hR : R ≤ 9223372036854775807) :
    Calls Tryd.prog 34 #[.int .i64 R] w fun e w' => e = .returned (.string ⟨(NumM.text R).toArray⟩) ∧ Below w.heap.size w w' := by
  go_enter Tryd.func34, Tryd.ntmps34
  go_wp2
  have hX := Lib.hid (show NumM.text R = NumM.digs R by unfold NumM.text; rw [if_neg (by omega), Int.natAbs_natCast])
  go_loopw [4, 5] (fun at_ rest wr => ∃ (a r : Nat) (xs : List UInt8), a ≤ 18 ∧ r ≤ R ∧ at_ = .int .i64 a ∧ rest = .int .u64 r ∧ NTRel w R a r xs wr) (fun at_ _ _ => (intOf at_).toNat)
  case atStart =>
    refine ⟨18, R, List.replicate 19 0, by omega, by omega, rfl, rfl, by omega, rfl, by simp, ?_, (Below.refl _ _).alloc (Nat.le_refl _) _, by simp⟩
    intro i hi
    rw [World.cell?_alloc_at _ _ _ _ rfl, World.frozen?_alloc_at _ _ _ _ rfl]
    refine ⟨?_, rfl⟩
    have h1 : ((List.replicate 19 (Value.int IntKind.u8 0)).toArray)[i]? = some (.int .u8 0) := by
      rw [List.getElem?_toArray, List.getElem?_replicate, if_pos hi]
    have h2 : (List.replicate 19 (0 : UInt8)).getD i 0 = 0 := by
      rw [List.getD_eq_getElem?_getD, List.getElem?_replicate, if_pos hi]; rfl
    rw [h2]
    exact h1
  case round =>
    obtain ⟨a, r, xs, ha, hrR, rfl, rfl, hT⟩ := hrel
    have hc := (hT.2.2.2.1 a (by omega)).1
    have hf := (hT.2.2.2.1 a (by omega)).2
    by_cases h9 : 9 < r
    · have hp := (pow_step r a hT.1 h9).1
      go_wp2_with (go_at_call 52; refine (ndigit_any _ _ (by omega) (by omega)).mono ?_; rintro e w' ⟨rfl, rfl⟩)
      go_roundw
      case rel => exact ⟨a - 1, r / 10, _, by omega, by omega, by go_num, by go_num, trel_step hT ha h9 (by omega)⟩
      case measure => simp [intOf]; omega
    · have hS := row_set hT.2.2.2.1 ha hT.2.1 r (by omega)
      have hl := hT.2.1
      have hY := Lib.hid (trel_last hT ha (by omega))
      have hsl := fun W => slice_row W w.heap.size a ha
      have hB := (hT.2.2.2.2.1.setCell (p := ⟨w.heap.size, a, none⟩) (Nat.le_refl _) (.int .u8 (48 + (r : Int))))
      have hcv := row_bytes hS ha (by simp [hl]) Tryd.prog 66 5 9 (by kernel_rfl) (by kernel_rfl) (by kernel_rfl) (19 - a)
      rw [hY.out] at hcv
      have hdl := NumM.digs_len R (by omega)
      have hcat := fun W => run_string_add_sum (P := Tryd.prog) (w := W) ⟨#[]⟩ ⟨(NumM.digs R).toArray⟩ (by simp [ByteArray.size]; omega)
      clear hT hS hl hdl
      go_wp2_with (go_at_call 52; refine (ndigit_any _ _ (by omega) (by omega)).mono ?_; rintro e w' ⟨rfl, rfl⟩)
      go_ret
      exact ⟨by rw [hX.out]; first | rfl | exact congrArg (fun x => Ending.returned (Value.string x)) (nil_cat _), hB⟩
theorem text_any (n : Int) (w : World) (h : NumM.inR n) :
    Calls Tryd.prog 34 #[.int .i64 n] w fun e w' => e = .returned (.string ⟨(NumM.text n).toArray⟩) ∧ Below w.heap.size w w' := by
  unfold NumM.inR at h
  by_cases h0 : n < 0
  · exact text_neg n w h0 h.1
  · obtain ⟨R, rfl⟩ := Int.eq_ofNat_of_zero_le (show 0 ≤ n by omega)
    exact text_pos R w (by omega)
/-- num.Get. -/
theorem get_any (s : ByteArray) (w : World) (hs : s.size ≤ maxLen) :
    Calls Tryd.prog 44 #[.string s] w fun e w' => e = .returned (.tuple #[.int .i64 (NumM.get s.data.toList).1, .bool (NumM.get s.data.toList).2]) ∧ Below w.heap.size w w' := by
  have hr := NumM.made_range s.data.toList
  by_cases hq : NumM.text (NumM.made s.data.toList) = s.data.toList
  · have hg := Lib.hid (show NumM.get s.data.toList = (NumM.made s.data.toList, true) by unfold NumM.get; rw [if_pos hq])
    have hb : ((NumM.text (NumM.made s.data.toList)) == s.toList) = true := by
      rw [Lib.toList_data, beq_dec]; exact decide_eq_true hq
    clear hq
    go_enter Tryd.func44, Tryd.ntmps44
    go_wp2_with (first | (go_at_call 57; refine (made_any _ _ hs).mono ?_; rintro e w' ⟨rfl, rfl⟩) | (go_at_call 34; refine (text_any _ _ hr).mono ?_; rintro e w' ⟨rfl, hB⟩))
    go_ret2
    exact ⟨by rw [hg.out]; rfl, hB⟩
  · have hg := Lib.hid (show NumM.get s.data.toList = (0, false) by unfold NumM.get; rw [if_neg hq])
    have hb : ((NumM.text (NumM.made s.data.toList)) == s.toList) = false := by
      rw [Lib.toList_data, beq_dec]; exact decide_eq_false hq
    clear hq
    go_enter Tryd.func44, Tryd.ntmps44
    go_wp2_with (first | (go_at_call 57; refine (made_any _ _ hs).mono ?_; rintro e w' ⟨rfl, rfl⟩) | (go_at_call 34; refine (text_any _ _ hr).mono ?_; rintro e w' ⟨rfl, hB⟩))
    go_ret2
    exact ⟨by rw [hg.out]; rfl, hB⟩
end Go.Proofs.YtmpjcfehabnhgaaDoor
namespace Go.Proofs.YtmpjcfehabnhgaaDoor
open Go.RowKit Go.Shelf
set_option linter.unusedVariables false
set_option linter.unusedSimpArgs false
open WordM (L)
open BfM (Wr)
open ScM
open EnM

theorem TxAt.below {B b : Nat} {p : Value} {bs : List Value} {w w' : World} (h : TxAt B b p bs w) (hb : Below w.heap.size w w') : TxAt B b p bs w' := by
  obtain ⟨hB, v, hbk, hown, hne⟩ := h
  have hlt : b < w.heap.size := (Array.getElem?_eq_some_iff.1 hbk).1
  exact ⟨hB, v, (hb.block b hlt).trans hbk, hown.kept (row := none) ⟨hb.os, hb.tape, hb.output, hb.size, fun k hk _ => hb.block k hk⟩ (by
    rcases hown.2 with ⟨rfl, _⟩ | ⟨g, cap, cur, fz, rfl, _⟩
    · exact .inl rfl
    · right; simp [Value.ownBlock]), hne⟩
theorem IsTx.below {B b : Nat} {bs : List Value} {w w' : World} (h : IsTx B b bs w) (hb : Below w.heap.size w w') : IsTx B b bs w' :=
  h.elim (fun x => Or.inl (TxAt.below x hb)) (fun x => Or.inr (TxAt.below x hb))
theorem bytes_app (a b : L) : Lib.byteCells a ++ Lib.strCells ⟨b.toArray⟩ = Lib.byteCells (a ++ b) := by
  rw [Lib.strCells_eq]; simp [Lib.byteCells]
theorem put_l (B b : Nat) (l m : L) (w : World) (h : IsTx B b (Lib.byteCells l) w) (hlen : l.length + m.length ≤ 140737488355328) (hBw : B ≤ w.heap.size) :
    Calls Tryd.prog 33 #[.pointer (some ⟨b, 0, none⟩), .string ⟨m.toArray⟩] w fun e w' => e = .returned (.tuple #[.int .i64 (m.length : Nat), .nilIface]) ∧ IsTx B b (Lib.byteCells (l ++ m)) w' ∧ Below B w w' ∧ KeptT b w w' := by
  refine (bput_any B b (Lib.byteCells l) ⟨m.toArray⟩ w h (by rw [Lib.byteCells_length, Lib.size_eq]; exact hlen) hBw).mono fun e w' ⟨he, ht, hb, hk⟩ => ⟨?_, ?_, hb, hk⟩
  · rw [he, Lib.size_eq]
  · rw [bytes_app] at ht
    exact Or.inr ht
theorem tx_fresh {B : Nat} (w : World) (h : B ≤ w.heap.size) : IsTx B w.heap.size (Lib.byteCells []) (w.alloc (.cells #[.pointer none, .slice none 0 0] 68)) :=
  Or.inl ⟨h, _, heap_alloc_new w _, World.ownsRowF_of (World.ownsRow_nil _ _ _ _), by simp [Value.ownBlock]⟩
/-- A row of numbers stays, whatever is written to a text. -/
theorem own_tx {base g b n : Nat} {W W' : World} {v : Value} {xs : List Value} (h : W.ownsRow base 3 1 v n xs) (hb : Below g W W') (hne : v.ownBlock ≠ some b) (hk : KeptT b W W') : W'.ownsRow base 3 1 v n xs := by
  refine ⟨h.1, ?_⟩
  rcases h.2 with hn | ⟨g1, cap, cur, rfl, hg, hgg, rest⟩
  · exact .inl hn
  · exact .inr ⟨g1, cap, cur, rfl, hg, (hk g1 cur _ _ hgg (by decide) (fun e => hne (by simp [Value.ownBlock, e]))).trans hgg, rest⟩
theorem keyL_take {l : List Int} {k : Nat} (h : k < l.length) : keyL (l.take (k + 1)) = if k = 0 then NumM.text l[k] else keyL (l.take k) ++ 32 :: NumM.text l[k] := by
  rw [List.take_succ_eq_append_getElem h]
  have hg : ∀ (m : List Int) (x : Int), keyL (m ++ [x]) = if m = [] then NumM.text x else keyL m ++ 32 :: NumM.text x := by
    intro m x
    induction m with
    | nil => rfl
    | cons a r ih =>
      rw [if_neg (by simp)]
      cases r with
      | nil => rfl
      | cons b q =>
        rw [if_neg (by simp)] at ih
        show NumM.text a ++ 32 :: keyL ((b :: q) ++ [x]) = (NumM.text a ++ 32 :: keyL (b :: q)) ++ 32 :: NumM.text x
        rw [ih]
        simp
  rw [hg]
  by_cases h0 : k = 0
  · subst h0; simp
  · rw [if_neg h0, if_neg (by
      intro e
      rcases List.take_eq_nil_iff.1 e with e | e
      · exact h0 e
      · subst e; simp at h)]
def KyRel (l : List Int) (v : Value) (b base : Nat) (w : World) (i : Value) (wr : World) : Prop :=
  ∃ k : Nat, k ≤ l.length ∧ i = .int .i64 k ∧ IsTx w.heap.size b (Lib.byteCells (keyL (l.take k))) wr ∧ wr.ownsRow base 3 1 v l.length (l.flatMap nuC) ∧ Below w.heap.size w wr
theorem keyL_ne {l : List Int} (h : l ≠ []) (hi : ∀ n ∈ l, NumM.inR n) : keyL l ≠ [] := by
  cases l with
  | nil => exact absurd rfl h
  | cons a r =>
    have := (text_free a (hi a List.mem_cons_self)).2
    cases r with
    | nil => exact this
    | cons b q => simp [keyL]
theorem keyL_take_len {l : List Int} (hi : ∀ n ∈ l, NumM.inR n) (k : Nat) : (keyL (l.take k)).length ≤ 21 * l.length := by
  have := keyL_len (l.take k) (fun n hn => hi n (List.mem_of_mem_take hn))
  rw [List.length_take] at this
  omega
set_option maxHeartbeats 8000000 in
set_option maxRecDepth 100000 in
theorem key_any {B : Nat} {s : Sta} {v : Value} (w : World) (hv : StaV B w v s) (hBB : B ≤ w.heap.size) (hi : ∀ n ∈ numsS s, NumM.inR n) (hl : (numsS s).length ≤ 1000000) :
    Calls Tryd.prog 18 #[v] w fun e w' => e = .returned (.string ⟨(keyS s).toArray⟩) ∧ Below w.heap.size w w' := by
  obtain ⟨vm, vt, rfl, hm, ht⟩ := hv
  have hA := below_al (Below.refl w.heap.size w) (.cells #[vm, vt] 25)
  have hA2 := below_al hA (.cells #[.pointer none, .slice none 0 0] 68)
  have hs1 : (w.alloc (.cells #[vm, vt] 25)).heap.size = w.heap.size + 1 := by simp
  have htx := tx_fresh (B := w.heap.size) (w.alloc (.cells #[vm, vt] 25)) (by rw [hs1]; omega)
  rw [hs1] at htx
  have hbx := (BoxC.new w 25 #[vm, vt]).alloc (.cells #[.pointer none, .slice none 0 0] 68)
  have HN := Lib.hid (nums_any _ (⟨vm, vt, rfl, StaM.below ⟨hm, ht⟩ (hA2.mono hBB)⟩ : StaV B _ (.agg #[vm, vt]) s) (Nat.le_trans hBB hA2.size) (by omega))
  have HKS := Lib.hid (show keyS s = keyL (numsS s) from rfl)
  have HTW := Lib.hid (numsS_two s)
  obtain ⟨A1, c1, rfl, -⟩ := hm
  obtain ⟨A2, c2, rfl, -⟩ := ht
  generalize keyS s = ks at *
  generalize numsS s = l at *
  have HTX := Lib.hid htx
  have HIN := Lib.hid hi
  have d0 := hbx.cell 0 _ rfl
  have d1 := hbx.cell 1 _ rfl
  clear hA htx hbx hs1 hi
  go_enter Tryd.func18, Tryd.ntmps18
  go_wp2_with (go_at_call 16; refine HN.out.mono ?_)
  rintro e w2 ⟨u, rfl, hou, hb2⟩
  have hT2 := HTX.out.below hb2
  have hB2 := hA2.trans (hb2.mono hA2.size)
  have hnb : u.ownBlock ≠ some (w.heap.size + 1) := fun e => by have := (hou.lt _ e).1; simp at this; omega
  have HNB := Lib.hid hnb
  have HST := Lib.hid (show KyRel l u (w.heap.size + 1) ((w.alloc (.cells #[.slice A1 s.mem.length c1, .slice A2 s.ths.length c2] 25)).alloc (.cells #[.pointer none, .slice none 0 0] 68)).heap.size w (.int .i64 0) w2 from ⟨0, Nat.zero_le _, rfl, hT2, hou, hB2⟩)
  obtain ⟨Au, cu, rfl⟩ := own_slice hou
  obtain ⟨bs, hbs⟩ : ∃ x, x = ((w.alloc (.cells #[.slice A1 s.mem.length c1, .slice A2 s.ths.length c2] 25)).alloc (.cells #[.pointer none, .slice none 0 0] 68)).heap.size := ⟨_, rfl⟩
  rw [← hbs] at HST
  clear hbs hou hb2 hT2 hB2 hnb HN HTX d0 d1 hA2
  go_wp2
  go_loopw [9] (fun i wr => KyRel l (.slice Au l.length cu) (w.heap.size + 1) bs w i wr) (fun i _ => l.length - (intOf i).toNat)
  case atStart => exact HST.out
  case round =>
    obtain ⟨k, hk, rfl, htx, hown, hB⟩ := hrel
    clear HST
    by_cases hlt : k < l.length
    · have HT := Lib.hid (keyL_take hlt)
      have HLN := Lib.hid (keyL_take_len HIN.out k)
      have HIX := Lib.hid (HIN.out _ (List.getElem_mem hlt))
      obtain ⟨b1, f1, hA1, hl1, hc1⟩ : ∃ b f, Au = some ⟨b, f, none⟩ ∧ b < wr.heap.size ∧ wr.cell? ⟨b, f + k, none⟩ = some (.int .i64 l[k]) := by
        obtain ⟨A9, c9, e9, h1, h2, h0, h3⟩ := (Rw.own hown (Nat.le_refl _) : Rw nuC 1 wr.heap.size wr (.slice Au l.length cu) l)
        injection e9 with e9 _ e8
        subst e9
        obtain ⟨b, f, e, hb, hc⟩ := nu_at (c := cu) h3 (by omega)
        exact ⟨b, f, e, hb, hc k hlt⟩
      subst hA1
      obtain ⟨x, hx⟩ : ∃ x, x = l[k] := ⟨_, rfl⟩
      rw [← hx] at hc1 HT HIX
      clear hx
      have HTX := Lib.hid htx
      have HOW := Lib.hid hown
      have HXL := Lib.hid (NumM.text_len x HIX.out)
      have hBs := hB.size
      have HTE := Lib.hid (text_any x wr HIX.out)
      have HK0 := Lib.hid (fun W v1 (h : IsTx w.heap.size (w.heap.size + 1) (Lib.byteCells (keyL (l.take (k + 1)))) W) (h2 : W.ownsRow bs 3 1 (.slice (some ⟨b1, f1, none⟩) l.length cu) l.length (l.flatMap nuC)) (h3 : Below w.heap.size w W) (e : v1 = .int .i64 ((k : Int) + 1)) => show KyRel l (.slice (some ⟨b1, f1, none⟩) l.length cu) (w.heap.size + 1) bs w v1 W from ⟨k + 1, by omega, by rw [e]; go_num, h, h2, h3⟩)
      by_cases h0 : k = 0
      · have q1 : decide ((k : Int) > 0) = false := decide_eq_false (by omega)
        have q2 : decide (0 < (k : Int)) = false := decide_eq_false (by omega)
        have q3 : decide (0 < k) = false := decide_eq_false (by omega)
        have HT0 := Lib.hid (HT.out.trans (if_pos h0))
        have HP := Lib.hid (fun W (hW : Below wr.heap.size wr W) => put_l w.heap.size (w.heap.size + 1) [] (NumM.text x) W (show IsTx w.heap.size (w.heap.size + 1) (Lib.byteCells []) W from by have h := HTX.out.below hW; rw [h0] at h; exact h) (by simp; have := HXL.out; omega) (Nat.le_trans hBs hW.size))
        clear HT htx hown h0 HTX
        go_wp2_with (go_at_call 34; refine HTE.out.mono ?_)
        rintro e w3 ⟨rfl, hb3⟩
        have hP3 := HP.out w3 hb3
        have HO3 := Lib.hid (own_below HOW.out hb3)
        have hB3 := hB.trans (hb3.mono hBs)
        clear HP hb3 hc1
        go_wp2_with (go_at_call 33; refine hP3.mono ?_)
        rintro e w4 ⟨rfl, ht4, hb4, hk4⟩
        have HO4 := Lib.hid (own_tx HO3.out hb4 HNB.out hk4)
        have hB4 := hB3.trans hb4
        clear hP3 HO3 hb4 hk4 hB3
        go_wp2
        go_roundw
        case rel => exact HK0.out _ _ (by rw [HT0.out]; exact ht4) HO4.out hB4 rfl
        case measure => simp [intOf]; omega
      · have q1 : decide ((k : Int) > 0) = true := decide_eq_true (by omega)
        have q2 : decide (0 < (k : Int)) = true := decide_eq_true (by omega)
        have q3 : decide (0 < k) = true := decide_eq_true (by omega)
        have HT0 := Lib.hid (HT.out.trans (if_neg h0))
        have HP0 := Lib.hid (put_l w.heap.size (w.heap.size + 1) (keyL (l.take k)) [32] wr HTX.out (by simp; have := HLN.out; omega) hBs)
        have HP := Lib.hid (fun W (h : IsTx w.heap.size (w.heap.size + 1) (Lib.byteCells (keyL (l.take k) ++ [32])) W) (hs : w.heap.size ≤ W.heap.size) => put_l w.heap.size (w.heap.size + 1) (keyL (l.take k) ++ [32]) (NumM.text x) W h (by simp; have := HLN.out; have := HXL.out; omega) hs)
        have HTE := Lib.hid (fun W => text_any x W HIX.out)
        clear HT htx hown h0 HTX
        go_wp2_with (go_at_call 33; refine HP0.out.mono ?_)
        rintro e w5 ⟨rfl, ht5, hb5, hk5⟩
        have HO5 := Lib.hid (own_tx HOW.out hb5 HNB.out hk5)
        have hB5 := hB.trans hb5
        have HX5 := Lib.hid ht5
        clear HP0 hb5 hk5 HOW hc1 ht5
        go_wp2_with (go_at_call 34; refine (HTE.out w5).mono ?_)
        rintro e w3 ⟨rfl, hb3⟩
        have HO3 := Lib.hid (own_below HO5.out hb3)
        have hB3 := hB5.trans (hb3.mono hB5.size)
        have hP3 := HP.out w3 (HX5.out.below hb3) hB3.size
        clear HP hb3 HX5 HO5 hB5
        go_wp2_with (go_at_call 33; refine hP3.mono ?_)
        rintro e w4 ⟨rfl, ht4, hb4, hk4⟩
        have HO4 := Lib.hid (own_tx HO3.out hb4 HNB.out hk4)
        have hB4 := hB3.trans hb4
        clear hP3 HO3 hb4 hk4 hB3
        go_wp2
        go_roundw
        case rel => exact HK0.out _ _ (by rw [HT0.out]; simpa using ht4) HO4.out hB4 rfl
        case measure => simp [intOf]; omega
    · obtain rfl : l.length = k := by omega
      rw [List.take_length] at htx
      have HRD := Lib.hid (bread_any w.heap.size (w.heap.size + 1) (keyL l) wr htx (keyL_ne (by intro e; have := HTW.out; rw [e] at this; simp at this) HIN.out))
      have HBS := Lib.hid hB
      clear htx hown hB
      go_wp2_with (go_at_call 35; refine HRD.out.mono ?_)
      rintro e w3 ⟨rfl, hb3⟩
      have hB3 := HBS.out.trans hb3
      go_wp2
      go_ret
      exact ⟨by rw [HKS.out]; rfl, hB3⟩
end Go.Proofs.YtmpjcfehabnhgaaDoor
namespace Go.Proofs.YtmpjcfehabnhgaaDoor
open Go.RowKit Go.Shelf
set_option linter.unusedVariables false
set_option linter.unusedSimpArgs false
open WordM (L)
open BfM (Wr)
open ScM
open EnM

theorem own_len {b n : Nat} {W : World} {v : Value} {xs : List Int} (h : W.ownsRow b 3 1 v n (xs.flatMap nuC)) (hl : xs.length = n) : OwnI b W v xs := by
  subst hl; exact h
/-- What enc.numbers hands back. -/
def NbRet (ls : List L) (w : World) (e : Ending) (w' : World) : Prop :=
  Below w.heap.size w w' ∧ (((∀ x ∈ ls, (NumM.get x).2 = true) ∧ ∃ u, e = .returned (.tuple #[u, .bool true]) ∧ OwnI w.heap.size w' u (ls.map fun x => (NumM.get x).1)) ∨ ((∃ x ∈ ls, (NumM.get x).2 = false) ∧ e = .returned (.tuple #[.slice none 0 0, .bool false])))
def NbRel (ls : List L) (w : World) (v i : Value) (wr : World) : Prop :=
  ∃ k : Nat, k ≤ ls.length ∧ i = .int .i64 k ∧ wr.ownsRow w.heap.size 3 1 v k (((ls.take k).map fun x => (NumM.get x).1).flatMap nuC) ∧ (∀ x ∈ ls.take k, (NumM.get x).2 = true) ∧ Below w.heap.size w wr
set_option maxHeartbeats 8000000 in
set_option maxRecDepth 100000 in
theorem numbers_any {B : Nat} {v : Value} {ls : List L} (w : World) (hs : Strs B w v ls) (hBB : B ≤ w.heap.size) (hl : ls.length ≤ 1000000) (hx : ∀ x ∈ ls, x.length ≤ 1000000) :
    Calls Tryd.prog 28 #[v] w (NbRet ls w) := by
  obtain ⟨i0, hi, hz0, hz1, hz2⟩ := info_parts info_nu
  obtain ⟨A1, c1, rfl, ha1, ha2, ha3⟩ := hs
  unfold maxLen at ha2
  obtain ⟨w2, hmk, hown2, hgr2⟩ := run_make_own (P := Tryd.prog) w w.heap.size 22 3 i0 (.int .i64 0) 1 Tryd.underlying22 hi hz0 hz1 .i64 .i64 ls.length (by rw [hz2]; omega) (by unfold maxLen; omega) (Nat.le_refl _)
  have hb2 : Below w.heap.size w w2 := ⟨hgr2.os, hgr2.tape, hgr2.output, hgr2.size, fun k hk => hgr2.block k hk (by simp)⟩
  have HST := Lib.hid (show NbRel ls w (.slice (some ⟨w.heap.size, 0, none⟩) 0 ls.length) (.int .i64 0) w2 from ⟨0, Nat.zero_le _, rfl, hown2, by simp, hb2⟩)
  have HX := Lib.hid hx
  clear hown2 hgr2 hb2 hx
  go_enter Tryd.func28, Tryd.ntmps28
  go_wp2
  go_loopw [4, 14] (fun v i wr => NbRel ls w v i wr) (fun _ i _ => ls.length - (intOf i).toNat)
  case atStart => exact HST.out
  case round =>
    clear HST
    obtain ⟨k, hk, rfl, hown, hall, hB⟩ := hrel
    by_cases hlt : k < ls.length
    · obtain ⟨b1, f1, rfl, hb1, hcl⟩ := ha3 (by omega)
      have e1 : wr.cell? ⟨b1, f1 + k, none⟩ = some (sv ls[k]) := ((hB.mono hBB).cell (p := ⟨b1, f1 + k, none⟩) hb1).trans (hcl k hlt)
      unfold sv at e1
      have HT := Lib.hid (show ls.take (k + 1) = ls.take k ++ [ls[k]] from List.take_succ_eq_append_getElem hlt)
      have HM := Lib.hid (List.getElem_mem hlt)
      have HG := Lib.hid (get_any ⟨ls[k].toArray⟩ wr (by have := HX.out _ (List.getElem_mem hlt); unfold maxLen; rw [Lib.size_eq]; show ls[k].length ≤ _; omega))
      obtain ⟨x, hx⟩ : ∃ x, x = ls[k] := ⟨_, rfl⟩
      rw [← hx] at e1 HT HG HM
      replace HG : Hid (Calls Tryd.prog 44 #[.string ⟨x.toArray⟩] wr fun e w' => e = .returned (.tuple #[.int .i64 (NumM.get x).1, .bool (NumM.get x).2]) ∧ Below wr.heap.size wr w') := HG
      obtain ⟨q, hq⟩ : ∃ q, q = NumM.get x := ⟨_, rfl⟩
      rw [← hq] at HG
      have HQ := Lib.hid hq
      obtain ⟨n, b⟩ := q
      have HAL := Lib.hid hall
      clear hx hcl ha3 hq hall
      dsimp only at HG
      cases b with
      | false =>
        go_wp2_with (go_at_call 44; refine HG.out.mono ?_)
        rintro e w3 ⟨rfl, hb3⟩
        have hB3 := hB.trans (hb3.mono hB.size)
        go_wp2
        go_ret2
        exact ⟨hB3, .inr ⟨⟨x, HM.out, by rw [← HQ.out]⟩, rfl⟩⟩
      | true =>
        go_wp2_with (go_at_call 44; refine HG.out.mono ?_)
        rintro e wa ⟨rfl, hb3⟩
        have hBa := hB.trans (hb3.mono hB.size)
        have hOa := own_below hown hb3
        have hsz := hBa.size
        clear HG e1 hown hB hb3
        go_wp2_with (at_builtin; refine wpList_append_own _ rfl _ _ 22 rfl w.heap.size 3 i0 (.int .i64 0) 1 8 Tryd.underlying22 hi hz0 hz1 hz2 rfl (by decide) _ _ _ rfl (hOa.alloc _) ⟨wa.heap.size, 0, none⟩ 1 1 [.int .i64 n] rfl rfl (cell_one_new _ _ _) (by simp [Value.oneCell']) (by unfold maxLen; omega) (by omega) (by simp; omega) ?_; intro v1 w1 hown1 hg1 _)
        have hB1 := below_append (hBa.alloc hBa.size (.cells #[.int .i64 n] 3)) (hOa.alloc _) (Nat.le_refl _) (by simp; omega) hg1
        go_roundw
        case rel => exact ⟨k + 1, by omega, by go_num, by rw [HT.out, List.map_append, List.flatMap_append]; simp only [List.map_cons, List.map_nil, ← HQ.out]; simpa [nuC] using hown1, by rw [HT.out]; intro y hy; rcases List.mem_append.1 hy with hy | hy; exact HAL.out y hy; obtain rfl := List.mem_singleton.1 hy; rw [← HQ.out], hB1⟩
        case measure => simp [intOf]; omega
    · obtain rfl : ls.length = k := by omega
      rw [List.take_length] at hown hall
      have HO := Lib.hid (own_len (xs := ls.map fun x => (NumM.get x).1) hown (by simp))
      clear hown ha3
      go_wp2
      go_ret2
      exact ⟨hB, .inl ⟨hall, _, rfl, HO.out⟩⟩
theorem readK_bad {k : L} (h : ∃ x ∈ WordM.words k, (NumM.get x).2 = false) : readK k = none := by
  obtain ⟨x, hx, hb⟩ := h
  cases e : readK k with
  | none => rfl
  | some s =>
    exfalso
    have h1 := readK_inv e
    unfold readK at e
    split at e
    · rename_i s' hs
      split at e
      · injection e with e
        subst e
        have h2 := ofN_inv hs
        have h3 : ∀ n ∈ numsS s', NumM.inR n := by
          rw [← h2]
          intro n hn
          obtain ⟨y, _, rfl⟩ := List.mem_map.1 hn
          exact NumM.get_range y
        have h4 := words_key (numsS s') h3
        change keyL (numsS s') = k at h1
        rw [h1] at h4
        rw [h4] at hx
        obtain ⟨n, hn, rfl⟩ := List.mem_map.1 hx
        rw [NumM.get_text n (h3 n hn)] at hb
        cases hb
      · cases e
    · cases e
theorem numsK_in (k : L) : ∀ n ∈ numsK k, NumM.inR n := by
  intro n hn
  obtain ⟨y, _, rfl⟩ := List.mem_map.1 hn
  exact NumM.get_range y
theorem words_mem_len {k x : L} (h : x ∈ WordM.words k) : x.length ≤ k.length := by
  have hc : ∀ (k x : L), x ∈ WordM.chunks 32 k → x.length ≤ k.length := by
    intro k
    induction k with
    | nil => intro x hx; cases hx
    | cons b l ih =>
      intro x hx
      unfold WordM.chunks at hx
      split at hx
      · rcases List.mem_cons.1 hx with rfl | hx
        · simp
        · have := ih x hx; simp; omega
      · rcases WordM.mem_consHd hx with hx | ⟨y, rfl, hy⟩
        · have := ih x hx; simp; omega
        · rcases hy with rfl | hy
          · simp
          · have := ih y hy; simp; omega
  unfold WordM.words at h
  exact hc k x (List.mem_filter.1 h).1
end Go.Proofs.YtmpjcfehabnhgaaDoor
namespace Go.Proofs.YtmpjcfehabnhgaaDoor
open Go.RowKit Go.Shelf
set_option linter.unusedVariables false
set_option linter.unusedSimpArgs false
open WordM (L)
open BfM (Wr)
open ScM
open EnM

theorem readK_none {k : L} (h : ofN (numsK k) = none) : readK k = none := by unfold readK; rw [h]
theorem readK_some {k : L} {s : Sta} (h : ofN (numsK k) = some s) : readK k = if keyS s = k then some s else none := by unfold readK; rw [h]
theorem ofN_in {k : L} {s : Sta} (h : ofN (numsK k) = some s) : ∀ n ∈ numsS s, NumM.inR n := by rw [← ofN_inv h]; exact numsK_in k
theorem ofN_len {l : List Int} {s : Sta} (h : ofN l = some s) : (numsS s).length = l.length := by rw [← ofN_inv h]
set_option maxHeartbeats 8000000 in
set_option maxRecDepth 100000 in
theorem read_any {a0 : Addr} (k : ByteArray) (w : World) (hE : ErG w.heap.size a0 w) (hk : k.size ≤ 1000000) :
    Calls Tryd.prog 13 #[.string k] w (OfRet (readK k.data.toList) w) := by
  have hw0 := Lib.hid (below_al (Below.refl w.heap.size w) (.cells #[.slice none 0 0, .slice none 0 0] 25))
  have hbr := BoxC.new w 25 #[.slice none 0 0, .slice none 0 0]
  have HW := Lib.hid (words_any k (w.alloc (.cells #[.slice none 0 0, .slice none 0 0] 25)) (by omega))
  have HE := Lib.hid (fun W (hW : Below w.heap.size w W) => (hE.below hW).more hW.size)
  have hwl := words_len k.data.toList
  rw [← Lib.size_eq] at hwl
  have hwm := Lib.hid (fun x (hx : x ∈ WordM.words k.data.toList) => show x.length ≤ 1000000 from by have := words_mem_len hx; rw [← Lib.size_eq] at this; omega)
  have hz : Tryd.prog.cellsOf 25 = 2 := by kernel_rfl
  have HNK := Lib.hid (show numsK k.data.toList = (WordM.words k.data.toList).map fun x => (NumM.get x).1 from rfl)
  have HBD := Lib.hid (fun h => readK_bad (k := k.data.toList) h)
  have HNO := Lib.hid (fun h => readK_none (k := k.data.toList) h)
  have HSO := Lib.hid (fun s h => readK_some (k := k.data.toList) (s := s) h)
  have HIN := Lib.hid (fun s h => ofN_in (k := k.data.toList) (s := s) h)
  have HLE := Lib.hid (fun s (h : ofN (numsK k.data.toList) = some s) => ofN_len h)
  generalize hws : WordM.words k.data.toList = ws at *
  generalize hnk : numsK k.data.toList = nk at *
  generalize hrk : readK k.data.toList = rk at *
  obtain ⟨gr, hgr⟩ : ∃ g, g = w.heap.size := ⟨_, rfl⟩
  have hlo : w.heap.size ≤ gr := by omega
  have HHR := Lib.hid (show BoxC (w.alloc (.cells #[.slice none 0 0, .slice none 0 0] 25)) gr 25 #[.slice none 0 0, .slice none 0 0] from by rw [hgr]; exact hbr)
  have HGR := Lib.hid hgr
  clear hE hbr hnk hrk hws hgr
  go_enter Tryd.func13, Tryd.ntmps13
  go_wp2_with (go_at_call 29; refine HW.out.mono ?_)
  rintro e w1 ⟨uw, rfl, how, hb1⟩
  rw [← HGR.out]
  have hB1 := hw0.out.trans (hb1.mono hw0.out.size)
  have HR1 := Lib.hid (HHR.out.below hb1 HHR.out.lt)
  have HNB := Lib.hid (numbers_any w1 (strs_own how) (Nat.le_refl _) (by omega) hwm.out)
  obtain ⟨Aw, cw, rfl⟩ := own_slice how
  clear HW HHR hb1 how hw0 hwm
  go_wp2_with (go_at_call 28; refine HNB.out.mono ?_)
  rintro e w2 ⟨hb2, ⟨hok, u, rfl, hou⟩ | ⟨hbad, rfl⟩⟩
  · rw [← HNK.out] at hou
    have hB2 := hB1.trans (hb2.mono hB1.size)
    have HR2 := Lib.hid (HR1.out.below hb2 HR1.out.lt)
    have hol := Lib.hid (show nk.length = ws.length by rw [HNK.out, List.length_map])
    have HOF := Lib.hid (of_any w2 (HE.out w2 hB2) (Rw.own (show w2.ownsRow w1.heap.size 3 1 u nk.length (nk.flatMap nuC) from hou) (Nat.le_refl _)) (by have := hol.out; omega))
    obtain ⟨Au, cu, rfl⟩ := own_slice hou
    clear HNB hb2 HR1 hB1 hou hok HBD
    go_wp2_with (go_at_call 11; refine HOF.out.mono ?_)
    rintro e w3 ⟨x, rfl, hx, hb3⟩
    have hB3 := hB2.trans (hb3.mono hB2.size)
    have HR3 := Lib.hid (HR2.out.below hb3 HR2.out.lt)
    clear HOF hb3 HR2
    obtain ⟨Am, nm, cm, At, nt, ct, rfl⟩ := hx.slices
    have HXV := Lib.hid (hx.base hB2.size)
    clear hx hB2
    have hal := below_al (Below.refl w3.heap.size w3) (.cells #[.slice Am nm cm, .slice At nt ct] 25)
    have hr4 := HR3.out.below hal HR3.out.lt
    have HB4 := Lib.hid (hB3.trans (hal.mono hB3.size))
    have hx4 := BoxC.new w3 25 #[.slice Am nm cm, .slice At nt ct]
    have HR4 := Lib.hid hr4
    have f0 := hr4.frozen 0
    have f1 := hr4.frozen 1
    have y0 := hr4.cell 0 _ rfl
    have y1 := hr4.cell 1 _ rfl
    have x0 := hx4.cell 0 _ rfl
    have x1 := hx4.cell 1 _ rfl
    have HX4 := Lib.hid hx4
    clear hal hr4 hx4 HR3 hB3
    cases ho : ofN nk with
    | none =>
      have HRK := Lib.hid (HNO.out ho)
      obtain ⟨W9, hW9⟩ : ∃ W, W = ((w3.alloc (.cells #[.slice Am nm cm, .slice At nt ct] 25)).setCell ⟨gr, 0, none⟩ (.slice none 0 0)).setCell ⟨gr, 1, none⟩ (.slice none 0 0) := ⟨_, rfl⟩
      have HB9 := Lib.hid (show BoxC W9 gr 25 #[.slice none 0 0, .slice none 0 0] from by rw [hW9]; exact (HR4.out.set 0 _).set 1 _)
      have HK9 := Lib.hid (show Below w.heap.size w W9 from by rw [hW9]; exact (HB4.out.setCell (p := ⟨gr, 0, none⟩) hlo _).setCell (p := ⟨gr, 1, none⟩) hlo _)
      have HW9 := Lib.hid hW9
      clear hW9 HXV HR4 HX4 HB4 HNO HSO HIN HLE HNK ho hol
      simp only [Option.isSome_none]
      go_wp2_with fail
      rw [← HW9.out]
      clear x0 x1 y0 y1 f0 f1
      have r0 := HB9.out.cell 0 _ rfl
      have r1 := HB9.out.cell 1 _ rfl
      refine bodyPost_ret (v := .tuple #[.agg #[.slice none 0 0, .slice none 0 0], .bool false]) (by simp [results, Tryd.results13, go_sem, r0, r1, hz]) rfl ?_
      rw [HRK.out]
      exact ⟨_, rfl, reps_zero _ _, HK9.out⟩
    | some s =>
      rw [ho] at HXV
      have HSS := Lib.hid (HSO.out s ho)
      have hlen := HLE.out s ho
      have hnl := hol.out
      have HXW := Lib.hid (HXV.out.below (below_al (Below.refl w3.heap.size w3) (.cells #[.slice Am nm cm, .slice At nt ct] 25)))
      have HKY := Lib.hid (key_any _ (HXW.out.read (Nat.le_refl _)) (Nat.le_refl _) (HIN.out s ho) (by show (numsS s).length ≤ _; omega))
      obtain ⟨ky, hky⟩ : ∃ x, x = keyS s := ⟨_, rfl⟩
      replace HKY : Hid (Calls Tryd.prog 18 #[.agg #[.slice Am nm cm, .slice At nt ct]] (w3.alloc (.cells #[.slice Am nm cm, .slice At nt ct] 25)) fun e w' => e = .returned (.string ⟨(keyS s).toArray⟩) ∧ Below (w3.alloc (.cells #[.slice Am nm cm, .slice At nt ct] 25)).heap.size (w3.alloc (.cells #[.slice Am nm cm, .slice At nt ct] 25)) w') := HKY
      rw [← hky] at HKY HSS
      have HKE := Lib.hid hky
      clear hky hlen hnl HNO HSO HIN HLE HNK hol HXV
      simp only [Option.isSome_some]
      go_wp2_with (go_at_call 18; refine HKY.out.mono ?_)
      rintro e w5 ⟨rfl, hb5⟩
      have hw34 := below_al (Below.refl w3.heap.size w3) (.cells #[.slice Am nm cm, .slice At nt ct] 25)
      have HB5 := Lib.hid (HB4.out.trans (hb5.mono HB4.out.size))
      have HR5 := Lib.hid (HR4.out.below hb5 HR4.out.lt)
      have HX5 := Lib.hid (HX4.out.below hb5 HX4.out.lt)
      have HV5 := Lib.hid (HXW.out.below hb5)
      clear f0 f1 y0 y1 x0 x1 hb5 hw34 HB4 HR4 HX4 HKY HXW
      have f0 := HR5.out.frozen 0
      have f1 := HR5.out.frozen 1
      have y0 := HR5.out.cell 0 _ rfl
      have y1 := HR5.out.cell 1 _ rfl
      have x0 := HX5.out.cell 0 _ rfl
      have x1 := HX5.out.cell 1 _ rfl
      by_cases hq : ky = k.data.toList
      · have HRK := Lib.hid (HSS.out.trans (if_pos hq))
        have qb := (strq k ky true (decide_eq_true hq.symm)).1
        have qc := (strq k ky true (decide_eq_true hq.symm)).2
        obtain ⟨W9, hW9⟩ : ∃ W, W = (w5.setCell ⟨gr, 0, none⟩ (.slice Am nm cm)).setCell ⟨gr, 1, none⟩ (.slice At nt ct) := ⟨_, rfl⟩
        have HB9 := Lib.hid (show BoxC W9 gr 25 #[.slice Am nm cm, .slice At nt ct] from by rw [hW9]; exact (HR5.out.set 0 _).set 1 _)
        have HK9 := Lib.hid (show Below w.heap.size w W9 from by rw [hW9]; exact (HB5.out.setCell (p := ⟨gr, 0, none⟩) hlo _).setCell (p := ⟨gr, 1, none⟩) hlo _)
        have HV9 := Lib.hid (show repS w.heap.size W9 (.agg #[.slice Am nm cm, .slice At nt ct]) ((some s).getD ⟨[], []⟩) from by
          rw [hW9]; exact (HV5.out.box HR5.out (by decide) (by decide) (by decide) 0 _).box (HR5.out.set 0 _) (by decide) (by decide) (by decide) 1 _)
        have HW9 := Lib.hid hW9
        clear hW9 HR5 HX5 HB5 HV5 hq HSS HKE
        go_wp2_with fail
        rw [← HW9.out]
        clear x0 x1 y0 y1 f0 f1
        have r0 := HB9.out.cell 0 _ rfl
        have r1 := HB9.out.cell 1 _ rfl
        refine bodyPost_ret (v := .tuple #[.agg #[.slice Am nm cm, .slice At nt ct], .bool true]) (by simp [results, Tryd.results13, go_sem, r0, r1, hz]) rfl ?_
        rw [HRK.out]
        exact ⟨_, rfl, HV9.out, HK9.out⟩
      · have HRK := Lib.hid (HSS.out.trans (if_neg hq))
        have qb := (strq k ky false (decide_eq_false (fun e => hq e.symm))).1
        have qc := (strq k ky false (decide_eq_false (fun e => hq e.symm))).2
        obtain ⟨W9, hW9⟩ : ∃ W, W = (w5.setCell ⟨gr, 0, none⟩ (.slice none 0 0)).setCell ⟨gr, 1, none⟩ (.slice none 0 0) := ⟨_, rfl⟩
        have HB9 := Lib.hid (show BoxC W9 gr 25 #[.slice none 0 0, .slice none 0 0] from by rw [hW9]; exact (HR5.out.set 0 _).set 1 _)
        have HK9 := Lib.hid (show Below w.heap.size w W9 from by rw [hW9]; exact (HB5.out.setCell (p := ⟨gr, 0, none⟩) hlo _).setCell (p := ⟨gr, 1, none⟩) hlo _)
        have HW9 := Lib.hid hW9
        clear hW9 HR5 HX5 HB5 HV5 hq HSS HKE
        go_wp2_with fail
        rw [← HW9.out]
        clear x0 x1 y0 y1 f0 f1
        have r0 := HB9.out.cell 0 _ rfl
        have r1 := HB9.out.cell 1 _ rfl
        refine bodyPost_ret (v := .tuple #[.agg #[.slice none 0 0, .slice none 0 0], .bool false]) (by simp [results, Tryd.results13, go_sem, r0, r1, hz]) rfl ?_
        rw [HRK.out]
        exact ⟨_, rfl, reps_zero _ _, HK9.out⟩
  · have hB2 := hB1.trans (hb2.mono hB1.size)
    have HR2 := Lib.hid (HR1.out.below hb2 HR1.out.lt)
    have HRK := Lib.hid (HBD.out hbad)
    have HB2 := Lib.hid hB2
    clear hbad hB2 hb2 hB1 HNO HSO HIN HLE HNK HBD HR1 HNB
    have f0 := HR2.out.frozen 0
    have f1 := HR2.out.frozen 1
    have y0 := HR2.out.cell 0 _ rfl
    have y1 := HR2.out.cell 1 _ rfl
    obtain ⟨W9, hW9⟩ : ∃ W, W = (w2.setCell ⟨gr, 0, none⟩ (.slice none 0 0)).setCell ⟨gr, 1, none⟩ (.slice none 0 0) := ⟨_, rfl⟩
    have HB9 := Lib.hid (show BoxC W9 gr 25 #[.slice none 0 0, .slice none 0 0] from by rw [hW9]; exact (HR2.out.set 0 _).set 1 _)
    have HK9 := Lib.hid (show Below w.heap.size w W9 from by rw [hW9]; exact (HB2.out.setCell (p := ⟨gr, 0, none⟩) hlo _).setCell (p := ⟨gr, 1, none⟩) hlo _)
    have HW9 := Lib.hid hW9
    clear hW9 HR2 HB2
    go_wp2_with fail
    rw [← HW9.out]
    clear y0 y1 f0 f1
    have r0 := HB9.out.cell 0 _ rfl
    have r1 := HB9.out.cell 1 _ rfl
    refine bodyPost_ret (v := .tuple #[.agg #[.slice none 0 0, .slice none 0 0], .bool false]) (by simp [results, Tryd.results13, go_sem, r0, r1, hz]) rfl ?_
    rw [HRK.out]
    exact ⟨_, rfl, reps_zero _ _, HK9.out⟩
end Go.Proofs.YtmpjcfehabnhgaaDoor
