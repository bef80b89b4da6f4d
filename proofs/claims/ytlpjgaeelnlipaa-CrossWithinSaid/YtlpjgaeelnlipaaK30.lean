/-
  slices.Clone over numbers, cells, atoms; slots.jump, landing, linesOf.
  slots.having: a program with other threads.
  WHAT slots.Insert HOLDS while it moves the jumps: rows of steps of the call's own, changed in place. Of no function of the program.
  slots.Insert.
  LAYER 14: cross.Raise, cross.Lower.
  LAYER 13: run.Over.
  LAYER 13: ends: what locations have, and all registers; run.End.
  LAYER 13: run.Ends.
  LAYER 13: ends and picks, alike.
  LAYER 13: Loose, Great, head: a live question whose answer is fixed.
  LAYER 14: what the laws' head asks, as mathematics.
-/
import Derived.Test.YtlpjgaeelnlipaaK29
import Derived.Test.YtlpjgaeelnlipaaK09
import Derived.Test.YtlpjgaeelnlipaaK10
import Derived.Deep.RegionHeld3
import Derived.Deep.DeepCutAuto
import Derived.Test.YtlpjgaeelnlipaaK21
import Derived.Test.YtlpjgaeelnlipaaK11
import Derived.Test.YtlpjgaeelnlipaaScX
import Derived.Test.YtlpjgaeelnlipaaK27
import Derived.Test.YtlpjgaeelnlipaaScW
set_option linter.unusedVariables false
set_option linter.unusedSimpArgs false
namespace Go.Proofs.Ytlpjgaeelnlipaa
open Go.RowKit
set_option linter.unusedVariables false
set_option linter.unusedSimpArgs false
open WordM (L)
open CodM (St Pg)
open VM (Fl)
open SlM

section
variable {A : Type} {one : A → List Value} {s : Nat}
theorem flat_len (h : ∀ a, (one a).length = s) : ∀ l : List A, (l.flatMap one).length = l.length * s
  | [] => by simp
  | a :: r => by rw [List.flatMap_cons, List.length_append, h a, flat_len h r, List.length_cons, Nat.succ_mul, Nat.add_comm]
theorem flat_at (h : ∀ a, (one a).length = s) : ∀ (l : List A) (j i : Nat) (hj : j < l.length), i < s → (l.flatMap one)[j * s + i]? = (one l[j])[i]?
  | [], j, i, hj, _ => absurd hj (Nat.not_lt_zero j)
  | a :: r, 0, i, hj, hi => by rw [List.flatMap_cons, Nat.zero_mul, Nat.zero_add, List.getElem?_append_left (by rw [h a]; exact hi)]; rfl
  | a :: r, j + 1, i, hj, hi => by
    rw [List.flatMap_cons, List.getElem?_append_right (by rw [h a, Nat.succ_mul]; omega), h a, show (j + 1) * s + i - s = j * s + i by rw [Nat.succ_mul]; omega, flat_at h r j i (by simpa using hj) hi]; rfl
theorem flat_src (hs : 0 < s) (h : ∀ a, (one a).length = s) {w : World} {b f : Nat} {l : List A} (hc : ∀ j (hj : j < l.length) i, i < s → w.cell? ⟨b, f + j * s + i, none⟩ = (one l[j])[i]?) : ∀ (q : Nat) (u : Value), (l.flatMap one)[q]? = some u → w.cell? ⟨b, f + q, none⟩ = some u := by
  intro q u hu
  have hq : q < l.length * s := by rw [← flat_len h]; exact (List.getElem?_eq_some_iff.1 hu).1
  have h1 : q / s < l.length := (Nat.div_lt_iff_lt_mul hs).2 hq
  have h2 : q % s < s := Nat.mod_lt _ hs
  have e : q = q / s * s + q % s := by rw [Nat.mul_comm]; exact (Nat.div_add_mod q s).symm
  have e2 := hc (q / s) h1 (q % s) h2
  rw [← flat_at h l (q / s) (q % s) h1 h2, ← e, Nat.add_assoc, ← e, hu] at e2
  exact e2
theorem flat_own (h : ∀ a, (one a).length = s) {w : World} {base : Nat} {T : TypeId} {v : Value} {l : List A} (ho : w.ownsRow base T s v l.length (l.flatMap one)) :
    (v = .slice none 0 0 ∧ l.length = 0) ∨ ∃ g cap, v = .slice (some ⟨g, 0, none⟩) l.length cap ∧ g < w.heap.size ∧ l.length ≤ cap ∧ cap ≤ maxLen ∧ ∀ j (hj : j < l.length) i, i < s → w.cell? ⟨g, j * s + i, none⟩ = (one l[j])[i]? := by
  rcases id ho.2 with ⟨rfl, h0⟩ | ⟨g, cap, cur, rfl, hbg, hg, hnc, hcm, hcs, htake⟩
  · exact .inl ⟨rfl, h0⟩
  · refine .inr ⟨g, cap, rfl, (Array.getElem?_eq_some_iff.1 hg).1, hnc, hcm, fun j hj i hi => ?_⟩
    have hb : j * s + i < l.length * s := by
      have : (j + 1) * s ≤ l.length * s := Nat.mul_le_mul_right s hj
      rw [Nat.succ_mul] at this; omega
    rw [ho.cellAt (j * s + i) hb, flat_at h l j i hj hi]
end
def inC (n : Int) : List Value := [.int .i64 n]
theorem ints_own {w : World} {base B : Nat} {T : TypeId} {v : Value} {l : List Int} (h : w.ownsRow base T 1 v l.length (l.flatMap inC)) (hB : w.heap.size ≤ B) : Ints B w v l := by
  rcases flat_own (one := inC) (s := 1) (fun _ => rfl) h with ⟨rfl, h0⟩ | ⟨g, cap, rfl, hg, h1, h2, hc⟩
  · exact ⟨none, 0, by rw [h0], by omega, by decide, fun k => absurd k (by omega)⟩
  · refine ⟨_, cap, rfl, h1, h2, fun _ => ⟨g, 0, rfl, by omega, fun j hj => ?_⟩⟩
    have := hc j hj 0 (by omega)
    rw [Nat.mul_one, Nat.add_zero] at this
    unfold IntAt; rw [Nat.zero_add]; exact this
theorem info_cin : (Try.prog.info? 3).map (fun i => (i.zero, i.size, i.bytes)) = some (some (.int .i64 0), 1, 8) := by kernel_rfl
set_option maxHeartbeats 4000000 in
set_option maxRecDepth 100000 in
theorem slclonei_any {B : Nat} {v : Value} {l : List (Int)} (w : World) (hv : Ints B w v l) (hBB : B ≤ w.heap.size) (hl : l.length ≤ 1000000) :
    Calls Try.prog 43 #[v] w fun e w' => ∃ u, e = .returned u ∧ w'.ownsRow w.heap.size 3 1 u l.length (l.flatMap inC) ∧ Below w.heap.size w w' := by
  obtain ⟨A, c, rfl, h1, h2, h3⟩ := hv
  unfold maxLen at h2
  obtain ⟨i0, hi0, hz0, hz1, hz2⟩ := info_parts info_cin
  have heq := fun (W : World) (a : Option Addr) (n c : Nat) => Lib.run_eql_slice_nil (P := Try.prog) W 22 3 a n c 0 0 Try.underlying22
  cases A with
  | none =>
    have h0 : l.length = 0 := by
      rcases Nat.eq_zero_or_pos l.length with h | h
      · exact h
      · obtain ⟨b, f, e, _⟩ := h3 h; cases e
    have HE := Lib.hid (List.eq_nil_of_length_eq_zero h0)
    clear h0 h1 h2 h3
    go_enter Try.func43, Try.ntmps43
    go_wp2
    go_ret
    rw [HE.out]
    exact ⟨_, rfl, World.ownsRow_nil _ _ _ _, Below.refl _ _⟩
  | some ad =>
    obtain ⟨b, f, sp⟩ := ad
    have HC := Lib.hid (show ∀ (q : Nat) (u : Value), (l.flatMap inC)[q]? = some u → (w.alloc (.cells #[] 3)).cell? ((⟨b, f, sp⟩ : Addr).add q) = some u from fun q u hu => by
      have hp : 0 < l.length := by
        rcases Nat.eq_zero_or_pos l.length with h | h
        · rw [List.eq_nil_of_length_eq_zero h] at hu; cases hu
        · exact h
      obtain ⟨b', f', e, hb, hc⟩ := h3 hp
      injection e with e; injection e with e1 e2 e3; subst e1; subst e2; subst e3
      rw [Addr.add_lit]
      have := flat_src (one := inC) (s := 1) (by decide) (fun _ => rfl) (l := l) (w := w) (b := b) (f := f) (fun j hj i hi => by
        have := hc j hj; unfold IntAt at this; obtain rfl : i = 0 := by omega
        rw [Nat.mul_one, Nat.add_zero]; exact this) q u hu
      exact kc (below_al (Below.refl _ _) _) this)
    have HL := Lib.hid (flat_len (one := inC) (s := 1) (fun _ => rfl) l)
    have HO := Lib.hid (show (w.alloc (.cells #[] 3)).ownsRow w.heap.size 3 1 (.slice (some ⟨w.heap.size, 0, none⟩) 0 0) 0 [] from by
      have := World.ownsRow_lit (base := w.heap.size) (e := 3) (size := 1) w #[] 0 (Nat.le_refl _) (by decide) rfl
      simpa using this)
    have HON := Lib.hid (show ∀ u ∈ l.flatMap inC, u.oneCell' = true from fun u hu => by
      obtain ⟨x, _, hx⟩ := List.mem_flatMap.1 hu
      simp only [inC, List.mem_cons, List.not_mem_nil, or_false] at hx
      subst hx; rfl)
    have hB1 := below_al (Below.refl w.heap.size w) (.cells #[] 3)
    clear h3
    go_enter Try.func43, Try.ntmps43
    go_wp2_with (at_builtin; refine wpList_append_own _ rfl _ _ 22 rfl w.heap.size 3 i0 (.int .i64 0) 1 8 Try.underlying22 hi0 hz0 hz1 hz2 rfl (by decide) _ 0 [] rfl HO.out ⟨b, f, sp⟩ l.length c (l.flatMap inC) rfl HL.out HC.out HON.out (by unfold maxLen; omega) (by omega) (by simp) ?_; intro v1 w1 hown1 hg1 _; obtain ⟨A8, c8, rfl⟩ := own_slice hown1)
    go_ret
    simp only [Nat.zero_add, List.nil_append] at hown1
    refine ⟨_, rfl, hown1, below_append hB1 HO.out (Nat.le_refl _) (by simp) hg1⟩
theorem jump_any (x : St) (w : World) :
    Calls Try.prog 46 #[.agg #[.int .i64 x.op, .int .i64 x.reg, .int .i64 x.loc, .int .i64 x.n, .int .i64 x.to]] w fun e w' => e = .returned (.bool (jmpS x)) ∧ Below w.heap.size w w' := by
  have hB := below_al (Below.refl w.heap.size w) (.cells #[.int .i64 x.op, .int .i64 x.reg, .int .i64 x.loc, .int .i64 x.n, .int .i64 x.to] 39)
  go_enter Try.func46, Try.ntmps46
  go_wp2
  all_goals go_ret
  all_goals exact ⟨by simp [jmpS, *, Bool.or_assoc], below_al (Below.refl _ _) _⟩
set_option maxHeartbeats 2000000 in
set_option maxRecDepth 100000 in
theorem land_any {bp N ge gf gt t len : Nat} {f : Int → Int → Bool} (tn : Nat) (w : World) (ce : w.cell? ⟨ge, 0, none⟩ = some (.int .i64 (len : Int))) (cf : w.cell? ⟨gf, 0, none⟩ = some (.map (some bp))) (ct : w.cell? ⟨gt, 0, none⟩ = some (.int .i64 (t : Int)))
    (hm : MapP w bp N f) (hl : len ≤ 1000000) (ht : t ≤ 1000000) (hto : tn ≤ 1000000) :
    Calls Try.prog 63 #[.int .i64 (tn : Int), .pointer (some ⟨ge, 0, none⟩), .pointer (some ⟨gf, 0, none⟩), .pointer (some ⟨gt, 0, none⟩)] w fun e w' => e = .returned (.int .i64 (land (fun k => f (t : Int) (k : Int)) len tn)) ∧ w' = w := by
  obtain ⟨m, hmi⟩ : ∃ m : Nat, m = min tn len := ⟨_, rfl⟩
  have HLA := Lib.hid (show land (fun k => f (t : Int) (k : Int)) len tn = (tn : Int) + (cntC (fun k => f (t : Int) (k : Int)) m : Nat) by unfold land; rw [hmi]; congr 3; omega)
  have hml : m ≤ 1000000 := by omega
  have HCN := Lib.hid (fun k => show cntC (fun k => f (t : Int) (k : Int)) (k + 1) = cntC (fun k => f (t : Int) (k : Int)) k + (if f (t : Int) (k : Int) then 1 else 0) from rfl)
  have HC0 := Lib.hid (show cntC (fun k => f (t : Int) (k : Int)) 0 = 0 from rfl)
  have HCL := Lib.hid (fun k => cntC_le (fun k => f (t : Int) (k : Int)) k)
  generalize cntC (fun k => f (t : Int) (k : Int)) = C at *
  have wt : (Lit.int .i64 (t : Int)).wf = true := WalkArith.wf_i64 (by omega)
  by_cases hc : tn ≤ len
  · obtain rfl : m = tn := by omega
    clear hmi
    have hci : (m : Int) ≤ (len : Int) := by omega
    go_enter Try.func63, Try.ntmps63
    go_wp2
    go_loopw [6, 12] (fun v i wr => ∃ k : Nat, k ≤ m ∧ i = .int .i64 k ∧ v = .int .i64 ((m : Int) + (C k : Nat)) ∧ wr = w) (fun _ i _ => m - (intOf i).toNat)
    case atStart => exact ⟨0, Nat.zero_le _, rfl, by rw [HC0.out]; simp, rfl⟩
    case round =>
      obtain ⟨k, hk, rfl, rfl, rfl⟩ := hrel
      by_cases hlt : k < m
      · have wk : (Lit.int .i64 (k : Int)).wf = true := WalkArith.wf_i64 (by omega)
        have hcn := Lib.hid (HCN.out k)
        have hcl := HCL.out k
        obtain ⟨q, hq⟩ : ∃ q, q = C k := ⟨_, rfl⟩
        rw [← hq] at hcn hcl ⊢
        clear hq
        cases hfk : f (t : Int) (k : Int)
        · go_wp2_with (at_lookup; refine at_mapP _ rfl _ _ rfl bp N _ rfl hm (t : Int) (k : Int) rfl wt wk ?_; rw [hfk]; try go_frame)
          go_roundw
          case rel => exact ⟨k + 1, by omega, by go_num, by rw [hcn.out, hfk]; simp, by simp⟩
          case measure => simp [intOf]; omega
        · go_wp2_with (at_lookup; refine at_mapP _ rfl _ _ rfl bp N _ rfl hm (t : Int) (k : Int) rfl wt wk ?_; rw [hfk]; try go_frame)
          go_roundw
          case rel => exact ⟨k + 1, by omega, by go_num, by rw [hcn.out, hfk]; simp; omega, by simp⟩
          case measure => simp [intOf]; omega
      · obtain rfl : m = k := by omega
        go_wp2
        go_ret
        exact ⟨by rw [HLA.out]; rfl, rfl⟩
  · obtain rfl : m = len := by omega
    clear hmi
    have hci : ¬ (tn : Int) ≤ (m : Int) := by omega
    have hci2 : (m : Int) < (tn : Int) := by omega
    go_enter Try.func63, Try.ntmps63
    go_wp2
    go_loopw [6, 12] (fun v i wr => ∃ k : Nat, k ≤ m ∧ i = .int .i64 k ∧ v = .int .i64 ((tn : Int) + (C k : Nat)) ∧ wr = w) (fun _ i _ => m - (intOf i).toNat)
    case atStart => exact ⟨0, Nat.zero_le _, rfl, by rw [HC0.out]; simp, rfl⟩
    case round =>
      obtain ⟨k, hk, rfl, rfl, rfl⟩ := hrel
      by_cases hlt : k < m
      · have wk : (Lit.int .i64 (k : Int)).wf = true := WalkArith.wf_i64 (by omega)
        have hcn := Lib.hid (HCN.out k)
        have hcl := HCL.out k
        obtain ⟨q, hq⟩ : ∃ q, q = C k := ⟨_, rfl⟩
        rw [← hq] at hcn hcl ⊢
        clear hq
        cases hfk : f (t : Int) (k : Int)
        · go_wp2_with (at_lookup; refine at_mapP _ rfl _ _ rfl bp N _ rfl hm (t : Int) (k : Int) rfl wt wk ?_; rw [hfk]; try go_frame)
          go_roundw
          case rel => exact ⟨k + 1, by omega, by go_num, by rw [hcn.out, hfk]; simp, by simp⟩
          case measure => simp [intOf]; omega
        · go_wp2_with (at_lookup; refine at_mapP _ rfl _ _ rfl bp N _ rfl hm (t : Int) (k : Int) rfl wt wk ?_; rw [hfk]; try go_frame)
          go_roundw
          case rel => exact ⟨k + 1, by omega, by go_num, by rw [hcn.out, hfk]; simp; omega, by simp⟩
          case measure => simp [intOf]; omega
      · obtain rfl : m = k := by omega
        go_wp2
        go_ret
        exact ⟨by rw [HLA.out]; rfl, rfl⟩
end Go.Proofs.Ytlpjgaeelnlipaa
namespace Go.Proofs.Ytlpjgaeelnlipaa
open Go.RowKit
set_option linter.unusedVariables false
set_option linter.unusedSimpArgs false
open WordM (L)
open VM (Fl)
open SlM

/-- Block g is a box of these cells. -/
def SlBoxC (W : World) (g : Nat) (T : TypeId) (cs : Array Value) : Prop := W.heap[g]? = some (.cells cs T (0, 0))
theorem SlBoxC.lt {W : World} {g : Nat} {T : TypeId} {cs : Array Value} (h : SlBoxC W g T cs) : g < W.heap.size := (Array.getElem?_eq_some_iff.1 h).1
theorem SlBoxC.cell {W : World} {g : Nat} {T : TypeId} {cs : Array Value} (h : SlBoxC W g T cs) (i : Nat) (v : Value) (hv : cs[i]? = some v) : W.cell? ⟨g, i, none⟩ = some v := by simp [World.cell?, show W.heap[g]? = _ from h, hv]
theorem SlBoxC.frozen {W : World} {g : Nat} {T : TypeId} {cs : Array Value} (h : SlBoxC W g T cs) (i : Nat) : W.frozen? ⟨g, i, none⟩ = false := by simp [World.frozen?, show W.heap[g]? = _ from h]
theorem SlBoxC.below {W W' : World} {B g : Nat} {T : TypeId} {cs : Array Value} (h : SlBoxC W g T cs) (hb : Below B W W') (hg : g < B) : SlBoxC W' g T cs := (hb.block g hg).trans h
theorem SlBoxC.new (W : World) (T : TypeId) (cs : Array Value) : SlBoxC (W.alloc (.cells cs T)) W.heap.size T cs := World.alloc_heap_new W _
theorem SlBoxC.alloc {W : World} {g : Nat} {T : TypeId} {cs : Array Value} (h : SlBoxC W g T cs) (o : Obj) : SlBoxC (W.alloc o) g T cs := h.below (below_al (Below.refl _ W) o) h.lt
theorem SlBoxC.set {W : World} {g : Nat} {T : TypeId} {cs : Array Value} (h : SlBoxC W g T cs) (i : Nat) (v : Value) : SlBoxC (W.setCell ⟨g, i, none⟩ v) g T (cs.setIfInBounds i v) := heap_setCell_same W g i cs T v h
theorem SlBoxC.other {W : World} {g b : Nat} {T : TypeId} {cs : Array Value} (h : SlBoxC W g T cs) (hne : g ≠ b) (i : Nat) (v : Value) : SlBoxC (W.setCell ⟨b, i, none⟩ v) g T cs :=
  ((slgrown_set W b i v).block g h.lt (fun e => by injection e with e; exact hne e)).trans h
/-- W' is W but for what is new, and the blocks H. -/
structure Off (H : Nat → Prop) (W W' : World) : Prop where
  size : W.heap.size ≤ W'.heap.size
  block : ∀ k, k < W.heap.size → ¬ H k → W'.heap[k]? = W.heap[k]?
theorem Off.refl (H : Nat → Prop) (W : World) : Off H W W := ⟨Nat.le_refl _, fun _ _ _ => rfl⟩
theorem Off.below {H : Nat → Prop} {W W' : World} (h : Below W.heap.size W W') : Off H W W' := ⟨h.size, fun k hk _ => h.block k hk⟩
theorem Off.trans {H : Nat → Prop} {W W' W2 : World} (h : Off H W W') (k : Off H W' W2) : Off H W W2 :=
  ⟨Nat.le_trans h.size k.size, fun i hi hn => (k.block i (Nat.lt_of_lt_of_le hi h.size) hn).trans (h.block i hi hn)⟩
theorem Off.set {H : Nat → Prop} {W W' : World} (h : Off H W W') {g : Nat} (hg : H g) (i : Nat) (v : Value) : Off H W (W'.setCell ⟨g, i, none⟩ v) :=
  ⟨Nat.le_trans h.size (slgrown_set W' g i v).size, fun k hk hn => ((slgrown_set W' g i v).block k (Nat.lt_of_lt_of_le hk h.size) (fun e => by injection e with e; subst e; exact hn hg)).trans (h.block k hk hn)⟩
end Go.Proofs.Ytlpjgaeelnlipaa
namespace Go.Proofs.Ytlpjgaeelnlipaa
open Go.RowKit
set_option linter.unusedVariables false
set_option linter.unusedSimpArgs false
open CodM (St Pg)
open SlM

theorem slown_box {W : World} {base s n g : Nat} {T T' : TypeId} {v : Value} {xs : List Value} {cs : Array Value} (h : W.ownsRow base T s v n xs) (hb : SlBoxC W g T' cs) (hT : T ≠ T') : v.ownBlock = none ∨ v.ownBlock ≠ some g := by
  rcases h.2 with ⟨rfl, _⟩ | ⟨g2, cap, cur, rfl, _, hg, _⟩
  · exact .inl rfl
  · right
    intro e
    have e : g2 = g := by simpa [Value.ownBlock] using e
    subst e
    rw [show W.heap[g2]? = _ from hb] at hg
    injection hg with hg; injection hg with _ h _
    exact hT h.symm
theorem SlBoxC.kept {W W' : World} {g : Nat} {T : TypeId} {cs : Array Value} {row : Option Nat} (h : SlBoxC W g T cs) (hg : W.grownBy W' row) (hne : row ≠ some g) : SlBoxC W' g T cs := (hg.block g h.lt (fun e => hne e.symm)).trans h
section
variable {A : Type}
def rowsG (full rest : Nat → List A) (part : List A) (n i : Nat) : List (List A) := (List.range n).map fun j => if j < i then full j else if j = i then part else rest j
theorem rowsG_len (full rest : Nat → List A) (part : List A) (n i : Nat) : (rowsG full rest part n i).length = n := by simp [rowsG]
theorem rowsG_at (full rest : Nat → List A) (part : List A) {n i : Nat} (h : i < n) : (rowsG full rest part n i)[i]'(by rw [rowsG_len]; exact h) = part := by simp [rowsG]
theorem rowsG_set (full rest : Nat → List A) (part part' : List A) {n i : Nat} (h : i < n) : (rowsG full rest part n i).set i part' = rowsG full rest part' n i := by
  refine List.ext_getElem (by simp [rowsG_len]) (fun j h1 h2 => ?_)
  by_cases e : j = i
  · subst e; rw [List.getElem_set_self, rowsG_at full rest part' h]
  · rw [List.getElem_set_ne (Ne.symm e)]; simp [rowsG, e]
theorem rowsG_next (full rest : Nat → List A) (n i : Nat) : rowsG full rest (full i) n i = rowsG full rest (rest (i + 1)) n (i + 1) := by
  unfold rowsG
  refine List.map_congr_left (fun j _ => ?_)
  by_cases e : j < i
  · simp [e, show j < i + 1 by omega]
  · by_cases e2 : j = i
    · subst e2; simp
    · by_cases e3 : j = i + 1
      · subst e3; simp; intro h; exact absurd h (by omega)
      · simp [e, e2, e3, show ¬ j < i + 1 by omega]
theorem rowsG_zero (full rest : Nat → List A) (n : Nat) : rowsG full rest (rest 0) n 0 = (List.range n).map rest := by
  unfold rowsG
  refine List.map_congr_left (fun j _ => ?_)
  by_cases e : j = 0
  · subst e; simp
  · simp [e]
theorem rowsG_end (full rest : Nat → List A) (p : List A) (n : Nat) : rowsG full rest p n n = (List.range n).map full := by
  unfold rowsG
  refine List.map_congr_left (fun j hj => ?_)
  simp [List.mem_range.1 hj]
end
/-- The first k steps changed. -/
def pm (m : St → St) (R : List St) (k : Nat) : List St := (R.take k).map m ++ R.drop k
theorem pm_len (m : St → St) (R : List St) (k : Nat) : (pm m R k).length = R.length := by unfold pm; rw [List.length_append, List.length_map, List.length_take, List.length_drop]; omega
theorem pm_end (m : St → St) (R : List St) : pm m R R.length = R.map m := by unfold pm; rw [List.take_length, List.drop_length, List.append_nil]
theorem pm_get (m : St → St) (R : List St) {k : Nat} (hk : k ≤ R.length) (j : Nat) : (pm m R k)[j]? = (R[j]?).map (fun s => if j < k then m s else s) := by
  unfold pm
  by_cases hl : j < k
  · rw [List.getElem?_append_left (by simp; omega), List.getElem?_map, List.getElem?_take, if_pos hl]; simp [hl]
  · rw [List.getElem?_append_right (by simp; omega), List.getElem?_drop]
    simp only [List.length_map, List.length_take, Nat.min_eq_left hk]
    rw [show k + (j - k) = j by omega]
    simp [hl]
theorem pm_at (m : St → St) (R : List St) {k : Nat} (h : k < R.length) : (pm m R k)[k]'(by rw [pm_len]; exact h) = R[k] := by
  have := pm_get m R (Nat.le_of_lt h) k
  rw [List.getElem?_eq_getElem (by rw [pm_len]; exact h), List.getElem?_eq_getElem h] at this
  simpa using this
theorem pm_next (m : St → St) (R : List St) {k : Nat} (h : k < R.length) : pm m R (k + 1) = (pm m R k).set k (m R[k]) := by
  refine List.ext_getElem? (fun j => ?_)
  rw [pm_get m R h, List.getElem?_set, pm_get m R (Nat.le_of_lt h), pm_len]
  by_cases e : k = j
  · subst e
    rw [if_pos rfl, if_pos h, List.getElem?_eq_getElem h]; simp
  · rw [if_neg e]
    congr 1; funext s
    by_cases hl : j < k
    · simp [hl, show j < k + 1 by omega]
    · simp [hl, show ¬ j < k + 1 by omega]
theorem pm_same (m : St → St) (R : List St) {k : Nat} (h : k < R.length) (hm : m R[k] = R[k]) : pm m R (k + 1) = pm m R k := by
  rw [pm_next m R h, hm]
  refine List.ext_getElem (by simp) (fun j h1 h2 => ?_)
  by_cases e : j = k
  · subst e; rw [List.getElem_set_self, pm_at m R h]
  · rw [List.getElem_set_ne (Ne.symm e)]
theorem stsCs_set : ∀ (l : List St) (k : Nat) (hk : k < l.length) (x : Int), stsCs (l.set k ⟨l[k].op, l[k].reg, l[k].loc, l[k].n, x⟩) = (stsCs l).set (k * 5 + 4) (.int .i64 x)
  | [], k, hk, _ => absurd hk (Nat.not_lt_zero k)
  | s :: r, 0, hk, x => by
    rw [List.set_cons_zero, stsCs, stsCs]
    show _ = ((stCs s) ++ stsCs r).set 4 _
    rw [List.set_append_left _ _ (by show 4 < 5; omega)]; rfl
  | s :: r, k + 1, hk, x => by
    rw [List.set_cons_succ, stsCs, stsCs, List.set_append_right _ _ (by show 5 ≤ _; omega)]
    have := stsCs_set r k (by simpa using hk) x
    simp only [List.getElem_cons_succ]
    rw [this]
    show _ ++ _ = _ ++ (stsCs r).set ((k + 1) * 5 + 4 - 5) _
    rw [show (k + 1) * 5 + 4 - 5 = k * 5 + 4 by omega]
theorem cntC_congr {c c' : Nat → Bool} : ∀ n, (∀ k, k < n → c k = c' k) → cntC c n = cntC c' n
  | 0, _ => rfl
  | n + 1, h => by rw [cntC, cntC, cntC_congr n (fun k hk => h k (by omega)), h n (Nat.lt_succ_self n)]
theorem mv_congr {c c' : Nat → Bool} {len : Nat} (h : ∀ k, k < len → c k = c' k) (s : St) : mv c len s = mv c' len s := by
  unfold mv land
  rw [cntC_congr _ (fun k hk => h k (by omega))]
/-- The code with fences at the places that f tells. -/
def insF (f : Int → Int → Bool) (P : Pg) : Pg := ⟨P.init, (List.range P.ths.length).map fun (t : Nat) => (wthN (fun q => f (t : Int) (q : Int)) fenS (P.ths.getD t []) (P.ths.getD t []).length).map (mv (fun q => f (t : Int) (q : Int)) (P.ths.getD t []).length)⟩
theorem insF_eq {f : Int → Int → Bool} {P : Pg} {g : List Int} (h : ∀ t k (ht : t < P.ths.length), k < P.ths[t].length → f (t : Nat) (k : Nat) = ch anyS P.ths g t k) : insF f P = insP P g := by
  have e : (insF f P).ths = (insP P g).ths := by
    refine List.ext_getElem (by rw [insP_len]; simp [insF]) (fun t h1 h2 => ?_)
    have ht : t < P.ths.length := by rw [insP_len] at h2; exact h2
    rw [insP_row g ht]
    simp only [insF, List.getElem_map, List.getElem_range, SlM.getD_at ht]
    rw [wthN_congr fenS P.ths[t] _ (fun k hk => h t k ht hk)]
    refine List.map_congr_left (fun s _ => mv_congr (fun k hk => h t k ht hk) s)
  show Pg.mk (insF f P).init (insF f P).ths = Pg.mk (insP P g).init (insP P g).ths
  rw [e]; rfl
theorem mem_wthN {A : Type} {c : Nat → Bool} {x : A} {l : List A} : ∀ {n : Nat} {s : A}, s ∈ wthN c x l n → s = x ∨ s ∈ l
  | 0, _, h => by cases h
  | n + 1, s, h => by
    rw [wthN] at h
    rcases List.mem_append.1 h with h | h
    · exact mem_wthN h
    · rcases List.mem_append.1 h with h | h
      · split at h
        · exact .inl (by simpa using h)
        · cases h
      · right
        cases e : l[n]? with
        | none => rw [e] at h; cases h
        | some y => rw [e] at h; rw [show s = y by simpa using h]; exact List.mem_of_getElem? e
structure IS (b : Nat) (WW : World) (ns : List Int) (ui : Value) (gm gq n : Nat) (vs : List Value) (xss : List (List St)) (W : World) : Prop where
  ini : W.ownsRow b 3 1 ui ns.length (ns.flatMap inC)
  more : W.ownsRow b 40 1 (.slice (some ⟨gm, 0, none⟩) n n) n vs
  rows : RowsA W b 39 stsCs vs xss
  box : SlBoxC W gq 25 #[ui, .slice (some ⟨gm, 0, none⟩) n n]
  below : Below b WW W
section
variable {b gm gq n : Nat} {WW W W' : World} {ns : List Int} {ui : Value} {vs : List Value} {xss : List (List St)}
theorem IS.grow (h : IS b WW ns ui gm gq n vs xss W) (hb : Below W.heap.size W W') (hbW : b ≤ WW.heap.size) : IS b WW ns ui gm gq n vs xss W' :=
  ⟨own_below h.ini hb, own_below h.more hb, h.rows.below hb, h.box.below hb h.box.lt, h.below.trans (hb.mono (Nat.le_trans hbW h.below.size))⟩
theorem RowsA.cell {A : Type} {base g N cap : Nat} {T : TypeId} {cs : List A → List Value} {vs : List Value} {xss : List (List A)} {W : World} (h : RowsA W base T cs vs xss) {i m : Nat} (hu : vs[i]? = some (.slice (some ⟨g, 0, none⟩) N cap)) {v : Value} {ys : List A}
    (hi : i < xss.length) (hy : ys.length = xss[i].length) (hcs : cs ys = (cs xss[i]).set m v) : RowsA (W.setCell ⟨g, m, none⟩ v) base T cs vs (xss.set i ys) := by
  obtain ⟨hi', ho⟩ := h.of hu
  have hN : xss[i].length = N := by
    rcases ho.2 with ⟨e, _⟩ | ⟨_, _, _, e, _⟩
    · cases e
    · injection e with _ e _; exact e.symm
  rw [hN] at ho
  have hst := ho.stored m v
  refine ⟨by simp [h.len], fun j hj => ?_, h.apart⟩
  have hj' : j < xss.length := by simpa using hj
  by_cases e : j = i
  · subst e
    refine ⟨_, hu, ?_⟩
    rw [List.getElem_set_self, hcs, hy, hN]
    exact hst.1
  · obtain ⟨u, h1, h2⟩ := h.own j hj'
    refine ⟨u, h1, ?_⟩
    rw [List.getElem_set_ne (Ne.symm e)]
    exact h2.kept hst.2 (by have := h.apart j i u _ e h1 hu; simpa [Value.ownBlock] using this)
theorem IS.cell (h : IS b WW ns ui gm gq n vs xss W) {i m N cap g : Nat} (hu : vs[i]? = some (.slice (some ⟨g, 0, none⟩) N cap)) {v : Value} {ys : List St} (hi : i < xss.length) (hy : ys.length = xss[i].length) (hcs : stsCs ys = (stsCs xss[i]).set m v) :
    IS b WW ns ui gm gq n vs (xss.set i ys) (W.setCell ⟨g, m, none⟩ v) ∧ W.grownBy (W.setCell ⟨g, m, none⟩ v) (some g) := by
  obtain ⟨hi', ho⟩ := h.rows.of hu
  have hg := slgrown_set W g m v
  have hob : (Value.slice (some ⟨g, 0, none⟩) N cap).ownBlock = some g := rfl
  refine ⟨⟨?_, ?_, h.rows.cell hu hi hy hcs, ?_, h.below.setCell (p := ⟨g, m, none⟩) (ho.lt g rfl).1 v⟩, hg⟩
  · exact h.ini.kept hg (by have := cdown_apart (by decide) h.ini ho; rwa [hob] at this)
  · exact h.more.kept hg (by have := cdown_apart (by decide) h.more ho; rwa [hob] at this)
  · refine h.box.kept hg (fun e => ?_)
    rcases slown_box ho h.box (by decide) with e2 | e2
    · cases e2
    · exact e2 e
end
end Go.Proofs.Ytlpjgaeelnlipaa
namespace Go.Proofs.Ytlpjgaeelnlipaa
open Go.RowKit
set_option linter.unusedVariables false
set_option linter.unusedSimpArgs false
open CodM (St Pg)
open SlM

theorem sl_nilz {w : World} {base : Nat} {e : TypeId} {size n : Nat} {v : Value} {xs : List Value} (h : w.ownsRow base e size v n xs) : NilZ v := by
  rcases h.2 with ⟨rfl, rfl⟩ | ⟨g, cap, cur, rfl, _⟩
  · intro n c e; injection e with _ _ e; exact e.symm
  · intro n c e; injection e with e; cases e
/-- A code whose rows are all of the call's own. -/
def PgO (base : Nat) (W : World) (u : Value) (P : Pg) : Prop := ∃ ui ut vs, u = .agg #[ui, ut] ∧ W.ownsRow base 3 1 ui P.init.length (P.init.flatMap inC) ∧ W.ownsRow base 40 1 ut P.ths.length vs ∧
  ∀ q (hq : q < P.ths.length), ∃ v, vs[q]? = some v ∧ W.ownsRow base 39 5 v P.ths[q].length (stsCs P.ths[q])
theorem PgO.v {base : Nat} {W : World} {u : Value} {P : Pg} (h : PgO base W u P) : PgV W.heap.size W u P := by
  obtain ⟨ui, ut, vs, rfl, h1, h2, h3⟩ := h
  exact ⟨_, _, rfl, ints_own h1 (Nat.le_refl _), sss_of_own h2 (Nat.le_refl _) (fun q hq => by
    obtain ⟨v, e1, e2⟩ := h3 q hq
    exact ⟨v, e1, sts_of_own e2 (Nat.le_refl _)⟩)⟩
theorem PgO.nz {base : Nat} {W : World} {u : Value} {P : Pg} (h : PgO base W u P) : ∀ vi vt, u = .agg #[vi, vt] → NilZ vi := by
  obtain ⟨ui, ut, vs, rfl, h1, -, -⟩ := h
  intro a b e
  injection e with e; injection e with e; injection e with e1 e2
  exact e1 ▸ sl_nilz h1
theorem rows_base {A : Type} {W : World} {b b' : Nat} {T : TypeId} {cs : List A → List Value} {vs : List Value} {xss : List (List A)} (h : RowsA W b T cs vs xss) (hb : b' ≤ b) : RowsA W b' T cs vs xss :=
  ⟨h.len, fun j hj => by obtain ⟨u, h1, h2⟩ := h.own j hj; exact ⟨u, h1, own_base h2 hb⟩, h.apart⟩
theorem is_made {b gm gq n : Nat} {WW W : World} {ns : List Int} {ui : Value} {vs : List Value} {xss : List (List St)} (h1 : W.ownsRow b 3 1 ui ns.length (ns.flatMap inC)) (h2 : W.ownsRow b 40 1 (.slice (some ⟨gm, 0, none⟩) n n) n vs)
    (h3 : RowsA W b 39 stsCs vs xss) (h4 : SlBoxC W gq 25 #[.slice none 0 0, .slice none 0 0]) (hgq : b ≤ gq) (h5 : Below b WW W) :
    IS b WW ns ui gm gq n vs xss ((W.setCell ⟨gq, 0, none⟩ ui).setCell ⟨gq, 1, none⟩ (.slice (some ⟨gm, 0, none⟩) n n)) := by
  have hb1 := h4.set 0 ui
  have k1 : ∀ {s m : Nat} {T : TypeId} {v : Value} {xs : List Value}, T ≠ 25 → W.ownsRow b T s v m xs → ((W.setCell ⟨gq, 0, none⟩ ui).setCell ⟨gq, 1, none⟩ (.slice (some ⟨gm, 0, none⟩) n n)).ownsRow b T s v m xs := fun hT h => by
    have ha := h.kept (slgrown_set W gq 0 ui) (slown_box h h4 hT)
    exact ha.kept (slgrown_set _ gq 1 _) (slown_box ha hb1 hT)
  refine ⟨k1 (by decide) h1, k1 (by decide) h2, ⟨h3.len, fun j hj => ?_, h3.apart⟩, hb1.set 1 _, (h5.setCell (p := ⟨gq, 0, none⟩) hgq _).setCell (p := ⟨gq, 1, none⟩) hgq _⟩
  obtain ⟨u, e1, e2⟩ := h3.own j hj
  exact ⟨u, e1, k1 (by decide) e2⟩
theorem landing_any (bp : Nat) (i n : Int) (w : World) :
    Calls Try.prog 45 #[.map (some bp), .int .i64 i, .int .i64 n] w fun e w' => ∃ gf gt ge, e = .returned (.func (.func 63) #[] #[.pointer (some ⟨ge, 0, none⟩), .pointer (some ⟨gf, 0, none⟩), .pointer (some ⟨gt, 0, none⟩)]) ∧
      SlBoxC w' gf 82 #[.map (some bp)] ∧ SlBoxC w' gt 3 #[.int .i64 i] ∧ SlBoxC w' ge 3 #[.int .i64 n] ∧ Below w.heap.size w w' := by
  have b1 := ((SlBoxC.new w 82 #[.map (some bp)]).alloc (.cells #[.int .i64 i] 3)).alloc (.cells #[.int .i64 n] 3)
  have b2 := (SlBoxC.new (w.alloc (.cells #[.map (some bp)] 82)) 3 #[.int .i64 i]).alloc (.cells #[.int .i64 n] 3)
  have b3 := SlBoxC.new ((w.alloc (.cells #[.map (some bp)] 82)).alloc (.cells #[.int .i64 i] 3)) 3 #[.int .i64 n]
  rw [World.size_alloc] at b2
  rw [World.size_alloc, World.size_alloc] at b3
  have hB := below_al (below_al (below_al (Below.refl w.heap.size w) (.cells #[.map (some bp)] 82)) (.cells #[.int .i64 i] 3)) (.cells #[.int .i64 n] 3)
  have hst : ∀ (W : World) (a : Addr) (f : Fn) (x y : Array Value), (store a (.func f x y)).run Try.prog W = _ := fun W a f x y => run_store Try.prog W a (.func f x y) _ rfl
  go_enter Try.func45, Try.ntmps45
  go_wp2
  go_ret
  exact ⟨w.heap.size, w.heap.size + 1, w.heap.size + 1 + 1, rfl, b1, b2, b3, hB⟩
set_option maxHeartbeats 8000000 in
set_option maxRecDepth 100000 in
theorem insert_any {B : Nat} {v vg : Value} {P : Pg} {g : List Int} (w : World) (hv : PgV B w v P) (hg : Ints B w vg g) (hBB : B ≤ w.heap.size) (hi : P.init.length ≤ 1000000) (hl : P.ths.length ≤ 1000000) (hll : ∀ ss ∈ P.ths, ss.length ≤ 1000000) (hgl : g.length ≤ 1000000)
    (hj : ∀ ss ∈ P.ths, ∀ s ∈ ss, jmpS s = true → 0 ≤ s.5 ∧ s.5 ≤ 1000000) :
    Calls Try.prog 30 #[v, vg] w fun e w' => ∃ u, e = .returned u ∧ PgO w.heap.size w' u (insP P g) ∧ Below w.heap.size w w' := by
  obtain ⟨vi, vt, rfl, hm⟩ := hv
  have HM := Lib.hid hm
  have HG := Lib.hid hg
  have HN1 := Lib.hid hi
  have HN2 := Lib.hid hl
  have HN3 := Lib.hid hll
  have HN4 := Lib.hid hgl
  have HJ := Lib.hid hj
  obtain ⟨⟨P0, c0, rfl, -⟩, ⟨P1, c1, rfl, l1, l2, l3⟩⟩ := hm
  obtain ⟨PG, cg, rfl, -⟩ := hg
  unfold maxLen at l2
  obtain ⟨W1, hW1⟩ : ∃ W, W = (w.alloc (.cells #[(.slice P0 P.init.length c0), (.slice P1 P.ths.length c1)] 25)).alloc (.cells #[.slice none 0 0, .slice none 0 0] 25) := ⟨_, rfl⟩
  have hB1 := Lib.hid (show Below w.heap.size w W1 from by rw [hW1]; exact below_al (below_al (Below.refl _ w) _) _)
  have HPB := Lib.hid (show SlBoxC W1 w.heap.size 25 #[(.slice P0 P.init.length c0), (.slice P1 P.ths.length c1)] from by rw [hW1]; exact (SlBoxC.new w _ _).alloc _)
  have HRB := Lib.hid (show SlBoxC W1 (w.heap.size + 1) 25 #[.slice none 0 0, .slice none 0 0] from by
    rw [hW1]; have := SlBoxC.new (w.alloc (.cells #[(.slice P0 P.init.length c0), (.slice P1 P.ths.length c1)] 25)) 25 #[.slice none 0 0, .slice none 0 0]
    rw [World.size_alloc] at this; exact this)
  have HCH := Lib.hid (callsIn_wide.1 (chosens_in Fence.wide 10 trivial trivial trivial trivial trivial trivial rfl (by omega) (B := B) (v := (.slice P1 P.ths.length c1)) (vg := .slice PG g.length cg) (ths := P.ths) (g := g) W1 (HM.out.2.below (hB1.out.mono hBB)) (HG.out.below (hB1.out.mono hBB)) (Nat.le_trans hBB hB1.out.size) HN2.out HN3.out HN4.out))
  rw [hW1] at HCH
  go_enter Try.func30, Try.ntmps30
  go_wp2_with fail
  refine HCH.out.mono ?_
  rintro e WW ⟨bp, f, rfl, hbp1, hbp2, hmp, hf, hba⟩
  rw [← hW1] at hba
  have HF := Lib.hid hf
  have hBW := Lib.hid (hB1.out.trans (hba.mono hB1.out.size))
  have HPW := Lib.hid (HPB.out.below hba HPB.out.lt)
  have HRW := Lib.hid (HRB.out.below hba HRB.out.lt)
  have HMP := Lib.hid (fun X (hX : Below WW.heap.size WW X) => hmp.below hX hbp1)
  have HBP := Lib.hid (fun X (hX : Below WW.heap.size WW X) => Nat.lt_of_lt_of_le hbp1 hX.size)
  have hBWW : B ≤ WW.heap.size := Nat.le_trans hBB hBW.out.size
  have HBX := Lib.hid (fun X (hX : Below WW.heap.size WW X) => Nat.le_trans hBWW hX.size)
  have HIN := Lib.hid (fun X (hX : Below WW.heap.size WW X) => (HM.out.1.below (hBW.out.mono hBB)).below (hX.mono hBWW))
  have HTH := Lib.hid (fun X (hX : Below WW.heap.size WW X) => (HM.out.2.below (hBW.out.mono hBB)).below (hX.mono hBWW))
  have HS := Lib.hid (fun X (hX : Below WW.heap.size WW X) => (show ((X.cell? ⟨w.heap.size, 0, none⟩ = some (.slice P0 P.init.length c0) ∧ X.cell? ⟨w.heap.size, 1, none⟩ = some (.slice P1 P.ths.length c1)) ∧ Below WW.heap.size WW X) from ⟨⟨(HPW.out.below hX HPW.out.lt).cell 0 _ rfl, (HPW.out.below hX HPW.out.lt).cell 1 _ rfl⟩, hX⟩))
  clear hW1 HCH hba hmp hf hbp1 hbp2
  have p1 := HPW.out.cell 1 _ rfl
  go_upto_region 2 with fail
  clear p1
  go_cut [6] (fun s6 wx => ∃ gq gm vs ui, s6 = .pointer (some ⟨gq, 0, none⟩) ∧ IS WW.heap.size WW P.init ui gm gq P.ths.length vs ((List.range P.ths.length).map (fun (t : Nat) => wthN (fun q => f (t : Int) (q : Int)) fenS (P.ths.getD t []) (P.ths.getD t []).length)) wx)
  case first =>
    refine wp_region_held_drew (S := (fun w' => (w'.cell? ⟨w.heap.size, 0, none⟩ = some (.slice P0 P.init.length c0) ∧ w'.cell? ⟨w.heap.size, 1, none⟩ = some (.slice P1 P.ths.length c1)) ∧ Below WW.heap.size WW w')) (by kernel_rfl) (HS.out _ (below_drewN (Below.refl _ _) 1)) (fun hHeld => ?_)
    obtain ⟨X0, hX0⟩ : ∃ W, W = WW.drew := ⟨_, rfl⟩
    have HLX0 := Lib.hid (show Below WW.heap.size WW X0 from by rw [hX0]; exact below_drewN (Below.refl _ _) 1)
    rw [← hX0] at hHeld ⊢
    clear hX0
    refine wpAnyH_take (i := 0) (v := ?_) rfl (by kernel_rfl) (by kernel_rfl) (by kernel_rfl) (fun _ _ _ h => h) (Or.inl ⟨by rfl, ?_⟩) (by assumption) ?_
    rotate_left
    · intro w hSw; (try dsimp only at hSw); go_simp; (try with_reducible rfl)
    (try simp only [Act.put, pt8])
    refine wpAnyH_take (i := 1) (v := ?_) rfl (by kernel_rfl) (by kernel_rfl) (by kernel_rfl) (fun _ _ _ h => h) (Or.inl ⟨by rfl, ?_⟩) (by assumption) ?_
    rotate_left
    · intro w hSw; (try dsimp only at hSw); go_simp; (try with_reducible rfl)
    (try simp only [Act.put, pt8])
    refine wpAnyH_take (i := 3) (v := ?_) rfl (by kernel_rfl) (by kernel_rfl) (by kernel_rfl) (fun _ _ _ h => h) (Or.inl ⟨by rfl, ?_⟩) (by assumption) ?_
    rotate_left
    · intro w hSw; (try dsimp only at hSw); go_simp; (try with_reducible rfl)
    (try simp only [Act.put, pt8])
    refine wpAnyH_take (i := 4) (v := ?_) rfl (by kernel_rfl) (by kernel_rfl) (by kernel_rfl) (fun _ _ _ h => h) (Or.inl ⟨by rfl, ?_⟩) (by assumption) ?_
    rotate_left
    · intro w hSw; (try dsimp only at hSw); go_simp; (try with_reducible rfl)
    (try simp only [Act.put, pt8])
    refine wpAnyH_take (i := 5) (v := ?_) rfl (by kernel_rfl) (by kernel_rfl) (by kernel_rfl) (fun _ _ _ h => h) (Or.inl ⟨by rfl, ?_⟩) (by assumption) ?_
    rotate_left
    · intro w hSw; (try dsimp only at hSw); go_simp; (try with_reducible rfl)
    (try simp only [Act.put, pt8])
    refine wpAnyH_take (i := 6) (v := ?_) rfl (by kernel_rfl) (by kernel_rfl) (by kernel_rfl) (fun _ _ _ h => h) (Or.inl ⟨by rfl, ?_⟩) (by assumption) ?_
    rotate_left
    · intro w hSw; (try dsimp only at hSw); go_simp; (try with_reducible rfl)
    (try simp only [Act.put, pt8])
    refine wpAnyH_ready (rs := [2, 9]) (by kernel_rfl) (by simp) ?_
    refine AllReadyH.cons rfl (fun K hK => ?_) (AllReadyH.cons rfl (fun K hK => ?_) (AllReadyH.nil))
    · -- 2 first
      go_simp
      refine (slclonei_any _ (HIN.out _ HLX0.out) (HBX.out _ HLX0.out) HN1.out).mono ?_
      rintro e wa ⟨u1, rfl, hu1, hba⟩
      obtain ⟨Au1, cu1, rfl⟩ := own_slice hu1
      have HLwa := Lib.hid (chain HLX0.out hba)
      have HU1 := Lib.hid (own_base hu1 HLX0.out.size)
      clear hba hu1
      refine hK.out _ _ (HS.out _ HLwa.out) (fun hHeld => ?_)
      clear hK K
      (try simp only [Act.put, pt8])
      refine wpAnyH_ready (rs := [7, 9]) (by kernel_rfl) (by simp) ?_
      refine AllReadyH.cons rfl (fun K hK => ?_) (AllReadyH.cons rfl (fun K hK => ?_) (AllReadyH.nil))
      · -- 7 first
        go_simp
        refine (withs_any fenS _ (HTH.out _ HLwa.out) (HBX.out _ HLwa.out) (HMP.out _ HLwa.out) (HBP.out _ HLwa.out) HN2.out HN3.out).mono ?_
        rintro e wb ⟨gm, vs, rfl, hmo, hro, hba⟩
        have HLwb := Lib.hid (chain HLwa.out hba)
        replace HU1 := Lib.hid (own_below HU1.out hba)
        have HMO := Lib.hid (own_base hmo HLwa.out.size)
        have HRO := Lib.hid (rows_base hro HLwa.out.size)
        clear hba hmo hro
        refine hK.out _ _ (HS.out _ HLwb.out) (fun hHeld => ?_)
        clear hK K
        (try simp only [Act.put, pt8])
        refine wpAnyH_take (i := 8) (v := ?_) rfl (by kernel_rfl) (by kernel_rfl) (by kernel_rfl) (fun _ _ _ h => h) (Or.inl ⟨by rfl, ?_⟩) (by assumption) ?_
        rotate_left
        · intro w hSw; (try dsimp only at hSw); go_simp; (try with_reducible rfl)
        (try simp only [Act.put, pt8])
        refine wpAnyH_ready (rs := [9]) (by kernel_rfl) (by simp) ?_
        refine AllReadyH.cons rfl (fun K hK => ?_) AllReadyH.nil
        go_simp
        refine hK.out _ _ (HS.out _ (below_al HLwb.out (.cells #[.slice none 0 0, .slice none 0 0] 25))) (fun hHeld => ?_)
        clear hK K
        (try simp only [Act.put, pt8])
        obtain ⟨gq, hgq⟩ : ∃ g, g = wb.heap.size := ⟨_, rfl⟩
        obtain ⟨xq, hxq⟩ : ∃ W, W = wb.alloc (.cells #[.slice none 0 0, .slice none 0 0] 25) := ⟨_, rfl⟩
        have hba := Lib.hid (show Below wb.heap.size wb xq from by rw [hxq]; exact below_al (Below.refl _ _) _)
        have HLxq := Lib.hid (chain HLwb.out hba.out)
        replace HU1 := Lib.hid (own_below HU1.out hba.out)
        replace HMO := Lib.hid (own_below HMO.out hba.out)
        replace HRO := Lib.hid (HRO.out.below hba.out)
        have HQ := Lib.hid (show SlBoxC xq gq 25 #[.slice none 0 0, .slice none 0 0] from by rw [hxq, hgq]; exact SlBoxC.new _ _ _)
        have HGQ := Lib.hid (show WW.heap.size ≤ gq from by rw [hgq]; exact HLwb.out.size)
        rw [← hxq] at hHeld ⊢
        rw [← hgq]
        clear hxq hgq hba
        refine wpAnyH_ready (rs := [10]) (by kernel_rfl) (by simp) ?_
        refine AllReadyH.cons rfl (fun K hK => ?_) AllReadyH.nil
        have q0 := HQ.out.cell 0 _ rfl
        have q1 := HQ.out.cell 1 _ rfl
        have f0 := HQ.out.frozen 0
        have f1 := HQ.out.frozen 1
        go_simp
        refine hK.out _ _ (HS.out _ ((HLxq.out.setCell (p := ⟨gq, 0, none⟩) HGQ.out _).setCell (p := ⟨gq, 1, none⟩) HGQ.out _)) (fun hHeld => ?_)
        clear hK K
        (try simp only [Act.put, pt8])
        clear q0 q1 f0 f1
        refine wpAnyH_done (by kernel_rfl) ?_ _
        have HIS := Lib.hid (is_made HU1.out HMO.out HRO.out HQ.out HGQ.out HLxq.out)
        clear hHeld
        go_wp2_with fail
        go_meet
        exact ⟨gq, gm, vs, _, rfl, HIS.out⟩
      · -- 9 first
        go_simp
        refine hK.out _ _ (HS.out _ (below_al HLwa.out (.cells #[.slice none 0 0, .slice none 0 0] 25))) (fun hHeld => ?_)
        clear hK K
        (try simp only [Act.put, pt8])
        obtain ⟨gq, hgq⟩ : ∃ g, g = wa.heap.size := ⟨_, rfl⟩
        obtain ⟨xq, hxq⟩ : ∃ W, W = wa.alloc (.cells #[.slice none 0 0, .slice none 0 0] 25) := ⟨_, rfl⟩
        have hba := Lib.hid (show Below wa.heap.size wa xq from by rw [hxq]; exact below_al (Below.refl _ _) _)
        have HLxq := Lib.hid (chain HLwa.out hba.out)
        replace HU1 := Lib.hid (own_below HU1.out hba.out)
        have HQ := Lib.hid (show SlBoxC xq gq 25 #[.slice none 0 0, .slice none 0 0] from by rw [hxq, hgq]; exact SlBoxC.new _ _ _)
        have HGQ := Lib.hid (show WW.heap.size ≤ gq from by rw [hgq]; exact HLwa.out.size)
        rw [← hxq] at hHeld ⊢
        rw [← hgq]
        clear hxq hgq hba
        refine wpAnyH_ready (rs := [7]) (by kernel_rfl) (by simp) ?_
        refine AllReadyH.cons rfl (fun K hK => ?_) AllReadyH.nil
        go_simp
        refine (withs_any fenS _ (HTH.out _ HLxq.out) (HBX.out _ HLxq.out) (HMP.out _ HLxq.out) (HBP.out _ HLxq.out) HN2.out HN3.out).mono ?_
        rintro e wb ⟨gm, vs, rfl, hmo, hro, hba⟩
        have HLwb := Lib.hid (chain HLxq.out hba)
        replace HU1 := Lib.hid (own_below HU1.out hba)
        replace HQ := Lib.hid (HQ.out.below hba HQ.out.lt)
        have HMO := Lib.hid (own_base hmo HLxq.out.size)
        have HRO := Lib.hid (rows_base hro HLxq.out.size)
        clear hba hmo hro
        refine hK.out _ _ (HS.out _ HLwb.out) (fun hHeld => ?_)
        clear hK K
        (try simp only [Act.put, pt8])
        refine wpAnyH_take (i := 8) (v := ?_) rfl (by kernel_rfl) (by kernel_rfl) (by kernel_rfl) (fun _ _ _ h => h) (Or.inl ⟨by rfl, ?_⟩) (by assumption) ?_
        rotate_left
        · intro w hSw; (try dsimp only at hSw); go_simp; (try with_reducible rfl)
        (try simp only [Act.put, pt8])
        refine wpAnyH_ready (rs := [10]) (by kernel_rfl) (by simp) ?_
        refine AllReadyH.cons rfl (fun K hK => ?_) AllReadyH.nil
        have q0 := HQ.out.cell 0 _ rfl
        have q1 := HQ.out.cell 1 _ rfl
        have f0 := HQ.out.frozen 0
        have f1 := HQ.out.frozen 1
        go_simp
        refine hK.out _ _ (HS.out _ ((HLwb.out.setCell (p := ⟨gq, 0, none⟩) HGQ.out _).setCell (p := ⟨gq, 1, none⟩) HGQ.out _)) (fun hHeld => ?_)
        clear hK K
        (try simp only [Act.put, pt8])
        clear q0 q1 f0 f1
        refine wpAnyH_done (by kernel_rfl) ?_ _
        have HIS := Lib.hid (is_made HU1.out HMO.out HRO.out HQ.out HGQ.out HLwb.out)
        clear hHeld
        go_wp2_with fail
        go_meet
        exact ⟨gq, gm, vs, _, rfl, HIS.out⟩
    · -- 9 first
      go_simp
      refine hK.out _ _ (HS.out _ (below_al HLX0.out (.cells #[.slice none 0 0, .slice none 0 0] 25))) (fun hHeld => ?_)
      clear hK K
      (try simp only [Act.put, pt8])
      obtain ⟨gq, hgq⟩ : ∃ g, g = X0.heap.size := ⟨_, rfl⟩
      obtain ⟨xq, hxq⟩ : ∃ W, W = X0.alloc (.cells #[.slice none 0 0, .slice none 0 0] 25) := ⟨_, rfl⟩
      have hba := Lib.hid (show Below X0.heap.size X0 xq from by rw [hxq]; exact below_al (Below.refl _ _) _)
      have HLxq := Lib.hid (chain HLX0.out hba.out)
      have HQ := Lib.hid (show SlBoxC xq gq 25 #[.slice none 0 0, .slice none 0 0] from by rw [hxq, hgq]; exact SlBoxC.new _ _ _)
      have HGQ := Lib.hid (show WW.heap.size ≤ gq from by rw [hgq]; exact HLX0.out.size)
      rw [← hxq] at hHeld ⊢
      rw [← hgq]
      clear hxq hgq hba
      refine wpAnyH_ready (rs := [2]) (by kernel_rfl) (by simp) ?_
      refine AllReadyH.cons rfl (fun K hK => ?_) AllReadyH.nil
      go_simp
      refine (slclonei_any _ (HIN.out _ HLxq.out) (HBX.out _ HLxq.out) HN1.out).mono ?_
      rintro e wa ⟨u1, rfl, hu1, hba⟩
      obtain ⟨Au1, cu1, rfl⟩ := own_slice hu1
      have HLwa := Lib.hid (chain HLxq.out hba)
      replace HQ := Lib.hid (HQ.out.below hba HQ.out.lt)
      have HU1 := Lib.hid (own_base hu1 HLxq.out.size)
      clear hba hu1
      refine hK.out _ _ (HS.out _ HLwa.out) (fun hHeld => ?_)
      clear hK K
      (try simp only [Act.put, pt8])
      refine wpAnyH_ready (rs := [7]) (by kernel_rfl) (by simp) ?_
      refine AllReadyH.cons rfl (fun K hK => ?_) AllReadyH.nil
      go_simp
      refine (withs_any fenS _ (HTH.out _ HLwa.out) (HBX.out _ HLwa.out) (HMP.out _ HLwa.out) (HBP.out _ HLwa.out) HN2.out HN3.out).mono ?_
      rintro e wb ⟨gm, vs, rfl, hmo, hro, hba⟩
      have HLwb := Lib.hid (chain HLwa.out hba)
      replace HU1 := Lib.hid (own_below HU1.out hba)
      replace HQ := Lib.hid (HQ.out.below hba HQ.out.lt)
      have HMO := Lib.hid (own_base hmo HLwa.out.size)
      have HRO := Lib.hid (rows_base hro HLwa.out.size)
      clear hba hmo hro
      refine hK.out _ _ (HS.out _ HLwb.out) (fun hHeld => ?_)
      clear hK K
      (try simp only [Act.put, pt8])
      refine wpAnyH_take (i := 8) (v := ?_) rfl (by kernel_rfl) (by kernel_rfl) (by kernel_rfl) (fun _ _ _ h => h) (Or.inl ⟨by rfl, ?_⟩) (by assumption) ?_
      rotate_left
      · intro w hSw; (try dsimp only at hSw); go_simp; (try with_reducible rfl)
      (try simp only [Act.put, pt8])
      refine wpAnyH_ready (rs := [10]) (by kernel_rfl) (by simp) ?_
      refine AllReadyH.cons rfl (fun K hK => ?_) AllReadyH.nil
      have q0 := HQ.out.cell 0 _ rfl
      have q1 := HQ.out.cell 1 _ rfl
      have f0 := HQ.out.frozen 0
      have f1 := HQ.out.frozen 1
      go_simp
      refine hK.out _ _ (HS.out _ ((HLwb.out.setCell (p := ⟨gq, 0, none⟩) HGQ.out _).setCell (p := ⟨gq, 1, none⟩) HGQ.out _)) (fun hHeld => ?_)
      clear hK K
      (try simp only [Act.put, pt8])
      clear q0 q1 f0 f1
      refine wpAnyH_done (by kernel_rfl) ?_ _
      have HIS := Lib.hid (is_made HU1.out HMO.out HRO.out HQ.out HGQ.out HLwb.out)
      clear hHeld
      go_wp2_with fail
      go_meet
      exact ⟨gq, gm, vs, _, rfl, HIS.out⟩
  case rest =>
    obtain ⟨gq, gm, vs, ui, rfl, hIS⟩ := hcut
    obtain ⟨Au1, cu1, rfl⟩ := own_slice hIS.ini
    obtain ⟨R, hR⟩ : ∃ R : Nat → List St, R = (fun (t : Nat) => wthN (fun q => f (t : Int) (q : Int)) fenS (P.ths.getD t []) (P.ths.getD t []).length) := ⟨_, rfl⟩
    obtain ⟨M, hM⟩ : ∃ M : Nat → St → St, M = fun (t : Nat) => mv (fun q => f (t : Int) (q : Int)) (P.ths.getD t []).length := ⟨_, rfl⟩
    rw [← hR, ← rowsG_zero (fun t => (R t).map (M t)) R] at hIS
    have HI0 := Lib.hid hIS
    have HINS := Lib.hid (show insP P g = ⟨P.init, (List.range P.ths.length).map fun t => (R t).map (M t)⟩ from by rw [← insF_eq HF.out, hR, hM]; rfl)
    have HRL := Lib.hid (fun (t : Nat) (ht : t < P.ths.length) => show (R t).length ≤ 2000000 from by
      have h1 := wthN_len (fun q => f (t : Int) (q : Int)) fenS (P.ths.getD t []) (P.ths.getD t []).length
      have h2 := HN3.out _ (List.getElem_mem ht)
      rw [hR]; simp only [SlM.getD_at ht] at h1 ⊢; omega)
    have HRJ := Lib.hid (fun (t : Nat) (ht : t < P.ths.length) (s : St) (hs : s ∈ R t) (hjs : jmpS s = true) => show ∃ tn : Nat, s.5 = (tn : Int) ∧ tn ≤ 1000000 from by
      rw [hR] at hs
      rcases mem_wthN hs with rfl | hs
      · cases hjs
      · rw [SlM.getD_at ht] at hs
        obtain ⟨h1, h2⟩ := HJ.out _ (List.getElem_mem ht) s hs hjs
        exact ⟨s.5.toNat, by omega, by omega⟩)
    have HMJ := Lib.hid (fun (t : Nat) (ht : t < P.ths.length) (s : St) => show M t s = mv (fun q => f (t : Int) (q : Int)) P.ths[t].length s from by rw [hM]; simp only [SlM.getD_at ht])
    clear hR hM hIS HF
    have b1 := HI0.out.box.cell 1 _ rfl
    have b0 := HI0.out.box.cell 0 _ rfl
    go_wp2
    go_loopw [28] (fun i wr => ∃ j : Nat, j ≤ P.ths.length ∧ i = .int .i64 j ∧ IS WW.heap.size WW P.init (.slice Au1 P.init.length cu1) gm gq P.ths.length vs (rowsG (fun t => (R t).map (M t)) R (R j) P.ths.length j) wr) (fun i _ => P.ths.length - (intOf i).toNat)
    case atStart => exact ⟨0, Nat.zero_le _, rfl, HI0.out⟩
    case round =>
      clear b0 b1
      obtain ⟨j, hj, rfl, hI⟩ := hrel
      by_cases hlt : j < P.ths.length
      · obtain ⟨u, hu, ho⟩ := hI.rows.own j (by rw [rowsG_len]; exact hlt)
        rw [rowsG_at _ _ _ hlt] at ho
        obtain ⟨Aj, cj, rfl⟩ := own_slice ho
        have c32 : wr.cell? ⟨gm, j, none⟩ = some (.slice Aj (R j).length cj) := by rw [hI.more.cellAt j (by omega)]; exact hu
        have pb1 := (HPW.out.below hI.below HPW.out.lt).cell 1 _ rfl
        obtain ⟨A', c', e', -, -, hth⟩ := HTH.out wr hI.below
        simp only [Value.slice.injEq, true_and] at e'
        obtain ⟨rfl, rfl⟩ := e'
        obtain ⟨b2, f2, rfl, hb2, hcl⟩ := hth (by omega)
        obtain ⟨vv, hvv, hsts⟩ := hcl j hlt
        obtain ⟨A2, c2, rfl, -⟩ := hsts
        have hlj : P.ths[j].length ≤ 1000000 := HN3.out _ (List.getElem_mem hlt)
        have hrl := HRL.out j hlt
        have hrj := Lib.hid (HRJ.out j hlt)
        have hmj := Lib.hid (HMJ.out j hlt)
        have HU := Lib.hid hu
        have HI := Lib.hid hI
        have hNX := Lib.hid (rowsG_next (fun t => (R t).map (M t)) R P.ths.length j)
        have hSE := Lib.hid (fun q q' => rowsG_set (fun t => (R t).map (M t)) R q q' hlt)
        clear hth hcl hu ho
        generalize P.ths[j].length = lj at *
        go_wp2_with fail
        refine (landing_any bp _ _ _).mono ?_
        rintro e wl ⟨gf, gt, ge, rfl, bF, bT, bE, hbl⟩
        have HI1 := Lib.hid (HI.out.grow hbl (Nat.le_refl _))
        have HF1 := Lib.hid bF
        have HT1 := Lib.hid bT
        have HE1 := Lib.hid bE
        clear c32 pb1 hvv hI hbl bF bT bE
        obtain ⟨RJ, hRJ⟩ : ∃ r, r = R j := ⟨_, rfl⟩
        rw [← hRJ] at HU HI1 hrl hrj hNX ⊢
        clear hRJ HI
        go_wp2_with fail
        go_loopw [44] (fun i wr => ∃ k : Nat, k ≤ RJ.length ∧ i = .int .i64 k ∧ IS WW.heap.size WW P.init (.slice Au1 P.init.length cu1) gm gq P.ths.length vs (rowsG (fun t => (R t).map (M t)) R (pm (M j) RJ k) P.ths.length j) wr ∧ SlBoxC wr gf 82 #[.map (some bp)] ∧ SlBoxC wr gt 3 #[.int .i64 (j : Int)] ∧ SlBoxC wr ge 3 #[.int .i64 (lj : Int)]) (fun i _ => RJ.length - (intOf i).toNat)
        case atStart => exact ⟨0, Nat.zero_le _, rfl, HI1.out, HF1.out, HT1.out, HE1.out⟩
        case round =>
          obtain ⟨k, hk, rfl, hI, bF, bT, bE⟩ := hrel
          by_cases hlt2 : k < RJ.length
          · obtain ⟨hj', ho⟩ := hI.rows.of HU.out
            rw [rowsG_at _ _ _ hlt, pm_len] at ho
            obtain ⟨gj, cap, e, hgj1, hgj2⟩ := ho.form (by omega)
            injection e with e1 _ e3
            subst e1; subst e3
            have hz : ∀ i, i < 5 → wr.cell? ⟨gj, k * 5 + i, none⟩ = (stCs RJ[k])[i]? := fun i hi => by
              rw [ho.cellAt (k * 5 + i) (by omega), stsCs_at (pm (M j) RJ k) k i (by rw [pm_len]; exact hlt2) hi, pm_at (M j) RJ hlt2]
            have HO := Lib.hid ho
            have HSM := Lib.hid (fun (h : M j RJ[k] = RJ[k]) => pm_same (M j) RJ hlt2 h)
            have HPN := Lib.hid (pm_next (M j) RJ hlt2)
            have HPA := Lib.hid (fun L => show stsCs ((pm (M j) RJ k).set k ⟨RJ[k].op, RJ[k].reg, RJ[k].loc, RJ[k].n, L⟩) = (stsCs (pm (M j) RJ k)).set (k * 5 + 4) (.int .i64 L) from by
              have := stsCs_set (pm (M j) RJ k) k (by rw [pm_len]; exact hlt2) L
              rw [pm_at (M j) RJ hlt2] at this; exact this)
            have hjy := Lib.hid (hrj.out RJ[k] (List.getElem_mem hlt2))
            have hmy := Lib.hid (hmj.out RJ[k])
            have HI := Lib.hid hI
            have HFB := Lib.hid bF
            have HTB := Lib.hid bT
            have HEB := Lib.hid bE
            clear ho bF bT bE
            obtain ⟨y, hy⟩ : ∃ y, y = RJ[k] := ⟨_, rfl⟩
            rw [← hy] at hz HSM HPN HPA hjy hmy
            clear hy hI
            obtain ⟨ya, yb, yc, yd, yt⟩ := y
            have z0 : wr.cell? ⟨gj, k * 5, none⟩ = some (.int .i64 ya) := hz 0 (by omega)
            have z1 : wr.cell? ⟨gj, k * 5 + 1, none⟩ = some (.int .i64 yb) := hz 1 (by omega)
            have z2 : wr.cell? ⟨gj, k * 5 + 2, none⟩ = some (.int .i64 yc) := hz 2 (by omega)
            have z3 : wr.cell? ⟨gj, k * 5 + 3, none⟩ = some (.int .i64 yd) := hz 3 (by omega)
            have z4 : wr.cell? ⟨gj, k * 5 + 4, none⟩ = some (.int .i64 yt) := hz 4 (by omega)
            clear hz
            cases hjmp : jmpS ⟨ya, yb, yc, yd, yt⟩
            · have hmm : M j ⟨ya, yb, yc, yd, yt⟩ = ⟨ya, yb, yc, yd, yt⟩ := by rw [hmy.out]; unfold mv; rw [hjmp]; rfl
              have HSN := Lib.hid (HSM.out hmm)
              clear hmm hjy hmy HPN HPA HSM
              go_wp2_with fail
              refine (jump_any ⟨ya, yb, yc, yd, yt⟩ _).mono ?_
              rw [hjmp]
              rintro e wq ⟨rfl, hbq⟩
              have hb' := Lib.hid (chain (below_al (Below.refl wr.heap.size wr) _) hbq)
              clear hbq z0 z1 z2 z3 z4 hjmp
              go_wp2_with fail
              go_roundw
              case rel => exact ⟨k + 1, by omega, by go_num, by rw [HSN.out]; exact HI.out.grow hb'.out (Nat.le_refl _), HFB.out.below hb'.out HFB.out.lt, HTB.out.below hb'.out HTB.out.lt, HEB.out.below hb'.out HEB.out.lt⟩
              case measure => simp [intOf]; omega
            · obtain ⟨tn, htn, htl⟩ := hjy.out hjmp
              replace htn : yt = (tn : Int) := htn
              subst htn
              obtain ⟨L, hL⟩ : ∃ L, L = land (fun q => f (j : Int) (q : Int)) lj tn := ⟨_, rfl⟩
              have hmm : M j ⟨ya, yb, yc, yd, (tn : Int)⟩ = ⟨ya, yb, yc, yd, L⟩ := by rw [hmy.out]; unfold mv; rw [hjmp, hL]; rfl
              have HPN2 := Lib.hid (show stsCs (pm (M j) RJ (k + 1)) = (stsCs (pm (M j) RJ k)).set (k * 5 + 4) (.int .i64 L) from by rw [HPN.out, hmm]; exact HPA.out L)
              have HLL := Lib.hid (show ∀ (W : World), W.cell? ⟨ge, 0, none⟩ = some (.int .i64 (lj : Int)) → W.cell? ⟨gf, 0, none⟩ = some (.map (some bp)) → W.cell? ⟨gt, 0, none⟩ = some (.int .i64 (j : Int)) → MapP W bp (many anyS P.ths) f →
                  Calls Try.prog 63 #[.int .i64 (tn : Int), .pointer (some ⟨ge, 0, none⟩), .pointer (some ⟨gf, 0, none⟩), .pointer (some ⟨gt, 0, none⟩)] W fun e w' => e = .returned (.int .i64 L) ∧ w' = W from fun W h1 h2 h3 h4 => by rw [hL]; exact land_any tn W h1 h2 h3 h4 hlj (by omega) htl)
              clear hmm hjy hmy HPN HPA HSM hL
              go_wp2_with fail
              refine (jump_any ⟨ya, yb, yc, yd, (tn : Int)⟩ _).mono ?_
              rw [hjmp]
              rintro e wq ⟨rfl, hbq⟩
              have bX := (SlBoxC.new wr 39 #[.int .i64 ya, .int .i64 yb, .int .i64 yc, .int .i64 yd, .int .i64 (tn : Int)])
              have k4 := (bX.below hbq bX.lt).cell 4 _ rfl
              have hb' := Lib.hid (chain (below_al (Below.refl wr.heap.size wr) _) hbq)
              have HIq := Lib.hid (HI.out.grow hb'.out (Nat.le_refl _))
              have HFq := Lib.hid (HFB.out.below hb'.out HFB.out.lt)
              have HTq := Lib.hid (HTB.out.below hb'.out HTB.out.lt)
              have HEq := Lib.hid (HEB.out.below hb'.out HEB.out.lt)
              have HOq := Lib.hid (own_below HO.out hb'.out)
              have zq := kc hb'.out z4
              have fq := HOq.out.frozenAt (k * 5 + 4)
              have HMq := Lib.hid (HMP.out wq HIq.out.below)
              clear hbq z0 z1 z2 z3 z4 hjmp bX
              go_wp2_with fail
              refine (HLL.out _ (HEq.out.cell 0 _ rfl) (HFq.out.cell 0 _ rfl) (HTq.out.cell 0 _ rfl) HMq.out).mono ?_
              rintro e wz ⟨rfl, rfl⟩
              go_wp2_with fail
              go_roundw
              case rel =>
                have hc := HIq.out.cell (m := k * 5 + 4) HU.out (v := .int .i64 L) (ys := pm (M j) RJ (k + 1)) (by rw [rowsG_len]; exact hlt) (by rw [rowsG_at _ _ _ hlt, pm_len, pm_len]) (by rw [rowsG_at _ _ _ hlt]; exact HPN2.out)
                rw [hSE.out] at hc
                have hne : ∀ {g : Nat} {T : TypeId} {cs : Array Value}, SlBoxC wz g T cs → 39 ≠ T → g ≠ gj := fun hb hT e => by
                  rcases slown_box HOq.out hb hT with e2 | e2
                  · cases e2
                  · exact e2 (by rw [e]; rfl)
                exact ⟨k + 1, by omega, by go_num, hc.1, HFq.out.other (hne HFq.out (by decide)) _ _, HTq.out.other (hne HTq.out (by decide)) _ _, HEq.out.other (hne HEq.out (by decide)) _ _⟩
              case measure => simp [intOf]; omega
          · obtain rfl : RJ.length = k := by omega
            rw [pm_end] at hI
            have HIe := Lib.hid hI
            clear hI bF bT bE
            go_wp2
            go_roundw
            case rel => exact ⟨j + 1, by omega, by go_num, by rw [← hNX.out]; exact HIe.out⟩
            case measure => simp [intOf]; omega
      · obtain rfl : P.ths.length = j := by omega
        rw [rowsG_end] at hI
        have hz : Try.prog.cellsOf 25 = 2 := by kernel_rfl
        have hRr := HRW.out.below hI.below HRW.out.lt
        have q0 := hI.box.cell 0 _ rfl
        have q1 := hI.box.cell 1 _ rfl
        have r0 := hRr.cell 0 _ rfl
        have r1 := hRr.cell 1 _ rfl
        have g0 := hRr.frozen 0
        have g1 := hRr.frozen 1
        have HIe := Lib.hid hI
        have HRr := Lib.hid hRr
        clear hI hRr
        go_wp2
        have hZ9 := (HRr.out.set 0 (.slice Au1 P.init.length cu1)).set 1 (.slice (some ⟨gm, 0, none⟩) P.ths.length P.ths.length)
        have e0 := hZ9.cell 0 _ rfl
        have e1 := hZ9.cell 1 _ rfl
        have hgb : w.heap.size + 1 < WW.heap.size := HRW.out.lt
        have k9 : ∀ {s m : Nat} {T : TypeId} {v : Value} {xs : List Value}, wr.ownsRow WW.heap.size T s v m xs → ((wr.setCell ⟨w.heap.size + 1, 0, none⟩ (.slice Au1 P.init.length cu1)).setCell ⟨w.heap.size + 1, 1, none⟩ (.slice (some ⟨gm, 0, none⟩) P.ths.length P.ths.length)).ownsRow WW.heap.size T s v m xs := fun h =>
          ownsRow_setCell_below (ownsRow_setCell_below h (a := ⟨w.heap.size + 1, 0, none⟩) hgb _) (a := ⟨w.heap.size + 1, 1, none⟩) hgb _
        have hB9 := ((hBW.out.trans (HIe.out.below.mono hBW.out.size)).setCell (p := ⟨w.heap.size + 1, 0, none⟩) (show w.heap.size ≤ w.heap.size + 1 by omega) (.slice Au1 P.init.length cu1)).setCell (p := ⟨w.heap.size + 1, 1, none⟩) (show w.heap.size ≤ w.heap.size + 1 by omega) (.slice (some ⟨gm, 0, none⟩) P.ths.length P.ths.length)
        refine bodyPost_ret (v := .agg #[.slice Au1 P.init.length cu1, .slice (some ⟨gm, 0, none⟩) P.ths.length P.ths.length]) (by simp [results, Try.results30, go_sem, e0, e1, hz]) rfl ?_
        rw [HINS.out]
        have hlen : ((List.range P.ths.length).map fun t => (R t).map (M t)).length = P.ths.length := by simp
        refine ⟨_, rfl, ⟨_, _, vs, rfl, own_base (k9 HIe.out.ini) hBW.out.size, own_base (by rw [hlen]; exact k9 HIe.out.more) hBW.out.size, fun q hq => ?_⟩, hB9⟩
        obtain ⟨u, h1, h2⟩ := HIe.out.rows.own q hq
        exact ⟨u, h1, own_base (k9 h2) hBW.out.size⟩
end Go.Proofs.Ytlpjgaeelnlipaa
namespace Go.Proofs.Ytlpjgaeelnlipaa
open Go.RowKit
set_option linter.unusedVariables false
set_option linter.unusedSimpArgs false
open CodM (St Pg rightP)
open BfM (Wr plc)
open ScM
open SlM
open CrM

/-- What is raised of a pick and its way; what is lowered. -/
def raF (f : Int → Bool) (y : (Int × Bool) × (Int × Bool)) : List (Int × Bool) := if f y.2.1 then [y.1, y.1] else [y.1]
def loF (f : Int → Bool) (y : (Int × Bool) × (Int × Bool)) : List (Int × Bool) := if f y.2.1 then [] else [y.1]
theorem flat_le {A B : Type} {φ : A → List B} {c : Nat} (h : ∀ a, (φ a).length ≤ c) : ∀ l : List A, (l.flatMap φ).length ≤ c * l.length
  | [] => by simp
  | a :: l => by
    rw [List.flatMap_cons, List.length_append, List.length_cons, Nat.mul_succ]
    have := h a
    have := flat_le h l
    omega
theorem raF_le (f : Int → Bool) (y : (Int × Bool) × (Int × Bool)) : (raF f y).length ≤ 2 := by unfold raF; split <;> simp
theorem loF_le (f : Int → Bool) (y : (Int × Bool) × (Int × Bool)) : (loF f y).length ≤ 2 := by unfold loF; split <;> simp
theorem flat_next {A B : Type} (φ : A → List B) (l : List A) {k : Nat} (hk : k < l.length) : (l.take (k + 1)).flatMap φ = (l.take k).flatMap φ ++ φ l[k] := by
  rw [List.take_succ_eq_append_getElem hk, List.flatMap_append]; simp
/-- Are the fences' slots crossed? -/
def raOk (f : Int → Bool) (E : List ((Int × Bool) × (Int × Bool))) (k : Nat) : Bool := match E[k]? with | some y => !(f y.2.1 && y.2.2) | none => true
theorem raOk_at (f : Int → Bool) {E : List ((Int × Bool) × (Int × Bool))} {k : Nat} (hk : k < E.length) : raOk f E k = !(f E[k].2.1 && E[k].2.2) := by unfold raOk; rw [List.getElem?_eq_getElem hk]
theorem keyB_small {g : List Int} {m : Nat} (hm : m ≤ 240) : ∀ x, keyB g m x = true → 0 ≤ x ∧ x ≤ 1000000 := fun x h => by
  unfold keyB at h
  simp only [Bool.and_eq_true, decide_eq_true_eq] at h
  omega
theorem pgo_kept {base : Nat} {W W' : World} {u : Value} {P : Pg} (h : PgO base W u P) (hk : ∀ g cs T, base ≤ g → W.heap[g]? = some (.cells cs T (0, 0)) → T ≠ 52 → W'.heap[g]? = some (.cells cs T (0, 0))) : PgO base W' u P := by
  have k : ∀ {T s n : Nat} {v : Value} {xs : List Value}, T ≠ 52 → W.ownsRow base T s v n xs → W'.ownsRow base T s v n xs := fun {T s n v xs} hT ho => by
    obtain ⟨h0, h | ⟨g, cap, cur, h1, h2, h3, h4⟩⟩ := ho
    · exact ⟨h0, .inl h⟩
    · exact ⟨h0, .inr ⟨g, cap, cur, h1, h2, hk g cur T h2 h3 hT, h4⟩⟩
  obtain ⟨ui, ut, vs, rfl, h1, h2, h3⟩ := h
  exact ⟨ui, ut, vs, rfl, k (by decide) h1, k (by decide) h2, fun q hq => by
    obtain ⟨v, e1, e2⟩ := h3 q hq
    exact ⟨v, e1, k (by decide) e2⟩⟩
/-- What Raise hands back. -/
def RaRet (P : Pg) (g : List Int) (l : List (Int × Bool)) (w : World) (e : Ending) (w' : World) : Prop :=
  ∃ A c r b, e = .returned (.tuple #[.slice A r.length c, .bool b]) ∧ (b = true ↔ (runS P true (beg P) l).2.2 = true ∧ ∀ k, k < (wysS P (beg P) l).length → raOk (keyB g (many anyS P.ths)) (wysS P (beg P) l) k = true) ∧
    r = (if b then (wysS P (beg P) l).flatMap (raF (keyB g (many anyS P.ths))) else []) ∧ r.length ≤ 2 * l.length ∧ OwnKi w.heap.size w' (.slice A r.length c) r ∧ Below w.heap.size w w'
/-- What Lower hands back. -/
def LoRet (P : Pg) (g : List Int) (l : List (Int × Bool)) (w : World) (e : Ending) (w' : World) : Prop :=
  ∃ A c r ks, e = .returned (.tuple #[.slice A r.length c, .bool (runS (insP P g) true (beg (insP P g)) l).2.2]) ∧ RisF (keyB g (many anyS P.ths)) ks ∧
    r = (if (runS (insP P g) true (beg (insP P g)) l).2.2 then (wysS (insP P g) (beg (insP P g)) l).flatMap (loF (ldaK ks ks.length)) else []) ∧ r.length ≤ 2 * l.length ∧ OwnKi w.heap.size w' (.slice A r.length c) r ∧ Below w.heap.size w w'
set_option maxHeartbeats 8000000 in
set_option maxRecDepth 100000 in
theorem crraise_any {B : Nat} {v vg vl : Value} {P : Pg} {g : List Int} {l : List (Int × Bool)} (w : World) (hv : PgZ B w v P) (hg : Ints B w vg g) (hl : KiR B w vl l) (hBB : B ≤ w.heap.size) (hp : rightP P = true) (hn : l.length ≤ 50000) (hgl : g.length ≤ 1000000) :
    Calls Try.prog 12 #[v, vg, vl] w (RaRet P g l w) := by
  obtain ⟨pi, pt, rfl, hpm⟩ := hv
  have HV := Lib.hid (show PgZ B w (.agg #[pi, pt]) P from ⟨pi, pt, rfl, hpm⟩)
  have HL := Lib.hid hl
  have HI := Lib.hid hg
  obtain ⟨⟨⟨P0, d0, rfl, -⟩, ⟨P1, d1, rfl, -⟩⟩, -⟩ := hpm
  obtain ⟨Al, cl, rfl, hl1, hl2, -⟩ := hl
  obtain ⟨Ag, cg, rfl, -⟩ := hg
  unfold maxLen at hl2
  obtain ⟨W1, hW1⟩ : ∃ W, W = (w.alloc (.cells #[.slice P0 P.init.length d0, .slice P1 P.ths.length d1] 25)).alloc (.cells #[.slice none 0 0] 26) := ⟨_, rfl⟩
  obtain ⟨gp, hgp⟩ : ∃ g, g = w.heap.size := ⟨_, rfl⟩
  obtain ⟨g3, hg3⟩ : ∃ g, g = w.heap.size + 1 := ⟨_, rfl⟩
  have HX := Lib.hid (show BoxC W1 gp 25 #[.slice P0 P.init.length d0, .slice P1 P.ths.length d1] from by rw [hW1, hgp]; exact (BoxC.new w _ _).alloc _)
  have H3 := Lib.hid (show BoxC W1 g3 26 #[.slice none 0 0] from by rw [hW1, hg3]; have := BoxC.new (w.alloc (.cells #[.slice P0 P.init.length d0, .slice P1 P.ths.length d1] 25)) 26 #[.slice none 0 0]; rw [World.size_alloc] at this; exact this)
  have HB1 := Lib.hid (show Below w.heap.size w W1 from by rw [hW1]; exact below_al (below_al (Below.refl _ _) _) _)
  have HS1 := Lib.hid (show W1.heap.size = w.heap.size + 2 from by rw [hW1]; simp)
  have HGP := Lib.hid (show gp < W1.heap.size ∧ g3 < W1.heap.size ∧ w.heap.size ≤ g3 from by have := HS1.out; omega)
  have HCH := Lib.hid (fun W (hW : Below w.heap.size w W) => crchosen_any (v := .agg #[.slice P0 P.init.length d0, .slice P1 P.ths.length d1]) (vg := .slice Ag g.length cg) W ((HV.out.below (hW.mono hBB)).v) (HI.out.below (hW.mono hBB)) (Nat.le_trans hBB hW.size) hp hgl)
  have HMS := Lib.hid (many_small hp)
  have HLL := Lib.hid (wys_lt P l (beg P))
  have HRP := Lib.hid hp
  have x0 := HX.out.cell 0 _ rfl
  have x1 := HX.out.cell 1 _ rfl
  clear hp
  go_enter Try.func12, Try.ntmps12
  go_upto_region 2 with fail
  rw [← hW1]
  (try rw [← hg3])
  (try rw [← hgp])
  clear hW1 hg3 hgp
  go_upto_region 3 with (go_at_call 27; refine (HCH.out _ HB1.out).mono ?_; rintro e W2 ⟨bF, rfl, hbF, hmF, hb2⟩; have HMF := Lib.hid hmF; have HB2 := Lib.hid hb2; have HBF := Lib.hid hbF; clear hmF hb2 hbF)
  obtain ⟨W3, hW3⟩ : ∃ W, W = W2.alloc (.cells #[.map (some bF)] 55) := ⟨_, rfl⟩
  obtain ⟨gF, hgF⟩ : ∃ g, g = W2.heap.size := ⟨_, rfl⟩
  have HX3 := Lib.hid (show Below W2.heap.size W2 W3 from by rw [hW3]; exact below_al (Below.refl _ _) _)
  have HFB := Lib.hid (show BoxC W3 gF 55 #[.map (some bF)] from by rw [hW3, hgF]; exact BoxC.new W2 _ _)
  have HM3 := Lib.hid (show MapT W3 bF g.length (keyB g (many anyS P.ths)) from HMF.out.below HX3.out HMF.out.lt)
  have HB3 := Lib.hid (chain HB1.out (chain HB2.out HX3.out))
  have H33 := Lib.hid ((H3.out.below HB2.out H3.out.lt).below HX3.out (Nat.lt_of_lt_of_le H3.out.lt HB2.out.size))
  have HXX := Lib.hid ((HX.out.below HB2.out HX.out.lt).below HX3.out (Nat.lt_of_lt_of_le HX.out.lt HB2.out.size))
  have HNN := Lib.hid (show gF < W3.heap.size ∧ bF < W3.heap.size ∧ g3 < W3.heap.size ∧ w.heap.size ≤ W3.heap.size from ⟨HFB.out.lt, HM3.out.lt, H33.out.lt, HB3.out.size⟩)
  rw [← hW3]
  (try rw [← hgF])
  clear hW3 hgF x0 x1
  have HJ0 := Lib.hid (show RwJ W3 gF bF g.length (keyB g (many anyS P.ths)) g3 w.heap.size [] from ⟨HFB.out, HM3.out, none, 0, H33.out, World.ownsRow_nil _ _ _ _⟩)
  obtain ⟨f, hf⟩ : ∃ f, f = keyB g (many anyS P.ths) := ⟨_, rfl⟩
  have HGO := Lib.hid (goes_any (B := w.heap.size) (Fm := 28) (caps := #[.pointer (some ⟨gF, 0, none⟩), .pointer (some ⟨g3, 0, none⟩)]) (bm := raOk f (wysS P (beg P) l)) (Jm := fun k W => RwJ W gF bF g.length f g3 w.heap.size (((wysS P (beg P) l).take k).flatMap (raF f))) W3 ((HV.out.below (HB3.out.mono hBB)).more hBB) ((HL.out.below (HB3.out.mono hBB)).more hBB) HB3.out.size HRP.out hn (enters_of Try.func28 (by kernel_rfl) rfl) (by rw [hf]; exact HJ0.out)
    (RwJ.ab (E := wysS P (beg P) l) HNN.out.1 HNN.out.2.1 HNN.out.2.2.1) (fun k hk W hJ hW => by
    have hsm := way_small HRP.out l (beg P) _ (List.getElem_mem hk)
    have hkl : k ≤ 50000 := by have := HLL.out; omega
    have hrl : (((wysS P (beg P) l).take k).flatMap (raF f)).length ≤ 150000 := by have := flat_le (raF_le f) ((wysS P (beg P) l).take k); rw [List.length_take] at this; omega
    refine (ramay_any (B := w.heap.size) (N := W3.heap.size) _ _ _ _ W hJ (by omega) hrl (Nat.le_trans HNN.out.2.2.2 hW.size) HGP.out.2.2 HNN.out.2.2.1 (Nat.le_refl _) (Nat.le_trans HNN.out.2.2.2 hW.size)).mono ?_
    rintro e w' ⟨rfl, q1, q2⟩
    exact ⟨by rw [raOk_at f hk], fun _ => by rw [flat_next _ _ hk]; exact q1, q2⟩))
  rw [← hf] at HJ0
  have y0 := HXX.out.cell 0 _ rfl
  have y1 := HXX.out.cell 1 _ rfl
  have HF := Lib.hid hf
  clear hf
  go_wp2_with fail
  refine HGO.out.mono ?_
  rintro e w5 ⟨bb, rfl, hbi, hbj, hbw⟩
  have HBW := Lib.hid (show Below w.heap.size w w5 from HB3.out.trans hbw)
  have HBI := Lib.hid hbi
  clear y0 y1 HGO
  cases bb
  · clear hbi hbj hbw
    go_wp2
    go_ret2
    exact ⟨none, 0, [], false, rfl, by rw [← HF.out]; exact HBI.out, rfl, by simp, World.ownsRow_nil _ _ _ _, HBW.out⟩
  · obtain ⟨-, -, A, c, h3, h4⟩ := hbj rfl
    rw [List.take_length] at h3 h4
    obtain ⟨r, hr⟩ : ∃ r, r = (wysS P (beg P) l).flatMap (raF f) := ⟨_, rfl⟩
    rw [← hr] at h3 h4
    have hrl : r.length ≤ 2 * l.length := by have h1 := flat_le (raF_le f) (wysS P (beg P) l); have := HLL.out; rw [hr]; omega
    obtain ⟨m, hm⟩ : ∃ m, m = r.length := ⟨_, rfl⟩
    have HR := Lib.hid hr
    have HM := Lib.hid hm
    have HRL := Lib.hid hrl
    have HO := Lib.hid h4
    rw [← hm] at h3
    have z0 := h3.cell 0 _ rfl
    clear hbi hbj hbw h3 h4 hr hrl hm
    go_wp2
    go_ret2
    exact ⟨A, c, r, true, by rw [← HM.out]; rfl, by rw [← HF.out]; exact ⟨fun _ => HBI.out.1 trivial, fun _ => rfl⟩, by rw [← HF.out]; exact HR.out, HRL.out, HO.out, HBW.out⟩
set_option maxHeartbeats 8000000 in
set_option maxRecDepth 100000 in
theorem crlower_any {B : Nat} {v vg vl : Value} {P : Pg} {g : List Int} {l : List (Int × Bool)} (w : World) (hv : PgZ B w v P) (hg : Ints B w vg g) (hl : KiR B w vl l) (hBB : B ≤ w.heap.size) (hp : rightP P = true) (hq : rightP (insP P g) = true) (hn : l.length ≤ 50000) (hgl : g.length ≤ 1000000)
    (hj : ∀ ss ∈ P.ths, ∀ s ∈ ss, jmpS s = true → 0 ≤ s.5 ∧ s.5 ≤ 1000000) :
    Calls Try.prog 14 #[v, vg, vl] w (LoRet P g l w) := by
  obtain ⟨pi, pt, rfl, hpm⟩ := hv
  have HV := Lib.hid (show PgZ B w (.agg #[pi, pt]) P from ⟨pi, pt, rfl, hpm⟩)
  have HL := Lib.hid hl
  have HI := Lib.hid hg
  obtain ⟨⟨⟨P0, d0, rfl, -⟩, ⟨P1, d1, rfl, -⟩⟩, -⟩ := hpm
  obtain ⟨Al, cl, rfl, hl1, hl2, -⟩ := hl
  obtain ⟨Ag, cg, rfl, -⟩ := hg
  unfold maxLen at hl2
  obtain ⟨W1, hW1⟩ : ∃ W, W = (w.alloc (.cells #[.slice P0 P.init.length d0, .slice P1 P.ths.length d1] 25)).alloc (.cells #[.slice none 0 0] 26) := ⟨_, rfl⟩
  obtain ⟨gp, hgp⟩ : ∃ g, g = w.heap.size := ⟨_, rfl⟩
  obtain ⟨g3, hg3⟩ : ∃ g, g = w.heap.size + 1 := ⟨_, rfl⟩
  have HX := Lib.hid (show BoxC W1 gp 25 #[.slice P0 P.init.length d0, .slice P1 P.ths.length d1] from by rw [hW1, hgp]; exact (BoxC.new w _ _).alloc _)
  have H3 := Lib.hid (show BoxC W1 g3 26 #[.slice none 0 0] from by rw [hW1, hg3]; have := BoxC.new (w.alloc (.cells #[.slice P0 P.init.length d0, .slice P1 P.ths.length d1] 25)) 26 #[.slice none 0 0]; rw [World.size_alloc] at this; exact this)
  have HB1 := Lib.hid (show Below w.heap.size w W1 from by rw [hW1]; exact below_al (below_al (Below.refl _ _) _) _)
  have HS1 := Lib.hid (show W1.heap.size = w.heap.size + 2 from by rw [hW1]; simp)
  have HGP := Lib.hid (show gp < W1.heap.size ∧ g3 < W1.heap.size ∧ w.heap.size ≤ g3 from by have := HS1.out; omega)
  have HCH := Lib.hid (fun W (hW : Below w.heap.size w W) => crchosen_any (v := .agg #[.slice P0 P.init.length d0, .slice P1 P.ths.length d1]) (vg := .slice Ag g.length cg) W ((HV.out.below (hW.mono hBB)).v) (HI.out.below (hW.mono hBB)) (Nat.le_trans hBB hW.size) hp hgl)
  have HMS := Lib.hid (many_small hp)
  have HLL := Lib.hid (wys_lt (insP P g) l (beg (insP P g)))
  have HRQ := Lib.hid hq
  have HINS := Lib.hid (fun W (hW : Below w.heap.size w W) => insert_any (v := .agg #[.slice P0 P.init.length d0, .slice P1 P.ths.length d1]) (vg := .slice Ag g.length cg) W ((HV.out.below (hW.mono hBB)).v) (HI.out.below (hW.mono hBB)) (Nat.le_trans hBB hW.size) (by have := (right_ths hp).1; omega) (right_small hp).1 (right_small hp).2 hgl hj)
  have x0 := HX.out.cell 0 _ rfl
  have x1 := HX.out.cell 1 _ rfl
  clear hp hq hj
  go_enter Try.func14, Try.ntmps14
  go_upto_region 2 with fail
  rw [← hW1]
  (try rw [← hg3])
  (try rw [← hgp])
  clear hW1 hg3 hgp
  go_upto_region 3 with (first
    | (go_at_call 27; refine (HCH.out _ HB1.out).mono ?_; rintro e W2 ⟨bC, rfl, hbC, hmC, hb2⟩; have HMC := Lib.hid (crlaid_any W2 hmC hgl (keyB_small HMS.out)); have HB2 := Lib.hid hb2; clear hmC hb2 hbC)
    | (go_at_call 29; refine HMC.out.mono ?_; rintro e V2 ⟨bF, ks, rfl, hbF, hks, hkl, hmF, hb3⟩; have HMF := Lib.hid hmF; have HKS := Lib.hid hks; have HKL := Lib.hid hkl; have HV2 := Lib.hid (chain HB2.out hb3); clear hmF hb3 hbF hks hkl))
  obtain ⟨W3, hW3⟩ : ∃ W, W = V2.alloc (.cells #[.map (some bF)] 55) := ⟨_, rfl⟩
  obtain ⟨gF, hgF⟩ : ∃ g, g = V2.heap.size := ⟨_, rfl⟩
  have HX3 := Lib.hid (show Below V2.heap.size V2 W3 from by rw [hW3]; exact below_al (Below.refl _ _) _)
  have HFB := Lib.hid (show BoxC W3 gF 55 #[.map (some bF)] from by rw [hW3, hgF]; exact BoxC.new V2 _ _)
  have HM3 := Lib.hid (show MapT W3 bF ks.length (ldaK ks ks.length) from HMF.out.below HX3.out HMF.out.lt)
  have HB3 := Lib.hid (chain HB1.out (chain HV2.out HX3.out))
  have H33 := Lib.hid ((H3.out.below HV2.out H3.out.lt).below HX3.out (Nat.lt_of_lt_of_le H3.out.lt HV2.out.size))
  have HXX := Lib.hid ((HX.out.below HV2.out HX.out.lt).below HX3.out (Nat.lt_of_lt_of_le HX.out.lt HV2.out.size))
  rw [← hW3]
  (try rw [← hgF])
  clear hW3 hgF x0 x1
  have y0 := HXX.out.cell 0 _ rfl
  have y1 := HXX.out.cell 1 _ rfl
  obtain ⟨f, hf⟩ : ∃ f, f = ldaK ks ks.length := ⟨_, rfl⟩
  have HF := Lib.hid hf
  rw [← hf] at HM3
  clear hf
  go_wp2_with fail
  refine (HINS.out _ HB3.out).mono ?_
  rintro e W4 ⟨u, rfl, hu, hb4⟩
  have HB4 := Lib.hid (chain HB3.out hb4)
  have H34 := Lib.hid (H33.out.below hb4 H33.out.lt)
  have HFB4 := Lib.hid (HFB.out.below hb4 HFB.out.lt)
  have HM4 := Lib.hid (HM3.out.below hb4 HM3.out.lt)
  have HNN := Lib.hid (show gF < W4.heap.size ∧ bF < W4.heap.size ∧ g3 < W4.heap.size ∧ w.heap.size ≤ W4.heap.size from ⟨HFB4.out.lt, HM4.out.lt, H34.out.lt, HB4.out.size⟩)
  obtain ⟨ui, ut, hue⟩ : ∃ ui ut, u = .agg #[ui, ut] := by obtain ⟨a, b, _, e, _⟩ := hu; exact ⟨a, b, e⟩
  subst hue
  have HN3 := Lib.hid (show g3 < W3.heap.size from H33.out.lt)
  clear hb4 y0 y1 HINS
  have HJ0 := Lib.hid (show RwJ W4 gF bF ks.length f g3 w.heap.size [] from ⟨HFB4.out, HM4.out, none, 0, H34.out, World.ownsRow_nil _ _ _ _⟩)
  obtain ⟨Q, hQ⟩ : ∃ Q, Q = insP P g := ⟨_, rfl⟩
  rw [← hQ] at HLL HRQ
  have HPO := Lib.hid hu
  have HGO := Lib.hid (goesv_any (B := w.heap.size) (Fm := 31) (caps := #[.pointer (some ⟨gF, 0, none⟩), .pointer (some ⟨g3, 0, none⟩)]) (bm := fun _ => true) (Jm := fun k W => RwJ W gF bF ks.length f g3 w.heap.size (((wysS Q (beg Q) l).take k).flatMap (loF f))) (KV := fun W => W4.heap.size ≤ W.heap.size ∧ KpY g3 W4 W) W4 ⟨Nat.le_refl _, fun k o h _ _ => h⟩
    (fun k A X row h hgr hr => ⟨Nat.le_trans h.1 hgr.size, fun q o h1 h2 h3 => (hgr.block q (by have := (Array.getElem?_eq_some_iff.1 (h.2 q o h1 h2 h3)).1; exact this) (fun e => by have := (hr q e.symm).1; have := (Array.getElem?_eq_some_iff.1 h1).1; omega)).trans (h.2 q o h1 h2 h3)⟩)
    (fun W h => by
      have hpo := HPO.out
      rw [← hQ] at hpo
      have := pgo_kept hpo (fun q cs T hq hh hT => h.2 q _ hh (by have := HN3.out; omega) (fun cs2 ro e => by injection e with _ e; exact hT e))
      exact this.v.z this.nz)
    ((HL.out.below (HB4.out.mono hBB)).more hBB) HB4.out.size HRQ.out hn (enters_of Try.func31 (by kernel_rfl) rfl) HJ0.out
    (RwJ.ab (E := wysS Q (beg Q) l) HNN.out.1 HNN.out.2.1 HNN.out.2.2.1) (fun k hk W hJ hW hKV => by
    have hsm := way_small HRQ.out l (beg Q) _ (List.getElem_mem hk)
    have hkl : k ≤ 50000 := by have := HLL.out; omega
    have hrl : (((wysS Q (beg Q) l).take k).flatMap (loF f)).length ≤ 150000 := by have := flat_le (loF_le f) ((wysS Q (beg Q) l).take k); rw [List.length_take] at this; omega
    refine (lomay_any (B := w.heap.size) (N := W4.heap.size) _ _ _ _ W hJ (by omega) hrl (Nat.le_trans HNN.out.2.2.2 hW.size |> fun h => by have := hKV.1; have := HNN.out; omega) HGP.out.2.2 HNN.out.2.2.1 (Nat.le_refl _) (by have := hKV.1; have := HNN.out; omega)).mono ?_
    rintro e w' ⟨rfl, q1, q2, q3⟩
    exact ⟨rfl, fun _ => by rw [flat_next _ _ hk]; exact q1, q2, Nat.le_trans hKV.1 q2.2.size, fun q o h1 h2 h3 => q3 q o (hKV.2 q o h1 h2 h3) h2 h3⟩))
  clear hu
  go_wp2_with fail
  refine HGO.out.mono ?_
  rintro e w5 ⟨bb, rfl, hbi, hbj, hbw⟩
  have HBW := Lib.hid (show Below w.heap.size w w5 from HB4.out.trans hbw)
  have HBE := Lib.hid (show bb = (runS Q true (beg Q) l).2.2 from by
    cases h : (runS Q true (beg Q) l).2.2
    · cases bb
      · rfl
      · have := (hbi.1 rfl).1; rw [h] at this; cases this
    · exact hbi.2 ⟨h, fun _ _ => rfl⟩)
  have HQ := Lib.hid hQ
  clear HGO hQ
  cases bb
  · clear hbi hbj hbw
    go_wp2
    go_ret2
    exact ⟨none, 0, [], ks, by rw [← HQ.out, ← HBE.out]; rfl, HKS.out, by rw [← HQ.out, ← HBE.out]; rfl, by simp, World.ownsRow_nil _ _ _ _, HBW.out⟩
  · obtain ⟨-, -, A, c, h3, h4⟩ := hbj rfl
    rw [List.take_length] at h3 h4
    obtain ⟨r, hr⟩ : ∃ r, r = (wysS Q (beg Q) l).flatMap (loF f) := ⟨_, rfl⟩
    rw [← hr] at h3 h4
    have hrl : r.length ≤ 2 * l.length := by have h1 := flat_le (loF_le f) (wysS Q (beg Q) l); have := HLL.out; rw [hr]; omega
    obtain ⟨m, hm⟩ : ∃ m, m = r.length := ⟨_, rfl⟩
    have HR := Lib.hid hr
    have HM := Lib.hid hm
    have HRL := Lib.hid hrl
    have HO := Lib.hid h4
    rw [← hm] at h3
    have z0 := h3.cell 0 _ rfl
    clear hbi hbj hbw h3 h4 hr hrl hm
    go_wp2
    go_ret2
    exact ⟨A, c, r, ks, by rw [← HQ.out, ← HBE.out, ← HM.out]; rfl, HKS.out, by rw [← HQ.out, ← HBE.out, ← HF.out]; exact HR.out, HRL.out, HO.out, HBW.out⟩
end Go.Proofs.Ytlpjgaeelnlipaa
namespace Go.Proofs.Ytlpjgaeelnlipaa
open Go.RowKit
set_option linter.unusedVariables false
set_option linter.unusedSimpArgs false
open CodM (St Pg rightP)
open BfM (Wr plc)
open ScM

end Go.Proofs.Ytlpjgaeelnlipaa
namespace Go.Proofs.Ytlpjgaeelnlipaa
open Go.RowKit
set_option linter.unusedVariables false
set_option linter.unusedSimpArgs false
open CodM (St Pg rightP)
open BfM (Wr plc)
open ScM

end Go.Proofs.Ytlpjgaeelnlipaa
namespace Go.Proofs.Ytlpjgaeelnlipaa
open Go.RowKit
set_option linter.unusedVariables false
set_option linter.unusedSimpArgs false
open CodM (St Pg rightP)
open BfM (Wr plc)
open ScM

end Go.Proofs.Ytlpjgaeelnlipaa
namespace Go.Proofs.Ytlpjgaeelnlipaa
open Go.RowKit
set_option linter.unusedVariables false
set_option linter.unusedSimpArgs false
open CodM (St Pg rightP)
open BfM (Wr plc)
open ScM

/-- An end in memory. -/
def OutR (B : Nat) (w : World) (v : Value) (o : List Int × List Int) : Prop := ∃ vm vr, v = .agg #[vm, vr] ∧ IntR B w vm o.1 ∧ IntR B w vr o.2
theorem OutR.below {B : Nat} {w w' : World} {v : Value} {o : List Int × List Int} (h : OutR B w v o) (hb : Below B w w') : OutR B w' v o := by
  obtain ⟨a, b, e, h1, h2⟩ := h; exact ⟨a, b, e, h1.below hb, h2.below hb⟩
theorem OutR.more {B B' : Nat} {w : World} {v : Value} {o : List Int × List Int} (h : OutR B w v o) (hb : B ≤ B') : OutR B' w v o := by
  obtain ⟨a, b, e, h1, h2⟩ := h; exact ⟨a, b, e, h1.more hb, h2.more hb⟩
set_option maxHeartbeats 4000000 in
set_option maxRecDepth 100000 in
theorem kisame_any {B : Nat} {v u : Value} {ns : List (Int × Bool)} (w : World) (hv : KiR B w v ns) (hu : KiR B w u ns) (hBB : B ≤ w.heap.size) :
    Calls Try.prog 15 #[v, u] w fun e w' => e = .returned (.bool true) ∧ Below w.heap.size w w' := by
  obtain ⟨A1, c1, rfl, ha1, ha2, -, ha3⟩ := hv
  obtain ⟨A2, c2, rfl, hb1, hb2, -, hb3⟩ := hu
  unfold maxLen at ha2 hb2
  have ha3 := ki_at (c := c1) ha3
  have hb3 := ki_at (c := c2) hb3
  go_enter Try.func15, Try.ntmps15
  go_wp2
  go_loopw [5] (fun i wr => ∃ k : Nat, k ≤ ns.length ∧ i = .int .i64 k ∧ Below w.heap.size w wr) (fun i _ => ns.length - (intOf i).toNat)
  case atStart => exact ⟨0, Nat.zero_le _, rfl, Below.refl _ _⟩
  case round =>
    obtain ⟨k, hk, rfl, hB⟩ := hrel
    by_cases hlt : k < ns.length
    · obtain ⟨b1, f1, rfl, hl1, hc1⟩ := ha3 (by omega)
      obtain ⟨b2, f2, rfl, hl2, hc2⟩ := hb3 (by omega)
      obtain ⟨p0, p1⟩ := hc1 k hlt
      obtain ⟨q0, q1⟩ := hc2 k hlt
      have d1 := ((hB.mono hBB).cell (p := ⟨b1, f1 + k * 2, none⟩) hl1).trans p0
      have d2 := ((hB.mono hBB).cell (p := ⟨b1, f1 + k * 2 + 1, none⟩) hl1).trans p1
      have d3 := ((hB.mono hBB).cell (p := ⟨b2, f2 + k * 2, none⟩) hl2).trans q0
      have d4 := ((hB.mono hBB).cell (p := ⟨b2, f2 + k * 2 + 1, none⟩) hl2).trans q1
      obtain ⟨x, hx⟩ : ∃ x, x = ns[k] := ⟨_, rfl⟩
      rw [← hx] at d1 d2 d3 d4
      clear hx hc1 hc2 ha3 hb3 p0 p1 q0 q1
      go_wp2
      go_quiet (fail)
      go_wp2
      go_roundw
      case rel => exact ⟨k + 1, by omega, by go_num, below_drewN hB _⟩
      case measure => simp [intOf]; omega
    · obtain rfl : ns.length = k := by omega
      clear ha3 hb3
      go_wp2
      go_ret
      exact ⟨rfl, hB⟩
end Go.Proofs.Ytlpjgaeelnlipaa
namespace Go.Proofs.Ytlpjgaeelnlipaa
open Go.RowKit
set_option linter.unusedVariables false
set_option linter.unusedSimpArgs false
open CodM (St Pg rightP)
open BfM (Wr plc)
open ScM

theorem rw_box {α : Type} {one : α → List Value} {s : Nat} {W : World} {g : Nat} {T : TypeId} {cs : Array Value} (h : BoxC W g T cs) (l : List α) (n c : Nat) (hc : ∀ (j : Nat) (u : Value), (l.flatMap one)[j]? = some u → cs[j]? = some u) (hn : n = l.length) (hnc : n ≤ c) (hm : c ≤ 1000) : Rw one s W.heap.size W (.slice (some ⟨g, 0, none⟩) n c) l := by
  subst hn
  refine ⟨_, _, rfl, hnc, by unfold maxLen; omega, fun e => (by cases e), fun _ => ⟨g, 0, rfl, h.lt, fun j u hu => ?_⟩⟩
  rw [Nat.zero_add]
  exact h.cell j u (hc j u hu)
def looseL : List (Int × Bool) := [(0, false), (0, false), (1, false), (1, false), (0, true), (1, true)]
def looseC : Array Value := #[.int .i64 0, .bool false, .int .i64 0, .bool false, .int .i64 1, .bool false, .int .i64 1, .bool false, .int .i64 0, .bool true, .int .i64 1, .bool true]
theorem loose_cs : looseC.toList = looseL.flatMap kiC := rfl
theorem loose_at {g : Nat} {W : World} (h : BoxC W g 52 looseC) : KiR W.heap.size W (.slice (some ⟨g, 0, none⟩) 6 6) looseL := rw_box h looseL 6 6 (fun j u hu => by rw [← loose_cs] at hu; simpa using hu) rfl (by decide) (by decide)
theorem loose_3 {g : Nat} {W : World} (h : BoxC W g 52 looseC) : KiR W.heap.size W (.slice (some ⟨g, 0, none⟩) 3 6) (looseL.take 3) := rw_box h (looseL.take 3) 3 6 (fun j u hu => by
  have hj : j < 6 := by
    have := (List.getElem?_eq_some_iff.1 hu).1
    rw [fl_len kiC_len] at this
    simpa [looseL] using this
  match j, hj with
  | 0, _ => exact hu
  | 1, _ => exact hu
  | 2, _ => exact hu
  | 3, _ => exact hu
  | 4, _ => exact hu
  | 5, _ => exact hu) rfl (by decide) (by decide)
set_option maxHeartbeats 4000000 in
set_option maxRecDepth 100000 in
theorem loose_any (w : World) : Calls Try.prog 17 #[] w fun e w' => ∃ g, e = .returned (.slice (some ⟨g, 0, none⟩) 6 6) ∧ BoxC w' g 52 looseC ∧ Below w.heap.size w w' := by
  have hB := below_al (Below.refl w.heap.size w) (.cells #[.int .i64 0, .bool false, .int .i64 0, .bool false, .int .i64 1, .bool false, .int .i64 1, .bool false, .int .i64 0, .bool true, .int .i64 1, .bool true] 52)
  have HQ := Lib.hid (show BoxC (w.alloc (.cells #[.int .i64 0, .bool false, .int .i64 0, .bool false, .int .i64 1, .bool false, .int .i64 1, .bool false, .int .i64 0, .bool true, .int .i64 1, .bool true] 52)) w.heap.size 52 looseC from BoxC.new w _ _)
  go_enter Try.func17, Try.ntmps17
  go_wp2
  go_ret
  exact ⟨w.heap.size, rfl, HQ.out, hB⟩
/-! What the head asks, as mathematics. -/
def hl2 : List (Int × Bool) := [(0, false), (0, false), (1, false), (1, false)]
def hl3 : List (Int × Bool) := [(0, false), (0, true)]
def hs3 : Sta := ⟨[1, 0], [⟨1, [0, 0, 0, 0], false, []⟩, ⟨0, [0, 0, 0, 0], false, []⟩]⟩
def hl4 : List (Int × Bool) := [(0, false), (1, false)]
end Go.Proofs.Ytlpjgaeelnlipaa
namespace Go.Proofs.Ytlpjgaeelnlipaa
open Go.RowKit
set_option linter.unusedVariables false
set_option linter.unusedSimpArgs false
open CodM (St Pg rightP)
open BfM (Wr plc)
open ScM
open SlM
open CrM

def wE : List ((Int × Bool) × (Int × Bool)) := [((0, false), (0, false)), ((0, false), (1, true)), ((1, false), (2, false)), ((1, false), (3, true)), ((0, true), (-1, false)), ((1, true), (-1, false))]
theorem h14_E : wysS bufP (beg bufP) looseL = wE := by decide
theorem h14_cb : (runS bufP true (beg bufP) looseL).2.2 = true := by decide
theorem h14_ck : RisF (crF (wysS bufP (beg bufP) looseL)) [1, 3] := by
  rw [h14_E]
  refine ⟨by decide, fun x => ?_⟩
  simp [crF, wE]
theorem h14_nb : (runS bufP true (beg bufP) [(0, true)]).2.2 = false := by decide
theorem h14_of : ¬ ((runS bufP true (beg bufP) looseL).2.2 = true ∧ ∀ k, k < (wysS bufP (beg bufP) looseL).length → raOk (keyB [1] (many anyS bufP.ths)) (wysS bufP (beg bufP) looseL) k = true) := fun h => by
  have := h.2 1 (by decide)
  revert this
  decide
def l3 : List (Int × Bool) := [(0, false), (0, false), (1, false)]
theorem h14_ra : (runS bufP true (beg bufP) l3).2.2 = true ∧ ∀ k, k < (wysS bufP (beg bufP) l3).length → raOk (keyB [0, 2] (many anyS bufP.ths)) (wysS bufP (beg bufP) l3) k = true := by decide
def a14 : List (Int × Bool) := [(0, false), (0, false), (0, false), (1, false), (1, false)]
theorem h14_ar : (wysS bufP (beg bufP) l3).flatMap (raF (keyB [0, 2] (many anyS bufP.ths))) = a14 := by decide
theorem h14_q : rightP (insP bufP [0, 2]) = true := by kernel_rfl
theorem h14_j : ∀ ss ∈ bufP.ths, ∀ s ∈ ss, jmpS s = true → 0 ≤ s.5 ∧ s.5 ≤ 1000000 := by decide
theorem h14_lb : (runS (insP bufP [0, 2]) true (beg (insP bufP [0, 2])) a14).2.2 = true := by decide
theorem h14_k : RisF (keyB [0, 2] (many anyS bufP.ths)) [0, 2] := by
  refine ⟨by decide, fun x => ?_⟩
  have hm : many anyS bufP.ths = 4 := by decide
  unfold keyB has
  simp only [hm, List.mem_cons, List.not_mem_nil, or_false, List.any_cons, List.any_nil, Bool.or_false, Bool.and_eq_true, Bool.or_eq_true, beq_iff_eq, decide_eq_true_eq]
  omega
theorem h14_lr : (wysS (insP bufP [0, 2]) (beg (insP bufP [0, 2])) a14).flatMap (loF (ldaK [0, 2] 2)) = l3 := by decide
end Go.Proofs.Ytlpjgaeelnlipaa
