/-
  THE LAWS' live question of layer 8: head is true.
-/
import Derived.Test.YtaelfjphgdlbcaaSl3
import Derived.Test.YtaelfjphgdlbcaaSl1
import Derived.Test.YtaelfjphgdlbcaaSlD
import Derived.Test.YtaelfjphgdlbcaaVHead
import Derived.Test.YtaelfjphgdlbcaaRSame7
import Derived.Deep.RegionHeld3
namespace Go.Proofs.Ytaelfjphgdlbcaa
open Go.RowKit
set_option linter.unusedVariables false
set_option linter.unusedSimpArgs false
open WordM (L)
open VM
open CodM (St Pg)
open SlM

def jmpB : Pg := ⟨[], [[⟨8, 0, 0, 0, 1⟩, ⟨6, 0, 0, 0, 0⟩], [⟨9, 0, 0, 0, 1⟩]]⟩
def jmpW : Pg := ⟨[], [[⟨8, 0, 0, 0, 1⟩, ⟨6, 0, 0, 0, 0⟩, ⟨6, 0, 0, 0, 0⟩], [⟨6, 0, 0, 0, 0⟩, ⟨9, 0, 0, 0, 2⟩]]⟩
def bufX : Fl := ⟨[115, 98], [([120], 0)], [[⟨4, [], [120], [], 1⟩, ⟨6, [], [], [], 0⟩, ⟨2, [101, 97, 120], [121], [], 0⟩], [⟨4, [], [121], [], 1⟩, ⟨6, [], [], [], 0⟩, ⟨2, [101, 97, 120], [120], [], 0⟩]], [⟨0, [101, 97, 120], 0⟩, ⟨1, [101, 97, 120], 0⟩], false⟩
theorem jmp_ins : insP jmpB [1, 2, 7, 1] = jmpW := by kernel_rfl
theorem jmp_many : many anyS jmpB.ths = 3 := by kernel_rfl
theorem jmp_of2 : IsOf jmpB.ths 2 ⟨1, 0, true⟩ := .inr ⟨1, 0, by decide, by decide, by kernel_rfl, rfl⟩
theorem jmp_of3 : IsOf jmpB.ths 3 ⟨0, 0, false⟩ := .inl ⟨rfl, by rw [jmp_many]; decide⟩
theorem jmp_num0 : numI jmpB.ths 1 0 = 2 := by kernel_rfl
theorem jmp_num1 : numI jmpB.ths 1 1 = -1 := by kernel_rfl
theorem buf_fen : fenF bufF [1, 3] = bufX := by kernel_rfl
theorem bufX_era : eraB bufX [1, 3] = true ∧ eraR bufX [1, 3] = bufF := by
  have h := era_back bufF [1, 3]
  rw [buf_fen] at h
  exact ⟨h.1, by unfold eraR; rw [h.1, if_pos rfl]; exact h.2⟩
theorem buf_era : eraB bufF [0] = false := by kernel_rfl
theorem ints_none (B : Nat) (w : World) : Ints B w (.slice none 0 0) [] := ⟨none, 0, rfl, Nat.le_refl _, by decide, fun k => absurd k (by decide)⟩
theorem sts_lit {B b : Nat} {W : World} {ss : List St} (hb : b < B) (hn : ss.length ≤ 1000) (h : ∀ j (hj : j < ss.length), StAt W b (j * 5) ss[j]) : Sts B W (.slice (some ⟨b, 0, none⟩) ss.length ss.length) ss :=
  ⟨_, ss.length, rfl, Nat.le_refl _, by unfold maxLen; omega, fun _ => ⟨b, 0, rfl, hb, fun j hj => by rw [Nat.zero_add]; exact h j hj⟩⟩
theorem sss_lit {B b : Nat} {W : World} {ts : List (List St)} (hb : b < B) (hn : ts.length ≤ 1000) (h : ∀ j (hj : j < ts.length), SsAt B W b j ts[j]) : Sss B W (.slice (some ⟨b, 0, none⟩) ts.length ts.length) ts :=
  ⟨_, ts.length, rfl, Nat.le_refl _, by unfold maxLen; omega, fun _ => ⟨b, 0, rfl, hb, fun j hj => by rw [Nat.zero_add]; exact h j hj⟩⟩
theorem ints_lit {B b : Nat} {W : World} {ns : List Int} (hb : b < B) (hn : ns.length ≤ 1000) (h : ∀ j (hj : j < ns.length), IntAt W b j ns[j]) : Ints B W (.slice (some ⟨b, 0, none⟩) ns.length ns.length) ns :=
  ⟨_, ns.length, rfl, Nat.le_refl _, by unfold maxLen; omega, fun _ => ⟨b, 0, rfl, hb, fun j hj => by rw [Nat.zero_add]; exact h j hj⟩⟩
/-- What is read of the program with fences. -/
structure FlX (W : World) (A0 : Option Addr) (c0 bt ft c2 : Nat) (A1 : Option Addr) (c1 b3 f3 c3 : Nat) : Prop where
  t : W.cell? ⟨bt, ft + 1, none⟩ = some (.slice (some ⟨b3, f3, none⟩) 3 c3)
  o : W.cell? ⟨b3, f3 + 5, none⟩ = some (.int .i64 6)
theorem FlX.below {W W' : World} {A0 A1 : Option Addr} {c0 bt ft c2 c1 b3 f3 c3 : Nat} (h : FlX W A0 c0 bt ft c2 A1 c1 b3 f3 c3) (hB : Below W.heap.size W W') : FlX W' A0 c0 bt ft c2 A1 c1 b3 f3 c3 := ⟨kc hB h.t, kc hB h.o⟩
theorem fl_lit {B : Nat} {W : World} {v : Value} (h : FlV B W v bufX) : ∃ A0 c0 bt ft c2 A1 c1 b3 f3 c3, v = .agg #[.string ⟨#[115, 98]⟩, .slice A0 1 c0, .slice (some ⟨bt, ft, none⟩) 2 c2, .bool false, .slice A1 2 c1] ∧ FlX W A0 c0 bt ft c2 A1 c1 b3 f3 c3 := by
  obtain ⟨vi, vt, vc, rfl, ⟨A0, c0, rfl, -⟩, ⟨A2, c2, rfl, -, -, h2⟩, ⟨A1, c1, rfl, -⟩⟩ := h
  obtain ⟨bt, ft, rfl, -, hc⟩ := h2 (by decide)
  obtain ⟨u, hu, A3, c3, rfl, -, -, h3⟩ := hc 1 (by decide)
  obtain ⟨b3, f3, rfl, -, hl⟩ := h3 (by decide)
  exact ⟨A0, c0, bt, ft, c2, A1, c1, b3, f3, c3, rfl, hu, (hl 1 (by decide)).1⟩
theorem fl_buf {B : Nat} {W : World} {v : Value} (h : FlV B W v bufF) : ∃ A0 c0 A2 c2 A1 c1, v = .agg #[.string ⟨#[115, 98]⟩, .slice A0 1 c0, .slice A2 2 c2, .bool false, .slice A1 2 c1] := by
  obtain ⟨vi, vt, vc, rfl, ⟨A0, c0, rfl, -⟩, ⟨A2, c2, rfl, -, -, h2⟩, ⟨A1, c1, rfl, -⟩⟩ := h
  exact ⟨A0, c0, A2, c2, A1, c1, rfl⟩
/-- slots.Many. -/
theorem many_any {B : Nat} {vi vt : Value} {ths : List (List St)} (w : World) (hvi : ∃ A m c, vi = .slice A m c) (hv : Sss B w vt ths) (hBB : B ≤ w.heap.size) (hl : ths.length ≤ 1000000) (hll : ∀ ss ∈ ths, ss.length ≤ 1000000) :
    Calls Try.prog 17 #[.agg #[vi, vt]] w fun e w' => e = .returned (.int .i64 (many anyS ths : Nat)) ∧ Below w.heap.size w w' := by
  obtain ⟨Ai, mi, ci, rfl⟩ := hvi
  have hB := below_al (Below.refl w.heap.size w) (.cells #[.slice Ai mi ci, vt] 25)
  have HC := Lib.hid (callsIn_wide.1 (counts_in Fence.wide 10 trivial trivial trivial trivial rfl (by omega) (ths := ths) _ (hv.below (hB.mono hBB)) (Nat.le_trans hBB hB.size) hl hll))
  obtain ⟨A, c, rfl, -⟩ := hv
  go_enter Try.func17, Try.ntmps17
  go_wp2_with fail
  refine HC.out.mono ?_
  rintro e w1 ⟨rfl, hb⟩
  go_wp2
  go_ret
  exact ⟨rfl, chain hB hb⟩
theorem num_any {B : Nat} {vi vt : Value} {ths : List (List St)} (th at' : Int) (w : World) (hvi : ∃ A m c, vi = .slice A m c) (hv : Sss B w vt ths) (hBB : B ≤ w.heap.size) (hl : ths.length ≤ 1000000) (hll : ∀ ss ∈ ths, ss.length ≤ 1000000) :
    Calls Try.prog 19 #[.agg #[vi, vt], .int .i64 th, .int .i64 at'] w fun e w' => e = .returned (.int .i64 (numI ths th at')) ∧ Below w.heap.size w w' :=
  callsIn_wide.1 (num_in Fence.wide 10 trivial trivial trivial trivial rfl (by omega) th at' w hvi hv hBB hl hll)
theorem of_any {B : Nat} {vi vt : Value} {ths : List (List St)} (m : Int) (w : World) (hvi : ∃ A m c, vi = .slice A m c) (hv : Sss B w vt ths) (hBB : B ≤ w.heap.size) (hl : ths.length ≤ 1000000) (hll : ∀ ss ∈ ths, ss.length ≤ 1000000) :
    Calls Try.prog 13 #[.agg #[vi, vt], .int .i64 m] w fun e w' => ∃ r : Pl, e = .returned (.tuple #[.int .i64 r.t, .int .i64 r.k, .bool r.is]) ∧ IsOf ths m r ∧ Below w.heap.size w w' :=
  callsIn_wide.1 (of_in Fence.wide 10 trivial trivial trivial trivial rfl (by omega) m w hvi hv hBB hl hll)
set_option maxHeartbeats 8000000 in
set_option maxRecDepth 100000 in
theorem shead_any (w : World) : Calls Try.prog 10 #[] w fun e w' => e = .returned (.bool true) ∧ Below w.heap.size w w' := by
  have hm4 : ∀ ls ∈ jmpB.ths, ls.length ≤ 1000000 := by decide
  go_enter Try.func10, Try.ntmps10
  go_wp2_with fail
  have HC : ∀ (j i : Nat) (cs : Array Value) (T : TypeId) (v : Value), ([.cells #[.int .i64 8, .int .i64 0, .int .i64 0, .int .i64 0, .int .i64 1, .int .i64 6, .int .i64 0, .int .i64 0, .int .i64 0, .int .i64 0] 53, .cells #[.int .i64 9, .int .i64 0, .int .i64 0, .int .i64 0, .int .i64 1] 53, .cells #[.slice (some ⟨w.heap.size, 0, none⟩) 2 2, .slice (some ⟨w.heap.size + 1, 0, none⟩) 1 1] 50, .cells #[.slice none 0 0, .slice (some ⟨w.heap.size + 1 + 1, 0, none⟩) 2 2] 25, .cells #[.int .i64 1, .int .i64 2, .int .i64 7, .int .i64 1] 3] : List Obj)[j]? = some (.cells cs T) → cs[i]? = some v → (((((w.alloc (.cells #[.int .i64 8, .int .i64 0, .int .i64 0, .int .i64 0, .int .i64 1, .int .i64 6, .int .i64 0, .int .i64 0, .int .i64 0, .int .i64 0] 53)).alloc (.cells #[.int .i64 9, .int .i64 0, .int .i64 0, .int .i64 0, .int .i64 1] 53)).alloc (.cells #[.slice (some ⟨w.heap.size, 0, none⟩) 2 2, .slice (some ⟨w.heap.size + 1, 0, none⟩) 1 1] 50)).alloc (.cells #[.slice none 0 0, .slice (some ⟨w.heap.size + 1 + 1, 0, none⟩) 2 2] 25)).alloc (.cells #[.int .i64 1, .int .i64 2, .int .i64 7, .int .i64 1] 3)).cell? ⟨w.heap.size + j, i, none⟩ = some v := fun j i cs T v h1 h2 => (allocs_cell [.cells #[.int .i64 8, .int .i64 0, .int .i64 0, .int .i64 0, .int .i64 1, .int .i64 6, .int .i64 0, .int .i64 0, .int .i64 0, .int .i64 0] 53, .cells #[.int .i64 9, .int .i64 0, .int .i64 0, .int .i64 0, .int .i64 1] 53, .cells #[.slice (some ⟨w.heap.size, 0, none⟩) 2 2, .slice (some ⟨w.heap.size + 1, 0, none⟩) 1 1] 50, .cells #[.slice none 0 0, .slice (some ⟨w.heap.size + 1 + 1, 0, none⟩) 2 2] 25, .cells #[.int .i64 1, .int .i64 2, .int .i64 7, .int .i64 1] 3] w j cs T i v h1 h2).1
  have hb : Below w.heap.size w (((((w.alloc (.cells #[.int .i64 8, .int .i64 0, .int .i64 0, .int .i64 0, .int .i64 1, .int .i64 6, .int .i64 0, .int .i64 0, .int .i64 0, .int .i64 0] 53)).alloc (.cells #[.int .i64 9, .int .i64 0, .int .i64 0, .int .i64 0, .int .i64 1] 53)).alloc (.cells #[.slice (some ⟨w.heap.size, 0, none⟩) 2 2, .slice (some ⟨w.heap.size + 1, 0, none⟩) 1 1] 50)).alloc (.cells #[.slice none 0 0, .slice (some ⟨w.heap.size + 1 + 1, 0, none⟩) 2 2] 25)).alloc (.cells #[.int .i64 1, .int .i64 2, .int .i64 7, .int .i64 1] 3)) := below_al (below_al (below_al (below_al (below_al (Below.refl _ _) _) _) _) _) _
  have hsz : (((((w.alloc (.cells #[.int .i64 8, .int .i64 0, .int .i64 0, .int .i64 0, .int .i64 1, .int .i64 6, .int .i64 0, .int .i64 0, .int .i64 0, .int .i64 0] 53)).alloc (.cells #[.int .i64 9, .int .i64 0, .int .i64 0, .int .i64 0, .int .i64 1] 53)).alloc (.cells #[.slice (some ⟨w.heap.size, 0, none⟩) 2 2, .slice (some ⟨w.heap.size + 1, 0, none⟩) 1 1] 50)).alloc (.cells #[.slice none 0 0, .slice (some ⟨w.heap.size + 1 + 1, 0, none⟩) 2 2] 25)).alloc (.cells #[.int .i64 1, .int .i64 2, .int .i64 7, .int .i64 1] 3)).heap.size = w.heap.size + 5 := by simp only [heap_alloc]
  generalize (((((w.alloc (.cells #[.int .i64 8, .int .i64 0, .int .i64 0, .int .i64 0, .int .i64 1, .int .i64 6, .int .i64 0, .int .i64 0, .int .i64 0, .int .i64 0] 53)).alloc (.cells #[.int .i64 9, .int .i64 0, .int .i64 0, .int .i64 0, .int .i64 1] 53)).alloc (.cells #[.slice (some ⟨w.heap.size, 0, none⟩) 2 2, .slice (some ⟨w.heap.size + 1, 0, none⟩) 1 1] 50)).alloc (.cells #[.slice none 0 0, .slice (some ⟨w.heap.size + 1 + 1, 0, none⟩) 2 2] 25)).alloc (.cells #[.int .i64 1, .int .i64 2, .int .i64 7, .int .i64 1] 3)) = W1 at *
  have HX1 := Lib.hid (show PgBox W1 (w.heap.size + 1 + 1 + 1) (.slice none 0 0) (.slice (some ⟨w.heap.size + 1 + 1, 0, none⟩) 2 2) from ⟨HC 3 0 _ _ _ rfl rfl, HC 3 1 _ _ _ rfl rfl⟩)
  have HS1 := Lib.hid (show Sss W1.heap.size W1 (.slice (some ⟨w.heap.size + 1 + 1, 0, none⟩) 2 2) jmpB.ths from sss_lit (ts := jmpB.ths) (by omega) (by decide) (fun j hj => by
    match j, hj with
    | 0, _ =>
      refine ⟨_, HC 2 0 _ _ _ rfl rfl, sts_lit (ss := [⟨8, 0, 0, 0, 1⟩, ⟨6, 0, 0, 0, 0⟩]) (by omega) (by decide) (fun j hj => ?_)⟩
      match j, hj with
      | 0, _ => exact ⟨HC 0 0 _ _ _ rfl rfl, HC 0 1 _ _ _ rfl rfl, HC 0 2 _ _ _ rfl rfl, HC 0 3 _ _ _ rfl rfl, HC 0 4 _ _ _ rfl rfl⟩
      | 1, _ => exact ⟨HC 0 5 _ _ _ rfl rfl, HC 0 6 _ _ _ rfl rfl, HC 0 7 _ _ _ rfl rfl, HC 0 8 _ _ _ rfl rfl, HC 0 9 _ _ _ rfl rfl⟩
    | 1, _ =>
      refine ⟨_, HC 2 1 _ _ _ rfl rfl, sts_lit (ss := [⟨9, 0, 0, 0, 1⟩]) (by omega) (by decide) (fun j hj => ?_)⟩
      match j, hj with
      | 0, _ => exact ⟨HC 1 0 _ _ _ rfl rfl, HC 1 1 _ _ _ rfl rfl, HC 1 2 _ _ _ rfl rfl, HC 1 3 _ _ _ rfl rfl, HC 1 4 _ _ _ rfl rfl⟩))
  have hg1 : Ints W1.heap.size W1 (.slice (some ⟨w.heap.size + 1 + 1 + 1 + 1, 0, none⟩) 4 4) [1, 2, 7, 1] := ints_lit (ns := [1, 2, 7, 1]) (by omega) (by decide) (fun j hj => by
    match j, hj with
    | 0, _ => exact HC 4 0 _ _ _ rfl rfl
    | 1, _ => exact HC 4 1 _ _ _ rfl rfl
    | 2, _ => exact HC 4 2 _ _ _ rfl rfl
    | 3, _ => exact HC 4 3 _ _ _ rfl rfl)
  have HI1 := Lib.hid (jmp_ins ▸ insert_any (P := jmpB) (g := [1, 2, 7, 1]) W1 ⟨_, _, rfl, ints_none _ _, HS1.out⟩ hg1 (Nat.le_refl _) (by decide) (by decide) hm4 (by decide) (by decide))
  obtain ⟨g1, hg1⟩ : ∃ g, g = w.heap.size := ⟨_, rfl⟩
  have hB1 := hb
  rw [← hg1] at HX1 HS1 HI1 ⊢
  clear HC hb hsz hg1
  refine HI1.out.mono ?_
  rintro e w2 ⟨u, rfl, ⟨vi, vt, rfl, hpq⟩, hb⟩
  have HQ2 := Lib.hid hpq
  obtain ⟨⟨AQ, nQ, rfl, -⟩, ⟨AR, nR, rfl, -⟩⟩ := hpq
  have hB2 := chain hB1 hb
  replace HX1 := Lib.hid (HX1.out.below hb)
  replace HS1 := Lib.hid ((HS1.out.below hb).more hb.size)
  replace HQ2 := Lib.hid (show PgM w2.heap.size w2 (.slice AQ 0 nQ) (.slice AR 2 nR) jmpW from HQ2.out)
  simp only [show jmpW.init.length = 0 from rfl, show jmpW.ths.length = 2 from rfl]
  clear HI1 hb hB1
  go_upto_region 4 with fail
  have HC : ∀ (j i : Nat) (cs : Array Value) (T : TypeId) (v : Value), ([.cells #[.slice AQ 0 nQ, .slice AR 2 nR] 25, .cells #[.int .i64 8, .int .i64 0, .int .i64 0, .int .i64 0, .int .i64 1, .int .i64 6, .int .i64 0, .int .i64 0, .int .i64 0, .int .i64 0, .int .i64 6, .int .i64 0, .int .i64 0, .int .i64 0, .int .i64 0] 53, .cells #[.int .i64 6, .int .i64 0, .int .i64 0, .int .i64 0, .int .i64 0, .int .i64 9, .int .i64 0, .int .i64 0, .int .i64 0, .int .i64 2] 53, .cells #[.slice (some ⟨w2.heap.size + 1, 0, none⟩) 3 3, .slice (some ⟨w2.heap.size + 1 + 1, 0, none⟩) 2 2] 50, .cells #[.slice none 0 0, .slice (some ⟨w2.heap.size + 1 + 1 + 1, 0, none⟩) 2 2] 25] : List Obj)[j]? = some (.cells cs T) → cs[i]? = some v → (((((w2.alloc (.cells #[.slice AQ 0 nQ, .slice AR 2 nR] 25)).alloc (.cells #[.int .i64 8, .int .i64 0, .int .i64 0, .int .i64 0, .int .i64 1, .int .i64 6, .int .i64 0, .int .i64 0, .int .i64 0, .int .i64 0, .int .i64 6, .int .i64 0, .int .i64 0, .int .i64 0, .int .i64 0] 53)).alloc (.cells #[.int .i64 6, .int .i64 0, .int .i64 0, .int .i64 0, .int .i64 0, .int .i64 9, .int .i64 0, .int .i64 0, .int .i64 0, .int .i64 2] 53)).alloc (.cells #[.slice (some ⟨w2.heap.size + 1, 0, none⟩) 3 3, .slice (some ⟨w2.heap.size + 1 + 1, 0, none⟩) 2 2] 50)).alloc (.cells #[.slice none 0 0, .slice (some ⟨w2.heap.size + 1 + 1 + 1, 0, none⟩) 2 2] 25)).cell? ⟨w2.heap.size + j, i, none⟩ = some v := fun j i cs T v h1 h2 => (allocs_cell [.cells #[.slice AQ 0 nQ, .slice AR 2 nR] 25, .cells #[.int .i64 8, .int .i64 0, .int .i64 0, .int .i64 0, .int .i64 1, .int .i64 6, .int .i64 0, .int .i64 0, .int .i64 0, .int .i64 0, .int .i64 6, .int .i64 0, .int .i64 0, .int .i64 0, .int .i64 0] 53, .cells #[.int .i64 6, .int .i64 0, .int .i64 0, .int .i64 0, .int .i64 0, .int .i64 9, .int .i64 0, .int .i64 0, .int .i64 0, .int .i64 2] 53, .cells #[.slice (some ⟨w2.heap.size + 1, 0, none⟩) 3 3, .slice (some ⟨w2.heap.size + 1 + 1, 0, none⟩) 2 2] 50, .cells #[.slice none 0 0, .slice (some ⟨w2.heap.size + 1 + 1 + 1, 0, none⟩) 2 2] 25] w2 j cs T i v h1 h2).1
  have hb : Below w2.heap.size w2 (((((w2.alloc (.cells #[.slice AQ 0 nQ, .slice AR 2 nR] 25)).alloc (.cells #[.int .i64 8, .int .i64 0, .int .i64 0, .int .i64 0, .int .i64 1, .int .i64 6, .int .i64 0, .int .i64 0, .int .i64 0, .int .i64 0, .int .i64 6, .int .i64 0, .int .i64 0, .int .i64 0, .int .i64 0] 53)).alloc (.cells #[.int .i64 6, .int .i64 0, .int .i64 0, .int .i64 0, .int .i64 0, .int .i64 9, .int .i64 0, .int .i64 0, .int .i64 0, .int .i64 2] 53)).alloc (.cells #[.slice (some ⟨w2.heap.size + 1, 0, none⟩) 3 3, .slice (some ⟨w2.heap.size + 1 + 1, 0, none⟩) 2 2] 50)).alloc (.cells #[.slice none 0 0, .slice (some ⟨w2.heap.size + 1 + 1 + 1, 0, none⟩) 2 2] 25)) := below_al (below_al (below_al (below_al (below_al (Below.refl _ _) _) _) _) _) _
  have hsz : (((((w2.alloc (.cells #[.slice AQ 0 nQ, .slice AR 2 nR] 25)).alloc (.cells #[.int .i64 8, .int .i64 0, .int .i64 0, .int .i64 0, .int .i64 1, .int .i64 6, .int .i64 0, .int .i64 0, .int .i64 0, .int .i64 0, .int .i64 6, .int .i64 0, .int .i64 0, .int .i64 0, .int .i64 0] 53)).alloc (.cells #[.int .i64 6, .int .i64 0, .int .i64 0, .int .i64 0, .int .i64 0, .int .i64 9, .int .i64 0, .int .i64 0, .int .i64 0, .int .i64 2] 53)).alloc (.cells #[.slice (some ⟨w2.heap.size + 1, 0, none⟩) 3 3, .slice (some ⟨w2.heap.size + 1 + 1, 0, none⟩) 2 2] 50)).alloc (.cells #[.slice none 0 0, .slice (some ⟨w2.heap.size + 1 + 1 + 1, 0, none⟩) 2 2] 25)).heap.size = w2.heap.size + 5 := by simp only [heap_alloc]
  generalize (((((w2.alloc (.cells #[.slice AQ 0 nQ, .slice AR 2 nR] 25)).alloc (.cells #[.int .i64 8, .int .i64 0, .int .i64 0, .int .i64 0, .int .i64 1, .int .i64 6, .int .i64 0, .int .i64 0, .int .i64 0, .int .i64 0, .int .i64 6, .int .i64 0, .int .i64 0, .int .i64 0, .int .i64 0] 53)).alloc (.cells #[.int .i64 6, .int .i64 0, .int .i64 0, .int .i64 0, .int .i64 0, .int .i64 9, .int .i64 0, .int .i64 0, .int .i64 0, .int .i64 2] 53)).alloc (.cells #[.slice (some ⟨w2.heap.size + 1, 0, none⟩) 3 3, .slice (some ⟨w2.heap.size + 1 + 1, 0, none⟩) 2 2] 50)).alloc (.cells #[.slice none 0 0, .slice (some ⟨w2.heap.size + 1 + 1 + 1, 0, none⟩) 2 2] 25)) = W4 at *
  replace HX1 := Lib.hid (HX1.out.below hb)
  replace HS1 := Lib.hid ((HS1.out.below hb).more hb.size)
  replace HQ2 := Lib.hid ((HQ2.out.below hb).more hb.size)
  have HX2 := Lib.hid (show PgBox W4 w2.heap.size (.slice AQ 0 nQ) (.slice AR 2 nR) from ⟨HC 0 0 _ _ _ rfl rfl, HC 0 1 _ _ _ rfl rfl⟩)
  have HX3 := Lib.hid (show PgBox W4 (w2.heap.size + 1 + 1 + 1 + 1) (.slice none 0 0) (.slice (some ⟨w2.heap.size + 1 + 1 + 1, 0, none⟩) 2 2) from ⟨HC 4 0 _ _ _ rfl rfl, HC 4 1 _ _ _ rfl rfl⟩)
  have HP3 := Lib.hid (show PgM W4.heap.size W4 (.slice none 0 0) (.slice (some ⟨w2.heap.size + 1 + 1 + 1, 0, none⟩) 2 2) jmpW from ⟨ints_none _ _, sss_lit (ts := jmpW.ths) (by omega) (by decide) (fun j hj => by
    match j, hj with
    | 0, _ =>
      refine ⟨_, HC 3 0 _ _ _ rfl rfl, sts_lit (ss := [⟨8, 0, 0, 0, 1⟩, ⟨6, 0, 0, 0, 0⟩, ⟨6, 0, 0, 0, 0⟩]) (by omega) (by decide) (fun j hj => ?_)⟩
      match j, hj with
      | 0, _ => exact ⟨HC 1 0 _ _ _ rfl rfl, HC 1 1 _ _ _ rfl rfl, HC 1 2 _ _ _ rfl rfl, HC 1 3 _ _ _ rfl rfl, HC 1 4 _ _ _ rfl rfl⟩
      | 1, _ => exact ⟨HC 1 5 _ _ _ rfl rfl, HC 1 6 _ _ _ rfl rfl, HC 1 7 _ _ _ rfl rfl, HC 1 8 _ _ _ rfl rfl, HC 1 9 _ _ _ rfl rfl⟩
      | 2, _ => exact ⟨HC 1 10 _ _ _ rfl rfl, HC 1 11 _ _ _ rfl rfl, HC 1 12 _ _ _ rfl rfl, HC 1 13 _ _ _ rfl rfl, HC 1 14 _ _ _ rfl rfl⟩
    | 1, _ =>
      refine ⟨_, HC 3 1 _ _ _ rfl rfl, sts_lit (ss := [⟨6, 0, 0, 0, 0⟩, ⟨9, 0, 0, 0, 2⟩]) (by omega) (by decide) (fun j hj => ?_)⟩
      match j, hj with
      | 0, _ => exact ⟨HC 2 0 _ _ _ rfl rfl, HC 2 1 _ _ _ rfl rfl, HC 2 2 _ _ _ rfl rfl, HC 2 3 _ _ _ rfl rfl, HC 2 4 _ _ _ rfl rfl⟩
      | 1, _ => exact ⟨HC 2 5 _ _ _ rfl rfl, HC 2 6 _ _ _ rfl rfl, HC 2 7 _ _ _ rfl rfl, HC 2 8 _ _ _ rfl rfl, HC 2 9 _ _ _ rfl rfl⟩)⟩)
  have hB4 := chain hB2 hb
  obtain ⟨g2, hg2⟩ : ∃ g, g = w2.heap.size := ⟨_, rfl⟩
  rw [← hg2] at HX2 HX3 HP3 ⊢
  clear HC hb hsz hB2 hg2
  have HMN := Lib.hid (fun W (hW : Below W4.heap.size W4 W) => jmp_many ▸ many_any (ths := jmpB.ths) W ⟨none, 0, 0, rfl⟩ ((HS1.out.below hW).more hW.size) (Nat.le_refl _) (by decide) hm4)
  have HOF := Lib.hid (fun (m : Int) W (hW : Below W4.heap.size W4 W) => of_any (ths := jmpB.ths) m W ⟨none, 0, 0, rfl⟩ ((HS1.out.below hW).more hW.size) (Nat.le_refl _) (by decide) hm4)
  have HN0 := Lib.hid (fun W (hW : Below W4.heap.size W4 W) => jmp_num0 ▸ num_any (ths := jmpB.ths) 1 0 W ⟨none, 0, 0, rfl⟩ ((HS1.out.below hW).more hW.size) (Nat.le_refl _) (by decide) hm4)
  have HN1 := Lib.hid (fun W (hW : Below W4.heap.size W4 W) => jmp_num1 ▸ num_any (ths := jmpB.ths) 1 1 W ⟨none, 0, 0, rfl⟩ ((HS1.out.below hW).more hW.size) (Nat.le_refl _) (by decide) hm4)
  have HSM := Lib.hid (fun W (hW : Below W4.heap.size W4 W) => rsame_any (P := jmpW) W ⟨_, _, rfl, (HQ2.out.below hW).more hW.size⟩ ⟨_, _, rfl, (HP3.out.below hW).more hW.size⟩ (Nat.le_refl _))
  have HX1' := Lib.hid (fun W (hW : Below W4.heap.size W4 W) => HX1.out.below hW)
  have HX2' := Lib.hid (fun W (hW : Below W4.heap.size W4 W) => HX2.out.below hW)
  have HX3' := Lib.hid (fun W (hW : Below W4.heap.size W4 W) => HX3.out.below hW)
  have hBZ := Below.refl W4.heap.size W4
  clear HS1 HQ2 HP3 HX1 HX2 HX3 hm4
  obtain ⟨x0, x1⟩ := HX1'.out _ hBZ
  go_wp2_with fail
  refine (HOF.out _ _ hBZ).mono ?_
  rintro e w5 ⟨r, rfl, hr, hb⟩
  obtain rfl := IsOf.one hr jmp_of2
  replace hBZ := chain hBZ hb
  clear hr hb x0 x1
  obtain ⟨x0, x1⟩ := HX1'.out _ hBZ
  dsimp only
  go_wp2_with fail
  refine (HOF.out _ _ hBZ).mono ?_
  rintro e w6 ⟨r, rfl, hr, hb⟩
  obtain rfl := IsOf.one hr jmp_of3
  replace hBZ := chain hBZ hb
  clear hr hb x0 x1 HOF
  dsimp only
  go_wp2_with fail
  refine (buffering_any _).mono ?_
  rintro e w7 ⟨rfl, hM, hb⟩
  replace hBZ := chain hBZ hb
  clear hb
  have hb := below_al (Below.refl w7.heap.size w7) (.cells #[.int .i64 1, .int .i64 3] 3)
  have hg : Ints (w7.heap.size + 1) (w7.alloc (.cells #[.int .i64 1, .int .i64 3] 3)) (.slice (some ⟨w7.heap.size, 0, none⟩) 2 2) [1, 3] := ints_lit (ns := [1, 3]) (by omega) (by decide) (fun j hj => by
    match j, hj with
    | 0, _ => exact (box_1 w7 _ _ 0 rfl).1
    | 1, _ => exact (box_1 w7 _ _ 1 rfl).1)
  have HFN := Lib.hid (buf_fen ▸ fence_any (F := bufF) (g := [1, 3]) _ (hM.fl.below hb |>.more hb.size) (by simpa using hg) (Nat.le_refl _) (by decide) (by decide) (by decide) (by decide) (by decide))
  replace hBZ := chain hBZ hb
  clear hM hb hg
  go_wp2_with fail
  refine HFN.out.mono ?_
  rintro e w8 ⟨u, rfl, hF8, hb⟩
  replace hBZ := chain hBZ hb
  clear HFN hb
  obtain ⟨A0, c0, bt, ft, c2, A1, c1, b3, f3, c3, rfl, hX8⟩ := fl_lit hF8
  go_upto_region 7 with fail
  have hb := below_al (Below.refl w8.heap.size w8) (.cells #[.string ⟨#[115, 98]⟩, .slice A0 1 c0, .slice (some ⟨bt, ft, none⟩) 2 c2, .bool false, .slice A1 2 c1] 30)
  have HY8 := Lib.hid (BoxC.new w8 30 #[.string ⟨#[115, 98]⟩, .slice A0 1 c0, .slice (some ⟨bt, ft, none⟩) 2 c2, .bool false, .slice A1 2 c1])
  have HX8 := Lib.hid (hX8.below hb)
  have HF8 := Lib.hid ((hF8.below hb).more hb.size)
  replace hBZ := chain hBZ hb
  clear hb hF8 hX8
  generalize w8.alloc (.cells #[.string ⟨#[115, 98]⟩, .slice A0 1 c0, .slice (some ⟨bt, ft, none⟩) 2 c2, .bool false, .slice A1 2 c1] 30) = W9 at *
  obtain ⟨g3, hg3⟩ : ∃ g, g = w8.heap.size := ⟨_, rfl⟩
  rw [← hg3] at HY8 ⊢
  clear hg3
  have y0 := HY8.out.cell 0 _ rfl
  have y1 := HY8.out.cell 1 _ rfl
  have y2 := HY8.out.cell 2 _ rfl
  have y3 := HY8.out.cell 3 _ rfl
  have y4 := HY8.out.cell 4 _ rfl
  have hb := below_al (Below.refl W9.heap.size W9) (.cells #[.int .i64 1, .int .i64 3] 3)
  have hg : Ints (W9.heap.size + 1) (W9.alloc (.cells #[.int .i64 1, .int .i64 3] 3)) (.slice (some ⟨W9.heap.size, 0, none⟩) 2 2) [1, 3] := ints_lit (ns := [1, 3]) (by omega) (by decide) (fun j hj => by
    match j, hj with
    | 0, _ => exact (box_1 W9 _ _ 0 rfl).1
    | 1, _ => exact (box_1 W9 _ _ 1 rfl).1)
  have HER := Lib.hid (erase_any (F := bufX) (g := [1, 3]) _ ((HF8.out.below hb).more hb.size) (by simpa using hg) (Nat.le_refl _) (by decide) (by decide) (by decide) (by decide) (by decide))
  rw [bufX_era.1, bufX_era.2] at HER
  replace hBZ := chain hBZ hb
  replace HY8 := Lib.hid (HY8.out.below hb HY8.out.lt)
  replace HX8 := Lib.hid (HX8.out.below hb)
  clear hb hg HF8
  go_wp2_with fail
  refine HER.out.mono ?_
  rintro e w10 ⟨u, rfl, hF10, hb⟩
  replace hBZ := chain hBZ hb
  replace HY8 := Lib.hid (HY8.out.below hb HY8.out.lt)
  replace HX8 := Lib.hid (HX8.out.below hb)
  clear HER hb y0 y1 y2 y3 y4
  obtain ⟨B0, d0, B2, d2, B1, d1, rfl⟩ := fl_buf hF10
  go_upto_region 8 with fail
  have hb := below_al (Below.refl w10.heap.size w10) (.cells #[.string ⟨#[115, 98]⟩, .slice B0 1 d0, .slice B2 2 d2, .bool false, .slice B1 2 d1] 30)
  have HE8 := Lib.hid (BoxC.new w10 30 #[.string ⟨#[115, 98]⟩, .slice B0 1 d0, .slice B2 2 d2, .bool false, .slice B1 2 d1])
  replace HY8 := Lib.hid (HY8.out.below hb HY8.out.lt)
  replace HX8 := Lib.hid (HX8.out.below hb)
  have HF11 := Lib.hid ((hF10.below hb).more hb.size)
  replace hBZ := chain hBZ hb
  clear hb hF10
  generalize w10.alloc (.cells #[.string ⟨#[115, 98]⟩, .slice B0 1 d0, .slice B2 2 d2, .bool false, .slice B1 2 d1] 30) = W11 at *
  obtain ⟨g4, hg4⟩ : ∃ g, g = w10.heap.size := ⟨_, rfl⟩
  rw [← hg4] at HE8 ⊢
  clear hg4
  go_wp2_with fail
  refine (buffering_any _).mono ?_
  rintro e w12 ⟨rfl, hM, hb⟩
  replace hBZ := chain hBZ hb
  replace HY8 := Lib.hid (HY8.out.below hb HY8.out.lt)
  replace HE8 := Lib.hid (HE8.out.below hb HE8.out.lt)
  replace HX8 := Lib.hid (HX8.out.below hb)
  replace HF11 := Lib.hid ((HF11.out.below hb).more hb.size)
  clear hb
  have hb := below_al (Below.refl w12.heap.size w12) (.cells #[.int .i64 0] 3)
  have hg : Ints (w12.heap.size + 1) (w12.alloc (.cells #[.int .i64 0] 3)) (.slice (some ⟨w12.heap.size, 0, none⟩) 1 1) [0] := ints_lit (ns := [0]) (by omega) (by decide) (fun j hj => by
    match j, hj with
    | 0, _ => exact (box_1 w12 _ _ 0 rfl).1)
  have HER := Lib.hid (erase_any (F := bufF) (g := [0]) _ ((hM.fl.below hb).more hb.size) (by simpa using hg) (Nat.le_refl _) (by decide) (by decide) (by decide) (by decide) (by decide))
  rw [buf_era] at HER
  replace hBZ := chain hBZ hb
  replace HY8 := Lib.hid (HY8.out.below hb HY8.out.lt)
  replace HE8 := Lib.hid (HE8.out.below hb HE8.out.lt)
  replace HX8 := Lib.hid (HX8.out.below hb)
  replace HF11 := Lib.hid ((HF11.out.below hb).more hb.size)
  clear hb hg hM
  go_wp2_with fail
  refine HER.out.mono ?_
  rintro e w13 ⟨u, rfl, ⟨vi, vt, vc, rfl, ⟨C0, e0, rfl, -⟩, ⟨C2, e2, rfl, -⟩, ⟨C1, e1, rfl, -⟩⟩, hb⟩
  replace hBZ := chain hBZ hb
  replace HY8 := Lib.hid (HY8.out.below hb HY8.out.lt)
  replace HE8 := Lib.hid (HE8.out.below hb HE8.out.lt)
  replace HX8 := Lib.hid (HX8.out.below hb)
  replace HF11 := Lib.hid ((HF11.out.below hb).more hb.size)
  clear hb HER
  unfold flv
  go_upto_region 9 with fail
  have hb := below_al (Below.refl w13.heap.size w13) (.cells #[.string ⟨(eraR bufF [0]).name.toArray⟩, .slice C0 (eraR bufF [0]).init.length e0, .slice C2 (eraR bufF [0]).ths.length e2, .bool (eraR bufF [0]).all, .slice C1 (eraR bufF [0]).cond.length e1] 30)
  replace hBZ := chain hBZ hb
  replace HY8 := Lib.hid (HY8.out.below hb HY8.out.lt)
  replace HE8 := Lib.hid (HE8.out.below hb HE8.out.lt)
  replace HX8 := Lib.hid (HX8.out.below hb)
  replace HF11 := Lib.hid ((HF11.out.below hb).more hb.size)
  generalize w13.alloc (.cells #[.string ⟨(eraR bufF [0]).name.toArray⟩, .slice C0 (eraR bufF [0]).init.length e0, .slice C2 (eraR bufF [0]).ths.length e2, .bool (eraR bufF [0]).all, .slice C1 (eraR bufF [0]).cond.length e1] 30) = WW at *
  clear hb
  obtain ⟨x0, x1⟩ := HX1'.out _ hBZ
  obtain ⟨y0, y1⟩ := HX2'.out _ hBZ
  obtain ⟨z0, z1⟩ := HX3'.out _ hBZ
  have f0 := HY8.out.cell 0 _ rfl
  have f2 := HY8.out.cell 2 _ rfl
  have e0 := HE8.out.cell 0 _ rfl
  have e1 := HE8.out.cell 1 _ rfl
  have e2 := HE8.out.cell 2 _ rfl
  have e3 := HE8.out.cell 3 _ rfl
  have e4 := HE8.out.cell 4 _ rfl
  have t1 := HX8.out.t
  have o1 := HX8.out.o
  have HBZ := Lib.hid hBZ
  have HCS := Lib.hid (fun W (hW : Below WW.heap.size WW W) (u : Value) (hu : FlV W.heap.size W u bufF) => csame_any W ((HF11.out.below hW).more hW.size) hu (Nat.le_refl _))
  clear HX8 HY8 HE8
  simp only [List.append_eq, List.cons_append, List.nil_append]
  refine wp_region_held_drew (S := (fun w' => (w'.cell? ⟨g1 + 1 + 1 + 1, 0, none⟩ = some (.slice none 0 0) ∧ w'.cell? ⟨g1 + 1 + 1 + 1, 1, none⟩ = some (.slice (some ⟨g1 + 1 + 1, 0, none⟩) 2 2) ∧ w'.cell? ⟨g2, 0, none⟩ = some (.slice AQ 0 nQ) ∧ w'.cell? ⟨g2, 1, none⟩ = some (.slice AR 2 nR) ∧ w'.cell? ⟨g2 + 1 + 1 + 1 + 1, 0, none⟩ = some (.slice none 0 0) ∧ w'.cell? ⟨g2 + 1 + 1 + 1 + 1, 1, none⟩ = some (.slice (some ⟨g2 + 1 + 1 + 1, 0, none⟩) 2 2) ∧ w'.cell? ⟨g3, 2, none⟩ = some (.slice (some ⟨bt, ft, none⟩) 2 c2) ∧ w'.cell? ⟨g4, 0, none⟩ = some (.string ⟨#[115, 98]⟩) ∧ w'.cell? ⟨g4, 1, none⟩ = some (.slice B0 1 d0) ∧ w'.cell? ⟨g4, 2, none⟩ = some (.slice B2 2 d2) ∧ w'.cell? ⟨g4, 3, none⟩ = some (.bool false) ∧ w'.cell? ⟨g4, 4, none⟩ = some (.slice B1 2 d1) ∧ w'.cell? ⟨bt, ft + 1, none⟩ = some (.slice (some ⟨b3, f3, none⟩) 3 c3) ∧ w'.cell? ⟨b3, f3 + 5, none⟩ = some (.int .i64 6)) ∧ Below WW.heap.size WW w')) (by kernel_rfl) ⟨⟨x0, x1, y0, y1, z0, z1, f2, e0, e1, e2, e3, e4, t1, o1⟩, below_drewN (Below.refl _ _) 1⟩ (fun hHeld => ?_)
  refine wpAnyH_take (i := 0) (v := ?_) rfl (by kernel_rfl) (by kernel_rfl) (by kernel_rfl) (fun _ _ _ h => h) (Or.inl ⟨by rfl, ?_⟩) (by assumption) ?_
  rotate_left
  · intro w hSw; (try dsimp only at hSw); go_simp; (try with_reducible rfl)
  (try simp only [Act.put, List.getElem_toArray, List.getElem_cons_zero, List.getElem_cons_succ, Array.getInternal_eq_getElem, List.setIfInBounds_toArray, List.set_cons_zero, List.set_cons_succ])
  refine wpAnyH_ready (rs := [1]) (by kernel_rfl) (by simp) ?_
  refine AllReadyH.cons rfl (fun K hK => ?_) AllReadyH.nil
  go_simp
  refine (HMN.out _ (chain HBZ.out hHeld.2)).mono ?_
  rintro e wMN ⟨rfl, hba⟩
  obtain ⟨q0, q1, q2, q3, q4, q5, q6, q7, q8, q9, q10, q11, q12, q13⟩ := hHeld.1
  refine hK.out _ _ ⟨⟨kc hba q0, kc hba q1, kc hba q2, kc hba q3, kc hba q4, kc hba q5, kc hba q6, kc hba q7, kc hba q8, kc hba q9, kc hba q10, kc hba q11, kc hba q12, kc hba q13⟩, chain hHeld.2 hba⟩ (fun hHeld => ?_)
  clear hba q0 q1 q2 q3 q4 q5 q6 q7 q8 q9 q10 q11 q12 q13
  clear hK K
  (try simp only [Act.put, List.getElem_toArray, List.getElem_cons_zero, List.getElem_cons_succ, Array.getInternal_eq_getElem, List.setIfInBounds_toArray, List.set_cons_zero, List.set_cons_succ])
  refine wpAnyH_take (i := 2) (v := ?_) rfl (by kernel_rfl) (by kernel_rfl) (by kernel_rfl) (fun _ _ _ h => h) (Or.inl ⟨by rfl, ?_⟩) (by assumption) ?_
  rotate_left
  · intro w hSw; (try dsimp only at hSw); go_simp; (try with_reducible rfl)
  (try simp only [Act.put, List.getElem_toArray, List.getElem_cons_zero, List.getElem_cons_succ, Array.getInternal_eq_getElem, List.setIfInBounds_toArray, List.set_cons_zero, List.set_cons_succ])
  refine wpAnyH_take (i := 3) (v := ?_) rfl (by kernel_rfl) (by kernel_rfl) (by kernel_rfl) (fun _ _ _ h => h) (Or.inl ⟨by rfl, ?_⟩) (by assumption) ?_
  rotate_left
  · intro w hSw; (try dsimp only at hSw); go_simp; (try with_reducible rfl)
  (try simp only [Act.put, List.getElem_toArray, List.getElem_cons_zero, List.getElem_cons_succ, Array.getInternal_eq_getElem, List.setIfInBounds_toArray, List.set_cons_zero, List.set_cons_succ])
  refine wpAnyH_take (i := 4) (v := ?_) rfl (by kernel_rfl) (by kernel_rfl) (by kernel_rfl) (fun _ _ _ h => h) (Or.inl ⟨by rfl, ?_⟩) (by assumption) ?_
  rotate_left
  · intro w hSw; (try dsimp only at hSw); go_simp; (try with_reducible rfl)
  (try simp only [Act.put, List.getElem_toArray, List.getElem_cons_zero, List.getElem_cons_succ, Array.getInternal_eq_getElem, List.setIfInBounds_toArray, List.set_cons_zero, List.set_cons_succ])
  refine wpAnyH_take (i := 5) (v := ?_) rfl (by kernel_rfl) (by kernel_rfl) (by kernel_rfl) (fun _ _ _ h => h) (Or.inl ⟨by rfl, ?_⟩) (by assumption) ?_
  rotate_left
  · intro w hSw; (try dsimp only at hSw); go_simp; (try with_reducible rfl)
  (try simp only [Act.put, List.getElem_toArray, List.getElem_cons_zero, List.getElem_cons_succ, Array.getInternal_eq_getElem, List.setIfInBounds_toArray, List.set_cons_zero, List.set_cons_succ])
  refine wpAnyH_take (i := 6) (v := ?_) rfl (by kernel_rfl) (by kernel_rfl) (by kernel_rfl) (fun _ _ _ h => h) (Or.inl ⟨by rfl, ?_⟩) (by assumption) ?_
  rotate_left
  · intro w hSw; (try dsimp only at hSw); go_simp; (try with_reducible rfl)
  (try simp only [Act.put, List.getElem_toArray, List.getElem_cons_zero, List.getElem_cons_succ, Array.getInternal_eq_getElem, List.setIfInBounds_toArray, List.set_cons_zero, List.set_cons_succ])
  refine wpAnyH_take (i := 7) (v := ?_) rfl (by kernel_rfl) (by kernel_rfl) (by kernel_rfl) (fun _ _ _ h => h) (Or.inl ⟨by rfl, ?_⟩) (by assumption) ?_
  rotate_left
  · intro w hSw; (try dsimp only at hSw); go_simp; (try with_reducible rfl)
  (try simp only [Act.put, List.getElem_toArray, List.getElem_cons_zero, List.getElem_cons_succ, Array.getInternal_eq_getElem, List.setIfInBounds_toArray, List.set_cons_zero, List.set_cons_succ])
  refine wpAnyH_take (i := 8) (v := ?_) rfl (by kernel_rfl) (by kernel_rfl) (by kernel_rfl) (fun _ _ _ h => h) (Or.inl ⟨by rfl, ?_⟩) (by assumption) ?_
  rotate_left
  · intro w hSw; (try dsimp only at hSw); go_simp; (try with_reducible rfl)
  (try simp only [Act.put, List.getElem_toArray, List.getElem_cons_zero, List.getElem_cons_succ, Array.getInternal_eq_getElem, List.setIfInBounds_toArray, List.set_cons_zero, List.set_cons_succ])
  refine wpAnyH_take (i := 9) (v := ?_) rfl (by kernel_rfl) (by kernel_rfl) (by kernel_rfl) (fun _ _ _ h => h) (Or.inl ⟨by rfl, ?_⟩) (by assumption) ?_
  rotate_left
  · intro w hSw; (try dsimp only at hSw); go_simp; (try with_reducible rfl)
  (try simp only [Act.put, List.getElem_toArray, List.getElem_cons_zero, List.getElem_cons_succ, Array.getInternal_eq_getElem, List.setIfInBounds_toArray, List.set_cons_zero, List.set_cons_succ])
  refine wpAnyH_take (i := 10) (v := ?_) rfl (by kernel_rfl) (by kernel_rfl) (by kernel_rfl) (fun _ _ _ h => h) (Or.inl ⟨by rfl, ?_⟩) (by assumption) ?_
  rotate_left
  · intro w hSw; (try dsimp only at hSw); go_simp; (try with_reducible rfl)
  (try simp only [Act.put, List.getElem_toArray, List.getElem_cons_zero, List.getElem_cons_succ, Array.getInternal_eq_getElem, List.setIfInBounds_toArray, List.set_cons_zero, List.set_cons_succ])
  refine wpAnyH_take (i := 11) (v := ?_) rfl (by kernel_rfl) (by kernel_rfl) (by kernel_rfl) (fun _ _ _ h => h) (Or.inl ⟨by rfl, ?_⟩) (by assumption) ?_
  rotate_left
  · intro w hSw; (try dsimp only at hSw); go_simp; (try with_reducible rfl)
  (try simp only [Act.put, List.getElem_toArray, List.getElem_cons_zero, List.getElem_cons_succ, Array.getInternal_eq_getElem, List.setIfInBounds_toArray, List.set_cons_zero, List.set_cons_succ])
  refine wpAnyH_take (i := 12) (v := ?_) rfl (by kernel_rfl) (by kernel_rfl) (by kernel_rfl) (fun _ _ _ h => h) (Or.inl ⟨by rfl, ?_⟩) (by assumption) ?_
  rotate_left
  · intro w hSw; (try dsimp only at hSw); go_simp; (try with_reducible rfl)
  (try simp only [Act.put, List.getElem_toArray, List.getElem_cons_zero, List.getElem_cons_succ, Array.getInternal_eq_getElem, List.setIfInBounds_toArray, List.set_cons_zero, List.set_cons_succ])
  refine wpAnyH_take (i := 13) (v := ?_) rfl (by kernel_rfl) (by kernel_rfl) (by kernel_rfl) (fun _ _ _ h => h) (Or.inl ⟨by rfl, ?_⟩) (by assumption) ?_
  rotate_left
  · intro w hSw; (try dsimp only at hSw); go_simp; (try with_reducible rfl)
  (try simp only [Act.put, List.getElem_toArray, List.getElem_cons_zero, List.getElem_cons_succ, Array.getInternal_eq_getElem, List.setIfInBounds_toArray, List.set_cons_zero, List.set_cons_succ])
  refine wpAnyH_take (i := 14) (v := ?_) rfl (by kernel_rfl) (by kernel_rfl) (by kernel_rfl) (fun _ _ _ h => h) (Or.inl ⟨by rfl, ?_⟩) (by assumption) ?_
  rotate_left
  · intro w hSw; (try dsimp only at hSw); go_simp; (try with_reducible rfl)
  (try simp only [Act.put, List.getElem_toArray, List.getElem_cons_zero, List.getElem_cons_succ, Array.getInternal_eq_getElem, List.setIfInBounds_toArray, List.set_cons_zero, List.set_cons_succ])
  refine wpAnyH_take (i := 15) (v := ?_) rfl (by kernel_rfl) (by kernel_rfl) (by kernel_rfl) (fun _ _ _ h => h) (Or.inl ⟨by rfl, ?_⟩) (by assumption) ?_
  rotate_left
  · intro w hSw; (try dsimp only at hSw); go_simp; (try with_reducible rfl)
  (try simp only [Act.put, List.getElem_toArray, List.getElem_cons_zero, List.getElem_cons_succ, Array.getInternal_eq_getElem, List.setIfInBounds_toArray, List.set_cons_zero, List.set_cons_succ])
  refine wpAnyH_take (i := 16) (v := ?_) rfl (by kernel_rfl) (by kernel_rfl) (by kernel_rfl) (fun _ _ _ h => h) (Or.inl ⟨by rfl, ?_⟩) (by assumption) ?_
  rotate_left
  · intro w hSw; (try dsimp only at hSw); go_simp; (try with_reducible rfl)
  (try simp only [Act.put, List.getElem_toArray, List.getElem_cons_zero, List.getElem_cons_succ, Array.getInternal_eq_getElem, List.setIfInBounds_toArray, List.set_cons_zero, List.set_cons_succ])
  refine wpAnyH_take (i := 17) (v := ?_) rfl (by kernel_rfl) (by kernel_rfl) (by kernel_rfl) (fun _ _ _ h => h) (Or.inl ⟨by rfl, ?_⟩) (by assumption) ?_
  rotate_left
  · intro w hSw; (try dsimp only at hSw); go_simp; (try with_reducible rfl)
  (try simp only [Act.put, List.getElem_toArray, List.getElem_cons_zero, List.getElem_cons_succ, Array.getInternal_eq_getElem, List.setIfInBounds_toArray, List.set_cons_zero, List.set_cons_succ])
  refine wpAnyH_take (i := 18) (v := ?_) rfl (by kernel_rfl) (by kernel_rfl) (by kernel_rfl) (fun _ _ _ h => h) (Or.inl ⟨by rfl, ?_⟩) (by assumption) ?_
  rotate_left
  · intro w hSw; (try dsimp only at hSw); go_simp; (try with_reducible rfl)
  (try simp only [Act.put, List.getElem_toArray, List.getElem_cons_zero, List.getElem_cons_succ, Array.getInternal_eq_getElem, List.setIfInBounds_toArray, List.set_cons_zero, List.set_cons_succ])
  refine wpAnyH_take (i := 19) (v := ?_) rfl (by kernel_rfl) (by kernel_rfl) (by kernel_rfl) (fun _ _ _ h => h) (Or.inl ⟨by rfl, ?_⟩) (by assumption) ?_
  rotate_left
  · intro w hSw; (try dsimp only at hSw); go_simp; (try with_reducible rfl)
  (try simp only [Act.put, List.getElem_toArray, List.getElem_cons_zero, List.getElem_cons_succ, Array.getInternal_eq_getElem, List.setIfInBounds_toArray, List.set_cons_zero, List.set_cons_succ])
  refine wpAnyH_ready (rs := [20]) (by kernel_rfl) (by simp) ?_
  refine AllReadyH.cons rfl (fun K hK => ?_) AllReadyH.nil
  go_simp
  refine (HN0.out _ (chain HBZ.out hHeld.2)).mono ?_
  rintro e wN0 ⟨rfl, hba⟩
  obtain ⟨q0, q1, q2, q3, q4, q5, q6, q7, q8, q9, q10, q11, q12, q13⟩ := hHeld.1
  refine hK.out _ _ ⟨⟨kc hba q0, kc hba q1, kc hba q2, kc hba q3, kc hba q4, kc hba q5, kc hba q6, kc hba q7, kc hba q8, kc hba q9, kc hba q10, kc hba q11, kc hba q12, kc hba q13⟩, chain hHeld.2 hba⟩ (fun hHeld => ?_)
  clear hba q0 q1 q2 q3 q4 q5 q6 q7 q8 q9 q10 q11 q12 q13
  clear hK K
  (try simp only [Act.put, List.getElem_toArray, List.getElem_cons_zero, List.getElem_cons_succ, Array.getInternal_eq_getElem, List.setIfInBounds_toArray, List.set_cons_zero, List.set_cons_succ])
  refine wpAnyH_take (i := 21) (v := ?_) rfl (by kernel_rfl) (by kernel_rfl) (by kernel_rfl) (fun _ _ _ h => h) (Or.inl ⟨by rfl, ?_⟩) (by assumption) ?_
  rotate_left
  · intro w hSw; (try dsimp only at hSw); go_simp; (try with_reducible rfl)
  (try simp only [Act.put, List.getElem_toArray, List.getElem_cons_zero, List.getElem_cons_succ, Array.getInternal_eq_getElem, List.setIfInBounds_toArray, List.set_cons_zero, List.set_cons_succ])
  refine wpAnyH_take (i := 22) (v := ?_) rfl (by kernel_rfl) (by kernel_rfl) (by kernel_rfl) (fun _ _ _ h => h) (Or.inl ⟨by rfl, ?_⟩) (by assumption) ?_
  rotate_left
  · intro w hSw; (try dsimp only at hSw); go_simp; (try with_reducible rfl)
  (try simp only [Act.put, List.getElem_toArray, List.getElem_cons_zero, List.getElem_cons_succ, Array.getInternal_eq_getElem, List.setIfInBounds_toArray, List.set_cons_zero, List.set_cons_succ])
  refine wpAnyH_take (i := 23) (v := ?_) rfl (by kernel_rfl) (by kernel_rfl) (by kernel_rfl) (fun _ _ _ h => h) (Or.inl ⟨by rfl, ?_⟩) (by assumption) ?_
  rotate_left
  · intro w hSw; (try dsimp only at hSw); go_simp; (try with_reducible rfl)
  (try simp only [Act.put, List.getElem_toArray, List.getElem_cons_zero, List.getElem_cons_succ, Array.getInternal_eq_getElem, List.setIfInBounds_toArray, List.set_cons_zero, List.set_cons_succ])
  refine wpAnyH_take (i := 24) (v := ?_) rfl (by kernel_rfl) (by kernel_rfl) (by kernel_rfl) (fun _ _ _ h => h) (Or.inl ⟨by rfl, ?_⟩) (by assumption) ?_
  rotate_left
  · intro w hSw; (try dsimp only at hSw); go_simp; (try with_reducible rfl)
  (try simp only [Act.put, List.getElem_toArray, List.getElem_cons_zero, List.getElem_cons_succ, Array.getInternal_eq_getElem, List.setIfInBounds_toArray, List.set_cons_zero, List.set_cons_succ])
  refine wpAnyH_ready (rs := [25]) (by kernel_rfl) (by simp) ?_
  refine AllReadyH.cons rfl (fun K hK => ?_) AllReadyH.nil
  go_simp
  refine (HN1.out _ (chain HBZ.out hHeld.2)).mono ?_
  rintro e wN1 ⟨rfl, hba⟩
  obtain ⟨q0, q1, q2, q3, q4, q5, q6, q7, q8, q9, q10, q11, q12, q13⟩ := hHeld.1
  refine hK.out _ _ ⟨⟨kc hba q0, kc hba q1, kc hba q2, kc hba q3, kc hba q4, kc hba q5, kc hba q6, kc hba q7, kc hba q8, kc hba q9, kc hba q10, kc hba q11, kc hba q12, kc hba q13⟩, chain hHeld.2 hba⟩ (fun hHeld => ?_)
  clear hba q0 q1 q2 q3 q4 q5 q6 q7 q8 q9 q10 q11 q12 q13
  clear hK K
  (try simp only [Act.put, List.getElem_toArray, List.getElem_cons_zero, List.getElem_cons_succ, Array.getInternal_eq_getElem, List.setIfInBounds_toArray, List.set_cons_zero, List.set_cons_succ])
  refine wpAnyH_take (i := 26) (v := ?_) rfl (by kernel_rfl) (by kernel_rfl) (by kernel_rfl) (fun _ _ _ h => h) (Or.inl ⟨by rfl, ?_⟩) (by assumption) ?_
  rotate_left
  · intro w hSw; (try dsimp only at hSw); go_simp; (try with_reducible rfl)
  (try simp only [Act.put, List.getElem_toArray, List.getElem_cons_zero, List.getElem_cons_succ, Array.getInternal_eq_getElem, List.setIfInBounds_toArray, List.set_cons_zero, List.set_cons_succ])
  refine wpAnyH_take (i := 27) (v := ?_) rfl (by kernel_rfl) (by kernel_rfl) (by kernel_rfl) (fun _ _ _ h => h) (Or.inl ⟨by rfl, ?_⟩) (by assumption) ?_
  rotate_left
  · intro w hSw; (try dsimp only at hSw); go_simp; (try with_reducible rfl)
  (try simp only [Act.put, List.getElem_toArray, List.getElem_cons_zero, List.getElem_cons_succ, Array.getInternal_eq_getElem, List.setIfInBounds_toArray, List.set_cons_zero, List.set_cons_succ])
  refine wpAnyH_take (i := 28) (v := ?_) rfl (by kernel_rfl) (by kernel_rfl) (by kernel_rfl) (fun _ _ _ h => h) (Or.inl ⟨by rfl, ?_⟩) (by assumption) ?_
  rotate_left
  · intro w hSw; (try dsimp only at hSw); go_simp; (try with_reducible rfl)
  (try simp only [Act.put, List.getElem_toArray, List.getElem_cons_zero, List.getElem_cons_succ, Array.getInternal_eq_getElem, List.setIfInBounds_toArray, List.set_cons_zero, List.set_cons_succ])
  refine wpAnyH_take (i := 29) (v := ?_) rfl (by kernel_rfl) (by kernel_rfl) (by kernel_rfl) (fun _ _ _ h => h) (Or.inl ⟨by rfl, ?_⟩) (by assumption) ?_
  rotate_left
  · intro w hSw; (try dsimp only at hSw); go_simp; (try with_reducible rfl)
  (try simp only [Act.put, List.getElem_toArray, List.getElem_cons_zero, List.getElem_cons_succ, Array.getInternal_eq_getElem, List.setIfInBounds_toArray, List.set_cons_zero, List.set_cons_succ])
  refine wpAnyH_take (i := 30) (v := ?_) rfl (by kernel_rfl) (by kernel_rfl) (by kernel_rfl) (fun _ _ _ h => h) (Or.inl ⟨by rfl, ?_⟩) (by assumption) ?_
  rotate_left
  · intro w hSw; (try dsimp only at hSw); go_simp; (try with_reducible rfl)
  (try simp only [Act.put, List.getElem_toArray, List.getElem_cons_zero, List.getElem_cons_succ, Array.getInternal_eq_getElem, List.setIfInBounds_toArray, List.set_cons_zero, List.set_cons_succ])
  refine wpAnyH_ready (rs := [31]) (by kernel_rfl) (by simp) ?_
  refine AllReadyH.cons rfl (fun K hK => ?_) AllReadyH.nil
  go_simp
  refine (HSM.out _ (chain HBZ.out hHeld.2)).mono ?_
  rintro e wSM ⟨rfl, hba⟩
  obtain ⟨q0, q1, q2, q3, q4, q5, q6, q7, q8, q9, q10, q11, q12, q13⟩ := hHeld.1
  refine hK.out _ _ ⟨⟨kc hba q0, kc hba q1, kc hba q2, kc hba q3, kc hba q4, kc hba q5, kc hba q6, kc hba q7, kc hba q8, kc hba q9, kc hba q10, kc hba q11, kc hba q12, kc hba q13⟩, chain hHeld.2 hba⟩ (fun hHeld => ?_)
  clear hba q0 q1 q2 q3 q4 q5 q6 q7 q8 q9 q10 q11 q12 q13
  clear hK K
  (try simp only [Act.put, List.getElem_toArray, List.getElem_cons_zero, List.getElem_cons_succ, Array.getInternal_eq_getElem, List.setIfInBounds_toArray, List.set_cons_zero, List.set_cons_succ])
  refine wpAnyH_take (i := 32) (v := ?_) rfl (by kernel_rfl) (by kernel_rfl) (by kernel_rfl) (fun _ _ _ h => h) (Or.inl ⟨by rfl, ?_⟩) (by assumption) ?_
  rotate_left
  · intro w hSw; (try dsimp only at hSw); go_simp; (try with_reducible rfl)
  (try simp only [Act.put, List.getElem_toArray, List.getElem_cons_zero, List.getElem_cons_succ, Array.getInternal_eq_getElem, List.setIfInBounds_toArray, List.set_cons_zero, List.set_cons_succ])
  refine wpAnyH_take (i := 33) (v := ?_) rfl (by kernel_rfl) (by kernel_rfl) (by kernel_rfl) (fun _ _ _ h => h) (Or.inl ⟨by rfl, ?_⟩) (by assumption) ?_
  rotate_left
  · intro w hSw; (try dsimp only at hSw); go_simp; (try with_reducible rfl)
  (try simp only [Act.put, List.getElem_toArray, List.getElem_cons_zero, List.getElem_cons_succ, Array.getInternal_eq_getElem, List.setIfInBounds_toArray, List.set_cons_zero, List.set_cons_succ])
  refine wpAnyH_take (i := 34) (v := ?_) rfl (by kernel_rfl) (by kernel_rfl) (by kernel_rfl) (fun _ _ _ h => h) (Or.inl ⟨by rfl, ?_⟩) (by assumption) ?_
  rotate_left
  · intro w hSw; (try dsimp only at hSw); go_simp; (try with_reducible rfl)
  (try simp only [Act.put, List.getElem_toArray, List.getElem_cons_zero, List.getElem_cons_succ, Array.getInternal_eq_getElem, List.setIfInBounds_toArray, List.set_cons_zero, List.set_cons_succ])
  refine wpAnyH_take (i := 35) (v := ?_) rfl (by kernel_rfl) (by kernel_rfl) (by kernel_rfl) (fun _ _ _ h => h) (Or.inl ⟨by rfl, ?_⟩) (by assumption) ?_
  rotate_left
  · intro w hSw; (try dsimp only at hSw); go_simp; (try with_reducible rfl)
  (try simp only [Act.put, List.getElem_toArray, List.getElem_cons_zero, List.getElem_cons_succ, Array.getInternal_eq_getElem, List.setIfInBounds_toArray, List.set_cons_zero, List.set_cons_succ])
  refine wpAnyH_take (i := 36) (v := ?_) rfl (by kernel_rfl) (by kernel_rfl) (by kernel_rfl) (fun _ _ _ h => h) (Or.inl ⟨by rfl, ?_⟩) (by assumption) ?_
  rotate_left
  · intro w hSw; (try dsimp only at hSw); go_simp; (try with_reducible rfl)
  (try simp only [Act.put, List.getElem_toArray, List.getElem_cons_zero, List.getElem_cons_succ, Array.getInternal_eq_getElem, List.setIfInBounds_toArray, List.set_cons_zero, List.set_cons_succ])
  refine wpAnyH_take (i := 37) (v := ?_) rfl (by kernel_rfl) (by kernel_rfl) (by kernel_rfl) (fun _ _ _ h => h) (Or.inl ⟨by rfl, ?_⟩) (by assumption) ?_
  rotate_left
  · intro w hSw; (try dsimp only at hSw); go_simp; (try with_reducible rfl)
  (try simp only [Act.put, List.getElem_toArray, List.getElem_cons_zero, List.getElem_cons_succ, Array.getInternal_eq_getElem, List.setIfInBounds_toArray, List.set_cons_zero, List.set_cons_succ])
  refine wpAnyH_take (i := 38) (v := ?_) rfl (by kernel_rfl) (by kernel_rfl) (by kernel_rfl) (fun _ _ _ h => h) (Or.inl ⟨by rfl, ?_⟩) (by assumption) ?_
  rotate_left
  · intro w hSw; (try dsimp only at hSw); go_simp; (try with_reducible rfl)
  (try simp only [Act.put, List.getElem_toArray, List.getElem_cons_zero, List.getElem_cons_succ, Array.getInternal_eq_getElem, List.setIfInBounds_toArray, List.set_cons_zero, List.set_cons_succ])
  refine wpAnyH_take (i := 39) (v := ?_) rfl (by kernel_rfl) (by kernel_rfl) (by kernel_rfl) (fun _ _ _ h => h) (Or.inl ⟨by rfl, ?_⟩) (by assumption) ?_
  rotate_left
  · intro w hSw; (try dsimp only at hSw); go_simp; (try with_reducible rfl)
  (try simp only [Act.put, List.getElem_toArray, List.getElem_cons_zero, List.getElem_cons_succ, Array.getInternal_eq_getElem, List.setIfInBounds_toArray, List.set_cons_zero, List.set_cons_succ])
  refine wpAnyH_take (i := 40) (v := ?_) rfl (by kernel_rfl) (by kernel_rfl) (by kernel_rfl) (fun _ _ _ h => h) (Or.inl ⟨by rfl, ?_⟩) (by assumption) ?_
  rotate_left
  · intro w hSw; (try dsimp only at hSw); go_simp; (try with_reducible rfl)
  (try simp only [Act.put, List.getElem_toArray, List.getElem_cons_zero, List.getElem_cons_succ, Array.getInternal_eq_getElem, List.setIfInBounds_toArray, List.set_cons_zero, List.set_cons_succ])
  refine wpAnyH_take (i := 41) (v := ?_) rfl (by kernel_rfl) (by kernel_rfl) (by kernel_rfl) (fun _ _ _ h => h) (Or.inl ⟨by rfl, ?_⟩) (by assumption) ?_
  rotate_left
  · intro w hSw; (try dsimp only at hSw); go_simp; (try with_reducible rfl)
  (try simp only [Act.put, List.getElem_toArray, List.getElem_cons_zero, List.getElem_cons_succ, Array.getInternal_eq_getElem, List.setIfInBounds_toArray, List.set_cons_zero, List.set_cons_succ])
  refine wpAnyH_take (i := 42) (v := ?_) rfl (by kernel_rfl) (by kernel_rfl) (by kernel_rfl) (fun _ _ _ h => h) (Or.inl ⟨by rfl, ?_⟩) (by assumption) ?_
  rotate_left
  · intro w hSw; (try dsimp only at hSw); go_simp; (try with_reducible rfl)
  (try simp only [Act.put, List.getElem_toArray, List.getElem_cons_zero, List.getElem_cons_succ, Array.getInternal_eq_getElem, List.setIfInBounds_toArray, List.set_cons_zero, List.set_cons_succ])
  refine wpAnyH_take (i := 43) (v := ?_) rfl (by kernel_rfl) (by kernel_rfl) (by kernel_rfl) (fun _ _ _ h => h) (Or.inl ⟨by rfl, ?_⟩) (by assumption) ?_
  rotate_left
  · intro w hSw; (try dsimp only at hSw); go_simp; (try with_reducible rfl)
  (try simp only [Act.put, List.getElem_toArray, List.getElem_cons_zero, List.getElem_cons_succ, Array.getInternal_eq_getElem, List.setIfInBounds_toArray, List.set_cons_zero, List.set_cons_succ])
  refine wpAnyH_take (i := 44) (v := ?_) rfl (by kernel_rfl) (by kernel_rfl) (by kernel_rfl) (fun _ _ _ h => h) (Or.inl ⟨by rfl, ?_⟩) (by assumption) ?_
  rotate_left
  · intro w hSw; (try dsimp only at hSw); go_simp; (try with_reducible rfl)
  (try simp only [Act.put, List.getElem_toArray, List.getElem_cons_zero, List.getElem_cons_succ, Array.getInternal_eq_getElem, List.setIfInBounds_toArray, List.set_cons_zero, List.set_cons_succ])
  refine wpAnyH_take (i := 45) (v := ?_) rfl (by kernel_rfl) (by kernel_rfl) (by kernel_rfl) (fun _ _ _ h => h) (Or.inl ⟨by rfl, ?_⟩) (by assumption) ?_
  rotate_left
  · intro w hSw; (try dsimp only at hSw); go_simp; (try with_reducible rfl)
  (try simp only [Act.put, List.getElem_toArray, List.getElem_cons_zero, List.getElem_cons_succ, Array.getInternal_eq_getElem, List.setIfInBounds_toArray, List.set_cons_zero, List.set_cons_succ])
  refine wpAnyH_take (i := 46) (v := ?_) rfl (by kernel_rfl) (by kernel_rfl) (by kernel_rfl) (fun _ _ _ h => h) (Or.inl ⟨by rfl, ?_⟩) (by assumption) ?_
  rotate_left
  · intro w hSw; (try dsimp only at hSw); go_simp; (try with_reducible rfl)
  (try simp only [Act.put, List.getElem_toArray, List.getElem_cons_zero, List.getElem_cons_succ, Array.getInternal_eq_getElem, List.setIfInBounds_toArray, List.set_cons_zero, List.set_cons_succ])
  refine wpAnyH_take (i := 47) (v := ?_) rfl (by kernel_rfl) (by kernel_rfl) (by kernel_rfl) (fun _ _ _ h => h) (Or.inl ⟨by rfl, ?_⟩) (by assumption) ?_
  rotate_left
  · intro w hSw; (try dsimp only at hSw); go_simp; (try with_reducible rfl)
  (try simp only [Act.put, List.getElem_toArray, List.getElem_cons_zero, List.getElem_cons_succ, Array.getInternal_eq_getElem, List.setIfInBounds_toArray, List.set_cons_zero, List.set_cons_succ])
  refine wpAnyH_take (i := 48) (v := ?_) rfl (by kernel_rfl) (by kernel_rfl) (by kernel_rfl) (fun _ _ _ h => h) (Or.inl ⟨by rfl, ?_⟩) (by assumption) ?_
  rotate_left
  · intro w hSw; (try dsimp only at hSw); go_simp; (try with_reducible rfl)
  (try simp only [Act.put, List.getElem_toArray, List.getElem_cons_zero, List.getElem_cons_succ, Array.getInternal_eq_getElem, List.setIfInBounds_toArray, List.set_cons_zero, List.set_cons_succ])
  refine wpAnyH_take (i := 49) (v := ?_) rfl (by kernel_rfl) (by kernel_rfl) (by kernel_rfl) (fun _ _ _ h => h) (Or.inl ⟨by rfl, ?_⟩) (by assumption) ?_
  rotate_left
  · intro w hSw; (try dsimp only at hSw); go_simp; (try with_reducible rfl)
  (try simp only [Act.put, List.getElem_toArray, List.getElem_cons_zero, List.getElem_cons_succ, Array.getInternal_eq_getElem, List.setIfInBounds_toArray, List.set_cons_zero, List.set_cons_succ])
  refine wpAnyH_take (i := 50) (v := ?_) rfl (by kernel_rfl) (by kernel_rfl) (by kernel_rfl) (fun _ _ _ h => h) (Or.inl ⟨by rfl, ?_⟩) (by assumption) ?_
  rotate_left
  · intro w hSw; (try dsimp only at hSw); go_simp; (try with_reducible rfl)
  (try simp only [Act.put, List.getElem_toArray, List.getElem_cons_zero, List.getElem_cons_succ, Array.getInternal_eq_getElem, List.setIfInBounds_toArray, List.set_cons_zero, List.set_cons_succ])
  refine wpAnyH_take (i := 51) (v := ?_) rfl (by kernel_rfl) (by kernel_rfl) (by kernel_rfl) (fun _ _ _ h => h) (Or.inl ⟨by rfl, ?_⟩) (by assumption) ?_
  rotate_left
  · intro w hSw; (try dsimp only at hSw); go_simp; (try with_reducible rfl)
  (try simp only [Act.put, List.getElem_toArray, List.getElem_cons_zero, List.getElem_cons_succ, Array.getInternal_eq_getElem, List.setIfInBounds_toArray, List.set_cons_zero, List.set_cons_succ])
  refine wpAnyH_take (i := 52) (v := ?_) rfl (by kernel_rfl) (by kernel_rfl) (by kernel_rfl) (fun _ _ _ h => h) (Or.inl ⟨by rfl, ?_⟩) (by assumption) ?_
  rotate_left
  · intro w hSw; (try dsimp only at hSw); go_simp; (try with_reducible rfl)
  (try simp only [Act.put, List.getElem_toArray, List.getElem_cons_zero, List.getElem_cons_succ, Array.getInternal_eq_getElem, List.setIfInBounds_toArray, List.set_cons_zero, List.set_cons_succ])
  refine wpAnyH_take (i := 53) (v := ?_) rfl (by kernel_rfl) (by kernel_rfl) (by kernel_rfl) (fun _ _ _ h => h) (Or.inl ⟨by rfl, ?_⟩) (by assumption) ?_
  rotate_left
  · intro w hSw; (try dsimp only at hSw); go_simp; (try with_reducible rfl)
  (try simp only [Act.put, List.getElem_toArray, List.getElem_cons_zero, List.getElem_cons_succ, Array.getInternal_eq_getElem, List.setIfInBounds_toArray, List.set_cons_zero, List.set_cons_succ])
  refine wpAnyH_take (i := 54) (v := ?_) rfl (by kernel_rfl) (by kernel_rfl) (by kernel_rfl) (fun _ _ _ h => h) (Or.inl ⟨by rfl, ?_⟩) (by assumption) ?_
  rotate_left
  · intro w hSw; (try dsimp only at hSw); go_simp; (try with_reducible rfl)
  (try simp only [Act.put, List.getElem_toArray, List.getElem_cons_zero, List.getElem_cons_succ, Array.getInternal_eq_getElem, List.setIfInBounds_toArray, List.set_cons_zero, List.set_cons_succ])
  refine wpAnyH_take (i := 55) (v := ?_) rfl (by kernel_rfl) (by kernel_rfl) (by kernel_rfl) (fun _ _ _ h => h) (Or.inl ⟨by rfl, ?_⟩) (by assumption) ?_
  rotate_left
  · intro w hSw; (try dsimp only at hSw); go_simp; (try with_reducible rfl)
  (try simp only [Act.put, List.getElem_toArray, List.getElem_cons_zero, List.getElem_cons_succ, Array.getInternal_eq_getElem, List.setIfInBounds_toArray, List.set_cons_zero, List.set_cons_succ])
  refine wpAnyH_take (i := 56) (v := ?_) rfl (by kernel_rfl) (by kernel_rfl) (by kernel_rfl) (fun _ _ _ h => h) (Or.inl ⟨by rfl, ?_⟩) (by assumption) ?_
  rotate_left
  · intro w hSw; (try dsimp only at hSw); go_simp; (try with_reducible rfl)
  (try simp only [Act.put, List.getElem_toArray, List.getElem_cons_zero, List.getElem_cons_succ, Array.getInternal_eq_getElem, List.setIfInBounds_toArray, List.set_cons_zero, List.set_cons_succ])
  refine wpAnyH_take (i := 57) (v := ?_) rfl (by kernel_rfl) (by kernel_rfl) (by kernel_rfl) (fun _ _ _ h => h) (Or.inl ⟨by rfl, ?_⟩) (by assumption) ?_
  rotate_left
  · intro w hSw; (try dsimp only at hSw); go_simp; (try with_reducible rfl)
  (try simp only [Act.put, List.getElem_toArray, List.getElem_cons_zero, List.getElem_cons_succ, Array.getInternal_eq_getElem, List.setIfInBounds_toArray, List.set_cons_zero, List.set_cons_succ])
  refine wpAnyH_take (i := 58) (v := ?_) rfl (by kernel_rfl) (by kernel_rfl) (by kernel_rfl) (fun _ _ _ h => h) (Or.inl ⟨by rfl, ?_⟩) (by assumption) ?_
  rotate_left
  · intro w hSw; (try dsimp only at hSw); go_simp; (try with_reducible rfl)
  (try simp only [Act.put, List.getElem_toArray, List.getElem_cons_zero, List.getElem_cons_succ, Array.getInternal_eq_getElem, List.setIfInBounds_toArray, List.set_cons_zero, List.set_cons_succ])
  refine wpAnyH_take (i := 59) (v := ?_) rfl (by kernel_rfl) (by kernel_rfl) (by kernel_rfl) (fun _ _ _ h => h) (Or.inl ⟨by rfl, ?_⟩) (by assumption) ?_
  rotate_left
  · intro w hSw; (try dsimp only at hSw); go_simp; (try with_reducible rfl)
  (try simp only [Act.put, List.getElem_toArray, List.getElem_cons_zero, List.getElem_cons_succ, Array.getInternal_eq_getElem, List.setIfInBounds_toArray, List.set_cons_zero, List.set_cons_succ])
  refine wpAnyH_take (i := 60) (v := ?_) rfl (by kernel_rfl) (by kernel_rfl) (by kernel_rfl) (fun _ _ _ h => h) (Or.inl ⟨by rfl, ?_⟩) (by assumption) ?_
  rotate_left
  · intro w hSw; (try dsimp only at hSw); go_simp; (try with_reducible rfl)
  (try simp only [Act.put, List.getElem_toArray, List.getElem_cons_zero, List.getElem_cons_succ, Array.getInternal_eq_getElem, List.setIfInBounds_toArray, List.set_cons_zero, List.set_cons_succ])
  refine wpAnyH_ready (rs := [61]) (by kernel_rfl) (by simp) ?_
  refine AllReadyH.cons rfl (fun K hK => ?_) AllReadyH.nil
  go_simp
  refine (buffering_any _).mono ?_
  rintro e wB ⟨rfl, hM, hba⟩
  have HM := Lib.hid hM.fl
  clear hM
  obtain ⟨q0, q1, q2, q3, q4, q5, q6, q7, q8, q9, q10, q11, q12, q13⟩ := hHeld.1
  refine hK.out _ _ ⟨⟨kc hba q0, kc hba q1, kc hba q2, kc hba q3, kc hba q4, kc hba q5, kc hba q6, kc hba q7, kc hba q8, kc hba q9, kc hba q10, kc hba q11, kc hba q12, kc hba q13⟩, chain hHeld.2 hba⟩ (fun hHeld => ?_)
  clear hba q0 q1 q2 q3 q4 q5 q6 q7 q8 q9 q10 q11 q12 q13
  clear hK K
  (try simp only [Act.put, List.getElem_toArray, List.getElem_cons_zero, List.getElem_cons_succ, Array.getInternal_eq_getElem, List.setIfInBounds_toArray, List.set_cons_zero, List.set_cons_succ])
  refine wpAnyH_ready (rs := [62]) (by kernel_rfl) (by simp) ?_
  refine AllReadyH.cons rfl (fun K hK => ?_) AllReadyH.nil
  go_simp
  refine (HCS.out _ hHeld.2 _ HM.out).mono ?_
  rintro e wC ⟨⟨cb, rfl, hcb⟩, hba⟩
  obtain rfl : cb = true := hcb.2 rfl
  obtain ⟨q0, q1, q2, q3, q4, q5, q6, q7, q8, q9, q10, q11, q12, q13⟩ := hHeld.1
  refine hK.out _ _ ⟨⟨kc hba q0, kc hba q1, kc hba q2, kc hba q3, kc hba q4, kc hba q5, kc hba q6, kc hba q7, kc hba q8, kc hba q9, kc hba q10, kc hba q11, kc hba q12, kc hba q13⟩, chain hHeld.2 hba⟩ (fun hHeld => ?_)
  clear hba q0 q1 q2 q3 q4 q5 q6 q7 q8 q9 q10 q11 q12 q13
  clear hK K
  (try simp only [Act.put, List.getElem_toArray, List.getElem_cons_zero, List.getElem_cons_succ, Array.getInternal_eq_getElem, List.setIfInBounds_toArray, List.set_cons_zero, List.set_cons_succ])
  refine wpAnyH_take (i := 63) (v := ?_) rfl (by kernel_rfl) (by kernel_rfl) (by kernel_rfl) (fun _ _ _ h => h) (Or.inl ⟨by rfl, ?_⟩) (by assumption) ?_
  rotate_left
  · intro w hSw; (try dsimp only at hSw); go_simp; (try with_reducible rfl)
  (try simp only [Act.put, List.getElem_toArray, List.getElem_cons_zero, List.getElem_cons_succ, Array.getInternal_eq_getElem, List.setIfInBounds_toArray, List.set_cons_zero, List.set_cons_succ])
  refine wpAnyH_take (i := 64) (v := ?_) rfl (by kernel_rfl) (by kernel_rfl) (by kernel_rfl) (fun _ _ _ h => h) (Or.inl ⟨by rfl, ?_⟩) (by assumption) ?_
  rotate_left
  · intro w hSw; (try dsimp only at hSw); go_simp; (try with_reducible rfl)
  (try simp only [Act.put, List.getElem_toArray, List.getElem_cons_zero, List.getElem_cons_succ, Array.getInternal_eq_getElem, List.setIfInBounds_toArray, List.set_cons_zero, List.set_cons_succ])
  refine wpAnyH_take (i := 65) (v := ?_) rfl (by kernel_rfl) (by kernel_rfl) (by kernel_rfl) (fun _ _ _ h => h) (Or.inl ⟨by rfl, ?_⟩) (by assumption) ?_
  rotate_left
  · intro w hSw; (try dsimp only at hSw); go_simp; (try with_reducible rfl)
  (try simp only [Act.put, List.getElem_toArray, List.getElem_cons_zero, List.getElem_cons_succ, Array.getInternal_eq_getElem, List.setIfInBounds_toArray, List.set_cons_zero, List.set_cons_succ])
  refine wpAnyH_take (i := 66) (v := ?_) rfl (by kernel_rfl) (by kernel_rfl) (by kernel_rfl) (fun _ _ _ h => h) (Or.inl ⟨by rfl, ?_⟩) (by assumption) ?_
  rotate_left
  · intro w hSw; (try dsimp only at hSw); go_simp; (try with_reducible rfl)
  (try simp only [Act.put, List.getElem_toArray, List.getElem_cons_zero, List.getElem_cons_succ, Array.getInternal_eq_getElem, List.setIfInBounds_toArray, List.set_cons_zero, List.set_cons_succ])
  refine wpAnyH_take (i := 67) (v := ?_) rfl (by kernel_rfl) (by kernel_rfl) (by kernel_rfl) (fun _ _ _ h => h) (Or.inl ⟨by rfl, ?_⟩) (by assumption) ?_
  rotate_left
  · intro w hSw; (try dsimp only at hSw); go_simp; (try with_reducible rfl)
  (try simp only [Act.put, List.getElem_toArray, List.getElem_cons_zero, List.getElem_cons_succ, Array.getInternal_eq_getElem, List.setIfInBounds_toArray, List.set_cons_zero, List.set_cons_succ])
  refine wpAnyH_take (i := 68) (v := ?_) rfl (by kernel_rfl) (by kernel_rfl) (by kernel_rfl) (fun _ _ _ h => h) (Or.inl ⟨by rfl, ?_⟩) (by assumption) ?_
  rotate_left
  · intro w hSw; (try dsimp only at hSw); go_simp; (try with_reducible rfl)
  (try simp only [Act.put, List.getElem_toArray, List.getElem_cons_zero, List.getElem_cons_succ, Array.getInternal_eq_getElem, List.setIfInBounds_toArray, List.set_cons_zero, List.set_cons_succ])
  refine wpAnyH_take (i := 69) (v := ?_) rfl (by kernel_rfl) (by kernel_rfl) (by kernel_rfl) (fun _ _ _ h => h) (Or.inl ⟨by rfl, ?_⟩) (by assumption) ?_
  rotate_left
  · intro w hSw; (try dsimp only at hSw); go_simp; (try with_reducible rfl)
  (try simp only [Act.put, List.getElem_toArray, List.getElem_cons_zero, List.getElem_cons_succ, Array.getInternal_eq_getElem, List.setIfInBounds_toArray, List.set_cons_zero, List.set_cons_succ])
  refine wpAnyH_take (i := 70) (v := ?_) rfl (by kernel_rfl) (by kernel_rfl) (by kernel_rfl) (fun _ _ _ h => h) (Or.inl ⟨by rfl, ?_⟩) (by assumption) ?_
  rotate_left
  · intro w hSw; (try dsimp only at hSw); go_simp; (try with_reducible rfl)
  (try simp only [Act.put, List.getElem_toArray, List.getElem_cons_zero, List.getElem_cons_succ, Array.getInternal_eq_getElem, List.setIfInBounds_toArray, List.set_cons_zero, List.set_cons_succ])
  refine wpAnyH_ready (rs := [71]) (by kernel_rfl) (by simp) ?_
  refine AllReadyH.cons rfl (fun K hK => ?_) AllReadyH.nil
  go_simp
  refine hK.out _ _ hHeld (fun hHeld => ?_)
  clear hK K
  (try simp only [Act.put, List.getElem_toArray, List.getElem_cons_zero, List.getElem_cons_succ, Array.getInternal_eq_getElem, List.setIfInBounds_toArray, List.set_cons_zero, List.set_cons_succ])
  refine wpAnyH_done (by kernel_rfl) ?_ _
  have HBF := Lib.hid (chain (chain hB4 HBZ.out) hHeld.2)
  clear hHeld
  go_wp2
  go_ret
  exact ⟨rfl, HBF.out⟩
end Go.Proofs.Ytaelfjphgdlbcaa
