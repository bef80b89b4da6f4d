/-
  THE LAWS' live question: Buffering, head.
-/
import Derived.Test.YtaelfjphgdlbcaaM16
namespace Go.Proofs.Ytaelfjphgdlbcaa
open Go.RowKit
set_option linter.unusedVariables false
set_option linter.unusedSimpArgs false
open WordM (L)
open VM

/-- Two threads, each of which writes one location and reads the other one. -/
def bufF : Fl := ⟨[115, 98], [([120], 0)], [[⟨4, [], [120], [], 1⟩, ⟨2, [101, 97, 120], [121], [], 0⟩], [⟨4, [], [121], [], 1⟩, ⟨2, [101, 97, 120], [120], [], 0⟩]], [⟨0, [101, 97, 120], 0⟩, ⟨1, [101, 97, 120], 0⟩], false⟩
def bufG : Fl := ⟨[115, 98], [([120], 0)], [[⟨4, [], [120], [], 1⟩, ⟨2, [101, 97, 120], [121], [], 0⟩], [⟨11, [], [], [108], 0⟩, ⟨8, [], [], [108], 0⟩]], [⟨0, [101, 97, 120], 0⟩, ⟨1, [101, 97, 120], 0⟩], false⟩
def zeroF : Fl := ⟨[], [], [], [], false⟩
theorem lns_two {B b : Nat} {W : World} {x y : OpsM.Ln} (hb : b < B) (h0 : LnAt W b 0 x) (h1 : LnAt W b 5 y) : Lns B W (.slice (some ⟨b, 0, none⟩) 2 2) [x, y] := by
  refine ⟨_, 2, rfl, Nat.le_refl _, by decide, fun _ => ⟨b, 0, rfl, hb, fun j hj => ?_⟩⟩
  match j, hj with
  | 0, _ => exact h0
  | 1, _ => exact h1
theorem cls_one {B b : Nat} {W : World} {x : L × Int} (hb : b < B) (h0 : ClAt W b 0 x) : Cls B W (.slice (some ⟨b, 0, none⟩) 1 1) [x] := by
  refine ⟨_, 1, rfl, Nat.le_refl _, by decide, fun _ => ⟨b, 0, rfl, hb, fun j hj => ?_⟩⟩
  match j, hj with
  | 0, _ => exact h0
theorem ams_two {B b : Nat} {W : World} {x y : AtomM.At} (hb : b < B) (h0 : AmAt W b 0 x) (h1 : AmAt W b 3 y) : Ams B W (.slice (some ⟨b, 0, none⟩) 2 2) [x, y] := by
  refine ⟨_, 2, rfl, Nat.le_refl _, by decide, fun _ => ⟨b, 0, rfl, hb, fun j hj => ?_⟩⟩
  match j, hj with
  | 0, _ => exact h0
  | 1, _ => exact h1
theorem ths_two {B b : Nat} {W : World} {x y : List OpsM.Ln} {v0 v1 : Value} (hb : b < B) (c0 : W.cell? ⟨b, 0, none⟩ = some v0) (c1 : W.cell? ⟨b, 1, none⟩ = some v1) (h0 : Lns B W v0 x) (h1 : Lns B W v1 y) : Ths B W (.slice (some ⟨b, 0, none⟩) 2 2) [x, y] := by
  refine ⟨_, 2, rfl, Nat.le_refl _, by decide, fun _ => ⟨b, 0, rfl, hb, fun j hj => ?_⟩⟩
  match j, hj with
  | 0, _ => exact ⟨v0, c0, h0⟩
  | 1, _ => exact ⟨v1, c1, h1⟩
/-- What Buffering leaves in memory, from block n on. -/
structure BufM (n : Nat) (W : World) : Prop where
  sz : n + 6 ≤ W.heap.size
  c : Cls W.heap.size W (.slice (some ⟨n + 1, 0, none⟩) 1 1) bufF.init
  l0 : Lns (n + 4) W (.slice (some ⟨n + 1 + 1, 0, none⟩) 2 2) [⟨4, [], [120], [], 1⟩, ⟨2, [101, 97, 120], [121], [], 0⟩]
  l1 : Lns (n + 4) W (.slice (some ⟨n + 1 + 1 + 1, 0, none⟩) 2 2) [⟨4, [], [121], [], 1⟩, ⟨2, [101, 97, 120], [120], [], 0⟩]
  t0 : W.cell? ⟨n + 1 + 1 + 1 + 1, 0, none⟩ = some (.slice (some ⟨n + 1 + 1, 0, none⟩) 2 2)
  t1 : W.cell? ⟨n + 1 + 1 + 1 + 1, 1, none⟩ = some (.slice (some ⟨n + 1 + 1 + 1, 0, none⟩) 2 2)
  z1 : W.frozen? ⟨n + 1 + 1 + 1 + 1, 1, none⟩ = false
  a : Ams W.heap.size W (.slice (some ⟨n + 1 + 1 + 1 + 1 + 1, 0, none⟩) 2 2) bufF.cond
abbrev bufV (n : Nat) : Value := .agg #[.string ⟨#[115, 98]⟩, .slice (some ⟨n + 1, 0, none⟩) 1 1, .slice (some ⟨n + 1 + 1 + 1 + 1, 0, none⟩) 2 2, .bool false, .slice (some ⟨n + 1 + 1 + 1 + 1 + 1, 0, none⟩) 2 2]
theorem BufM.fl {n : Nat} {W : World} (h : BufM n W) : FlV W.heap.size W (bufV n) bufF :=
  ⟨_, _, _, rfl, h.c, ths_two (by have := h.sz; omega) h.t0 h.t1 (h.l0.more (by have := h.sz; omega)) (h.l1.more (by have := h.sz; omega)), h.a⟩
theorem allocs_cell : ∀ (l : List Obj) (w : World) (j : Nat) (cs : Array Value) (T : TypeId) (i : Nat) (v : Value), l[j]? = some (.cells cs T) → cs[i]? = some v →
    (l.foldl World.alloc w).cell? ⟨w.heap.size + j, i, none⟩ = some v ∧ (l.foldl World.alloc w).frozen? ⟨w.heap.size + j, i, none⟩ = false
  | [], w, j, cs, T, i, v, h, _ => by simp at h
  | o :: r, w, 0, cs, T, i, v, h, hi => by
    obtain rfl : o = .cells cs T := by simpa using h
    have hb : ∀ (r : List Obj) (W : World), Below W.heap.size W (r.foldl World.alloc W) := by
      intro r
      induction r with
      | nil => exact fun W => Below.refl _ _
      | cons o r ih => exact fun W => (below_al (Below.refl W.heap.size W) o).trans ((ih _).mono (by simp))
    exact kept_box (hb r _) i hi
  | o :: r, w, j + 1, cs, T, i, v, h, hi => by
    have := allocs_cell r (w.alloc o) j cs T i v (by simpa using h) hi
    rw [heap_alloc, show w.heap.size + 1 + j = w.heap.size + (j + 1) by omega] at this
    exact this
set_option maxHeartbeats 8000000 in
set_option maxRecDepth 100000 in
theorem buffering_any (w : World) : Calls Try.prog 30 #[] w fun e w' => e = .returned (bufV w.heap.size) ∧ BufM w.heap.size w' ∧ Below w.heap.size w w' := by
  go_enter Try.func30, Try.ntmps30
  go_wp2
  have hz : Try.prog.cellsOf 30 = 5 := by kernel_rfl
  have hB := below_al (below_al (below_al (below_al (below_al (below_al (Below.refl w.heap.size w) (.cells #[.string ⟨#[115, 98]⟩, .slice (some ⟨w.heap.size + 1, 0, none⟩) 1 1, .slice (some ⟨w.heap.size + 1 + 1 + 1 + 1, 0, none⟩) 2 2, .bool false, .slice (some ⟨w.heap.size + 1 + 1 + 1 + 1 + 1, 0, none⟩) 2 2] 30)) (.cells #[.string ⟨#[120]⟩, .int .i64 0] 62)) (.cells #[.int .i64 4, .string ⟨#[]⟩, .string ⟨#[120]⟩, .string ⟨#[]⟩, .int .i64 1, .int .i64 2, .string ⟨#[101, 97, 120]⟩, .string ⟨#[121]⟩, .string ⟨#[]⟩, .int .i64 0] 60)) (.cells #[.int .i64 4, .string ⟨#[]⟩, .string ⟨#[121]⟩, .string ⟨#[]⟩, .int .i64 1, .int .i64 2, .string ⟨#[101, 97, 120]⟩, .string ⟨#[120]⟩, .string ⟨#[]⟩, .int .i64 0] 60)) (.cells #[.slice (some ⟨w.heap.size + 1 + 1, 0, none⟩) 2 2, .slice (some ⟨w.heap.size + 1 + 1 + 1, 0, none⟩) 2 2] 58)) (.cells #[.int .i64 0, .string ⟨#[101, 97, 120]⟩, .int .i64 0, .int .i64 1, .string ⟨#[101, 97, 120]⟩, .int .i64 0] 64)
  have HW := fun (j i : Nat) (cs : Array Value) (T : TypeId) (v : Value) => allocs_cell [(.cells #[.string ⟨#[115, 98]⟩, .slice (some ⟨w.heap.size + 1, 0, none⟩) 1 1, .slice (some ⟨w.heap.size + 1 + 1 + 1 + 1, 0, none⟩) 2 2, .bool false, .slice (some ⟨w.heap.size + 1 + 1 + 1 + 1 + 1, 0, none⟩) 2 2] 30), (.cells #[.string ⟨#[120]⟩, .int .i64 0] 62), (.cells #[.int .i64 4, .string ⟨#[]⟩, .string ⟨#[120]⟩, .string ⟨#[]⟩, .int .i64 1, .int .i64 2, .string ⟨#[101, 97, 120]⟩, .string ⟨#[121]⟩, .string ⟨#[]⟩, .int .i64 0] 60), (.cells #[.int .i64 4, .string ⟨#[]⟩, .string ⟨#[121]⟩, .string ⟨#[]⟩, .int .i64 1, .int .i64 2, .string ⟨#[101, 97, 120]⟩, .string ⟨#[120]⟩, .string ⟨#[]⟩, .int .i64 0] 60), (.cells #[.slice (some ⟨w.heap.size + 1 + 1, 0, none⟩) 2 2, .slice (some ⟨w.heap.size + 1 + 1 + 1, 0, none⟩) 2 2] 58), (.cells #[.int .i64 0, .string ⟨#[101, 97, 120]⟩, .int .i64 0, .int .i64 1, .string ⟨#[101, 97, 120]⟩, .int .i64 0] 64)] w j cs T i v
  obtain ⟨W, hW⟩ : ∃ W, W = (World.alloc (World.alloc (World.alloc (World.alloc (World.alloc (World.alloc w (.cells #[.string ⟨#[115, 98]⟩, .slice (some ⟨w.heap.size + 1, 0, none⟩) 1 1, .slice (some ⟨w.heap.size + 1 + 1 + 1 + 1, 0, none⟩) 2 2, .bool false, .slice (some ⟨w.heap.size + 1 + 1 + 1 + 1 + 1, 0, none⟩) 2 2] 30)) (.cells #[.string ⟨#[120]⟩, .int .i64 0] 62)) (.cells #[.int .i64 4, .string ⟨#[]⟩, .string ⟨#[120]⟩, .string ⟨#[]⟩, .int .i64 1, .int .i64 2, .string ⟨#[101, 97, 120]⟩, .string ⟨#[121]⟩, .string ⟨#[]⟩, .int .i64 0] 60)) (.cells #[.int .i64 4, .string ⟨#[]⟩, .string ⟨#[121]⟩, .string ⟨#[]⟩, .int .i64 1, .int .i64 2, .string ⟨#[101, 97, 120]⟩, .string ⟨#[120]⟩, .string ⟨#[]⟩, .int .i64 0] 60)) (.cells #[.slice (some ⟨w.heap.size + 1 + 1, 0, none⟩) 2 2, .slice (some ⟨w.heap.size + 1 + 1 + 1, 0, none⟩) 2 2] 58)) (.cells #[.int .i64 0, .string ⟨#[101, 97, 120]⟩, .int .i64 0, .int .i64 1, .string ⟨#[101, 97, 120]⟩, .int .i64 0] 64)) := ⟨_, rfl⟩
  have HC : ∀ (j i : Nat) (cs : Array Value) (T : TypeId) (v : Value), ([(.cells #[.string ⟨#[115, 98]⟩, .slice (some ⟨w.heap.size + 1, 0, none⟩) 1 1, .slice (some ⟨w.heap.size + 1 + 1 + 1 + 1, 0, none⟩) 2 2, .bool false, .slice (some ⟨w.heap.size + 1 + 1 + 1 + 1 + 1, 0, none⟩) 2 2] 30), (.cells #[.string ⟨#[120]⟩, .int .i64 0] 62), (.cells #[.int .i64 4, .string ⟨#[]⟩, .string ⟨#[120]⟩, .string ⟨#[]⟩, .int .i64 1, .int .i64 2, .string ⟨#[101, 97, 120]⟩, .string ⟨#[121]⟩, .string ⟨#[]⟩, .int .i64 0] 60), (.cells #[.int .i64 4, .string ⟨#[]⟩, .string ⟨#[121]⟩, .string ⟨#[]⟩, .int .i64 1, .int .i64 2, .string ⟨#[101, 97, 120]⟩, .string ⟨#[120]⟩, .string ⟨#[]⟩, .int .i64 0] 60), (.cells #[.slice (some ⟨w.heap.size + 1 + 1, 0, none⟩) 2 2, .slice (some ⟨w.heap.size + 1 + 1 + 1, 0, none⟩) 2 2] 58), (.cells #[.int .i64 0, .string ⟨#[101, 97, 120]⟩, .int .i64 0, .int .i64 1, .string ⟨#[101, 97, 120]⟩, .int .i64 0] 64)] : List Obj)[j]? = some (.cells cs T) → cs[i]? = some v → W.cell? ⟨w.heap.size + j, i, none⟩ = some v ∧ W.frozen? ⟨w.heap.size + j, i, none⟩ = false := by
    intro j i cs T v h1 h2; rw [hW]; exact HW j i cs T v h1 h2
  rw [← hW] at hB ⊢
  have hsz : W.heap.size = w.heap.size + 6 := by rw [hW]; simp only [heap_alloc]
  clear hW HW
  have c0 : W.cell? ⟨w.heap.size, 0, none⟩ = some (.string ⟨#[115, 98]⟩) := (HC 0 0 _ _ _ rfl rfl).1
  have c1 : W.cell? ⟨w.heap.size, 1, none⟩ = some (.slice (some ⟨w.heap.size + 1, 0, none⟩) 1 1) := (HC 0 1 _ _ _ rfl rfl).1
  have c2 : W.cell? ⟨w.heap.size, 2, none⟩ = some (.slice (some ⟨w.heap.size + 1 + 1 + 1 + 1, 0, none⟩) 2 2) := (HC 0 2 _ _ _ rfl rfl).1
  have c3 : W.cell? ⟨w.heap.size, 3, none⟩ = some (.bool false) := (HC 0 3 _ _ _ rfl rfl).1
  have c4 : W.cell? ⟨w.heap.size, 4, none⟩ = some (.slice (some ⟨w.heap.size + 1 + 1 + 1 + 1 + 1, 0, none⟩) 2 2) := (HC 0 4 _ _ _ rfl rfl).1
  refine bodyPost_ret (v := bufV w.heap.size) (by simp [results, Try.results30, go_sem, c0, c1, c2, c3, c4, hz]) rfl ⟨rfl, ?_, hB⟩
  refine ⟨by omega, cls_one (by omega) ⟨(HC 1 0 _ _ _ rfl rfl).1, (HC 1 1 _ _ _ rfl rfl).1⟩,
    lns_two (by omega) ⟨(HC 2 0 _ _ _ rfl rfl).1, (HC 2 1 _ _ _ rfl rfl).1, (HC 2 2 _ _ _ rfl rfl).1, (HC 2 3 _ _ _ rfl rfl).1, (HC 2 4 _ _ _ rfl rfl).1⟩ ⟨(HC 2 5 _ _ _ rfl rfl).1, (HC 2 6 _ _ _ rfl rfl).1, (HC 2 7 _ _ _ rfl rfl).1, (HC 2 8 _ _ _ rfl rfl).1, (HC 2 9 _ _ _ rfl rfl).1⟩,
    lns_two (by omega) ⟨(HC 3 0 _ _ _ rfl rfl).1, (HC 3 1 _ _ _ rfl rfl).1, (HC 3 2 _ _ _ rfl rfl).1, (HC 3 3 _ _ _ rfl rfl).1, (HC 3 4 _ _ _ rfl rfl).1⟩ ⟨(HC 3 5 _ _ _ rfl rfl).1, (HC 3 6 _ _ _ rfl rfl).1, (HC 3 7 _ _ _ rfl rfl).1, (HC 3 8 _ _ _ rfl rfl).1, (HC 3 9 _ _ _ rfl rfl).1⟩,
    (HC 4 0 _ _ _ rfl rfl).1, (HC 4 1 _ _ _ rfl rfl).1, (HC 4 1 _ _ _ rfl rfl).2, ams_two (by omega) ⟨(HC 5 0 _ _ _ rfl rfl).1, (HC 5 1 _ _ _ rfl rfl).1, (HC 5 2 _ _ _ rfl rfl).1⟩ ⟨(HC 5 3 _ _ _ rfl rfl).1, (HC 5 4 _ _ _ rfl rfl).1, (HC 5 5 _ _ _ rfl rfl).1⟩⟩
end Go.Proofs.Ytaelfjphgdlbcaa
