/-
  THE LAWS' live question: Buffering, head.
  THE LAWS' live question: head is true.
-/
import Derived.Test.YtclhgmopphhalaaGreatDoorRChk
import Derived.Test.YtclhgmopphhalaaGreatDoorLocsR
import Derived.Test.YtclhgmopphhalaaGreatDoorSame
namespace Go.Proofs.YtclhgmopphhalaaGreatDoor
open Go.RowKit
set_option linter.unusedVariables false
set_option linter.unusedSimpArgs false
open WordM (L)
open VM

/-- Two threads, each of which writes one location and reads the other one. -/
def bufF : Fl := ⟨[115, 98], [([120], 0)], [[⟨4, [], [120], [], 1⟩, ⟨2, [101, 97, 120], [121], [], 0⟩], [⟨4, [], [121], [], 1⟩, ⟨2, [101, 97, 120], [120], [], 0⟩]], [⟨0, [101, 97, 120], 0⟩, ⟨1, [101, 97, 120], 0⟩], false⟩
def bufG : Fl := ⟨[115, 98], [([120], 0)], [[⟨4, [], [120], [], 1⟩, ⟨2, [101, 97, 120], [121], [], 0⟩], [⟨11, [], [], [108], 0⟩, ⟨8, [], [], [108], 0⟩]], [⟨0, [101, 97, 120], 0⟩, ⟨1, [101, 97, 120], 0⟩], false⟩
def zeroF : Fl := ⟨[], [], [], [], false⟩
theorem buf_chk : chk bufF = (0, 0, 0) := by decide +kernel
theorem bufG_chk : chk bufG = (1, 1, 22) := by decide +kernel
theorem zero_chk : chk zeroF = (-1, -1, 22) := by decide +kernel
theorem buf_locs : locsR bufF = [[120], [121]] := by decide +kernel
theorem bufG_locs : locsR bufG = [] := by decide +kernel
theorem lns_two {B b : Nat} {W : World} {x y : OpsM.Ln} (hb : b < B) (h0 : LnAt W b 0 x) (h1 : LnAt W b 5 y) : Lns B W (.slice (some ⟨b, 0, none⟩) 2 2) [x, y] := by
  refine ⟨_, 2, rfl, Nat.le_refl _, by decide, fun _ => ⟨b, 0, rfl, hb, fun j hj => ?_⟩⟩
  match j, hj with
  | 0, _ => exact h0
  | 1, _ => exact h1
theorem cls_one {B b : Nat} {W : World} {x : L × Int} (hb : b < B) (h0 : ClAt W b 0 x) : Cls B W (.slice (some ⟨b, 0, none⟩) 1 1) [x] := by
  refine ⟨_, 1, rfl, Nat.le_refl _, by decide, fun _ => ⟨b, 0, rfl, hb, fun j hj => ?_⟩⟩
  match j, hj with
  | 0, _ => exact h0
theorem ams_two {B b : Nat} {W : World} {x y : AtomM.At} (hb : b < B) (h0 : AmAt W b 0 x) (h1 : AmAt W b 3 y) : Ams B W (.slice (some ⟨b, 0, none⟩) 2 2) [x, y] := by
  refine ⟨_, 2, rfl, Nat.le_refl _, by decide, fun _ => ⟨b, 0, rfl, hb, fun j hj => ?_⟩⟩
  match j, hj with
  | 0, _ => exact h0
  | 1, _ => exact h1
theorem ths_two {B b : Nat} {W : World} {x y : List OpsM.Ln} {v0 v1 : Value} (hb : b < B) (c0 : W.cell? ⟨b, 0, none⟩ = some v0) (c1 : W.cell? ⟨b, 1, none⟩ = some v1) (h0 : Lns B W v0 x) (h1 : Lns B W v1 y) : Ths B W (.slice (some ⟨b, 0, none⟩) 2 2) [x, y] := by
  refine ⟨_, 2, rfl, Nat.le_refl _, by decide, fun _ => ⟨b, 0, rfl, hb, fun j hj => ?_⟩⟩
  match j, hj with
  | 0, _ => exact ⟨v0, c0, h0⟩
  | 1, _ => exact ⟨v1, c1, h1⟩
/-- What Buffering leaves in memory, from block n on. -/
structure BufM (n : Nat) (W : World) : Prop where
  sz : n + 6 ≤ W.heap.size
  c : Cls W.heap.size W (.slice (some ⟨n + 1, 0, none⟩) 1 1) bufF.init
  l0 : Lns (n + 4) W (.slice (some ⟨n + 1 + 1, 0, none⟩) 2 2) [⟨4, [], [120], [], 1⟩, ⟨2, [101, 97, 120], [121], [], 0⟩]
  l1 : Lns (n + 4) W (.slice (some ⟨n + 1 + 1 + 1, 0, none⟩) 2 2) [⟨4, [], [121], [], 1⟩, ⟨2, [101, 97, 120], [120], [], 0⟩]
  t0 : W.cell? ⟨n + 1 + 1 + 1 + 1, 0, none⟩ = some (.slice (some ⟨n + 1 + 1, 0, none⟩) 2 2)
  t1 : W.cell? ⟨n + 1 + 1 + 1 + 1, 1, none⟩ = some (.slice (some ⟨n + 1 + 1 + 1, 0, none⟩) 2 2)
  z1 : W.frozen? ⟨n + 1 + 1 + 1 + 1, 1, none⟩ = false
  a : Ams W.heap.size W (.slice (some ⟨n + 1 + 1 + 1 + 1 + 1, 0, none⟩) 2 2) bufF.cond
abbrev bufV (n : Nat) : Value := .agg #[.string ⟨#[115, 98]⟩, .slice (some ⟨n + 1, 0, none⟩) 1 1, .slice (some ⟨n + 1 + 1 + 1 + 1, 0, none⟩) 2 2, .bool false, .slice (some ⟨n + 1 + 1 + 1 + 1 + 1, 0, none⟩) 2 2]
theorem BufM.fl {n : Nat} {W : World} (h : BufM n W) : FlV W.heap.size W (bufV n) bufF :=
  ⟨_, _, _, rfl, h.c, ths_two (by have := h.sz; omega) h.t0 h.t1 (h.l0.more (by have := h.sz; omega)) (h.l1.more (by have := h.sz; omega)), h.a⟩
theorem allocs_cell : ∀ (l : List Obj) (w : World) (j : Nat) (cs : Array Value) (T : TypeId) (i : Nat) (v : Value), l[j]? = some (.cells cs T) → cs[i]? = some v →
    (l.foldl World.alloc w).cell? ⟨w.heap.size + j, i, none⟩ = some v ∧ (l.foldl World.alloc w).frozen? ⟨w.heap.size + j, i, none⟩ = false
  | [], w, j, cs, T, i, v, h, _ => by simp at h
  | o :: r, w, 0, cs, T, i, v, h, hi => by
    obtain rfl : o = .cells cs T := by simpa using h
    have hb : ∀ (r : List Obj) (W : World), Below W.heap.size W (r.foldl World.alloc W) := by
      intro r
      induction r with
      | nil => exact fun W => Below.refl _ _
      | cons o r ih => exact fun W => (below_al (Below.refl W.heap.size W) o).trans ((ih _).mono (by simp))
    exact kept_box (hb r _) i hi
  | o :: r, w, j + 1, cs, T, i, v, h, hi => by
    have := allocs_cell r (w.alloc o) j cs T i v (by simpa using h) hi
    rw [heap_alloc, show w.heap.size + 1 + j = w.heap.size + (j + 1) by omega] at this
    exact this
set_option maxHeartbeats 8000000 in
set_option maxRecDepth 100000 in
theorem buffering_any (w : World) : Calls Tryz.prog 23 #[] w fun e w' => e = .returned (bufV w.heap.size) ∧ BufM w.heap.size w' ∧ Below w.heap.size w w' := by
  go_enter Tryz.func23, Tryz.ntmps23
  go_wp2
  have hz : Tryz.prog.cellsOf 26 = 5 := by kernel_rfl
  have hB := below_al (below_al (below_al (below_al (below_al (below_al (Below.refl w.heap.size w) (.cells #[.string ⟨#[115, 98]⟩, .slice (some ⟨w.heap.size + 1, 0, none⟩) 1 1, .slice (some ⟨w.heap.size + 1 + 1 + 1 + 1, 0, none⟩) 2 2, .bool false, .slice (some ⟨w.heap.size + 1 + 1 + 1 + 1 + 1, 0, none⟩) 2 2] 26)) (.cells #[.string ⟨#[120]⟩, .int .i64 0] 43)) (.cells #[.int .i64 4, .string ⟨#[]⟩, .string ⟨#[120]⟩, .string ⟨#[]⟩, .int .i64 1, .int .i64 2, .string ⟨#[101, 97, 120]⟩, .string ⟨#[121]⟩, .string ⟨#[]⟩, .int .i64 0] 39)) (.cells #[.int .i64 4, .string ⟨#[]⟩, .string ⟨#[121]⟩, .string ⟨#[]⟩, .int .i64 1, .int .i64 2, .string ⟨#[101, 97, 120]⟩, .string ⟨#[120]⟩, .string ⟨#[]⟩, .int .i64 0] 39)) (.cells #[.slice (some ⟨w.heap.size + 1 + 1, 0, none⟩) 2 2, .slice (some ⟨w.heap.size + 1 + 1 + 1, 0, none⟩) 2 2] 37)) (.cells #[.int .i64 0, .string ⟨#[101, 97, 120]⟩, .int .i64 0, .int .i64 1, .string ⟨#[101, 97, 120]⟩, .int .i64 0] 45)
  have HW := fun (j i : Nat) (cs : Array Value) (T : TypeId) (v : Value) => allocs_cell [(.cells #[.string ⟨#[115, 98]⟩, .slice (some ⟨w.heap.size + 1, 0, none⟩) 1 1, .slice (some ⟨w.heap.size + 1 + 1 + 1 + 1, 0, none⟩) 2 2, .bool false, .slice (some ⟨w.heap.size + 1 + 1 + 1 + 1 + 1, 0, none⟩) 2 2] 26), (.cells #[.string ⟨#[120]⟩, .int .i64 0] 43), (.cells #[.int .i64 4, .string ⟨#[]⟩, .string ⟨#[120]⟩, .string ⟨#[]⟩, .int .i64 1, .int .i64 2, .string ⟨#[101, 97, 120]⟩, .string ⟨#[121]⟩, .string ⟨#[]⟩, .int .i64 0] 39), (.cells #[.int .i64 4, .string ⟨#[]⟩, .string ⟨#[121]⟩, .string ⟨#[]⟩, .int .i64 1, .int .i64 2, .string ⟨#[101, 97, 120]⟩, .string ⟨#[120]⟩, .string ⟨#[]⟩, .int .i64 0] 39), (.cells #[.slice (some ⟨w.heap.size + 1 + 1, 0, none⟩) 2 2, .slice (some ⟨w.heap.size + 1 + 1 + 1, 0, none⟩) 2 2] 37), (.cells #[.int .i64 0, .string ⟨#[101, 97, 120]⟩, .int .i64 0, .int .i64 1, .string ⟨#[101, 97, 120]⟩, .int .i64 0] 45)] w j cs T i v
  obtain ⟨W, hW⟩ : ∃ W, W = (World.alloc (World.alloc (World.alloc (World.alloc (World.alloc (World.alloc w (.cells #[.string ⟨#[115, 98]⟩, .slice (some ⟨w.heap.size + 1, 0, none⟩) 1 1, .slice (some ⟨w.heap.size + 1 + 1 + 1 + 1, 0, none⟩) 2 2, .bool false, .slice (some ⟨w.heap.size + 1 + 1 + 1 + 1 + 1, 0, none⟩) 2 2] 26)) (.cells #[.string ⟨#[120]⟩, .int .i64 0] 43)) (.cells #[.int .i64 4, .string ⟨#[]⟩, .string ⟨#[120]⟩, .string ⟨#[]⟩, .int .i64 1, .int .i64 2, .string ⟨#[101, 97, 120]⟩, .string ⟨#[121]⟩, .string ⟨#[]⟩, .int .i64 0] 39)) (.cells #[.int .i64 4, .string ⟨#[]⟩, .string ⟨#[121]⟩, .string ⟨#[]⟩, .int .i64 1, .int .i64 2, .string ⟨#[101, 97, 120]⟩, .string ⟨#[120]⟩, .string ⟨#[]⟩, .int .i64 0] 39)) (.cells #[.slice (some ⟨w.heap.size + 1 + 1, 0, none⟩) 2 2, .slice (some ⟨w.heap.size + 1 + 1 + 1, 0, none⟩) 2 2] 37)) (.cells #[.int .i64 0, .string ⟨#[101, 97, 120]⟩, .int .i64 0, .int .i64 1, .string ⟨#[101, 97, 120]⟩, .int .i64 0] 45)) := ⟨_, rfl⟩
  have HC : ∀ (j i : Nat) (cs : Array Value) (T : TypeId) (v : Value), ([(.cells #[.string ⟨#[115, 98]⟩, .slice (some ⟨w.heap.size + 1, 0, none⟩) 1 1, .slice (some ⟨w.heap.size + 1 + 1 + 1 + 1, 0, none⟩) 2 2, .bool false, .slice (some ⟨w.heap.size + 1 + 1 + 1 + 1 + 1, 0, none⟩) 2 2] 26), (.cells #[.string ⟨#[120]⟩, .int .i64 0] 43), (.cells #[.int .i64 4, .string ⟨#[]⟩, .string ⟨#[120]⟩, .string ⟨#[]⟩, .int .i64 1, .int .i64 2, .string ⟨#[101, 97, 120]⟩, .string ⟨#[121]⟩, .string ⟨#[]⟩, .int .i64 0] 39), (.cells #[.int .i64 4, .string ⟨#[]⟩, .string ⟨#[121]⟩, .string ⟨#[]⟩, .int .i64 1, .int .i64 2, .string ⟨#[101, 97, 120]⟩, .string ⟨#[120]⟩, .string ⟨#[]⟩, .int .i64 0] 39), (.cells #[.slice (some ⟨w.heap.size + 1 + 1, 0, none⟩) 2 2, .slice (some ⟨w.heap.size + 1 + 1 + 1, 0, none⟩) 2 2] 37), (.cells #[.int .i64 0, .string ⟨#[101, 97, 120]⟩, .int .i64 0, .int .i64 1, .string ⟨#[101, 97, 120]⟩, .int .i64 0] 45)] : List Obj)[j]? = some (.cells cs T) → cs[i]? = some v → W.cell? ⟨w.heap.size + j, i, none⟩ = some v ∧ W.frozen? ⟨w.heap.size + j, i, none⟩ = false := by
    intro j i cs T v h1 h2; rw [hW]; exact HW j i cs T v h1 h2
  rw [← hW] at hB ⊢
  have hsz : W.heap.size = w.heap.size + 6 := by rw [hW]; simp only [heap_alloc]
  clear hW HW
  have c0 : W.cell? ⟨w.heap.size, 0, none⟩ = some (.string ⟨#[115, 98]⟩) := (HC 0 0 _ _ _ rfl rfl).1
  have c1 : W.cell? ⟨w.heap.size, 1, none⟩ = some (.slice (some ⟨w.heap.size + 1, 0, none⟩) 1 1) := (HC 0 1 _ _ _ rfl rfl).1
  have c2 : W.cell? ⟨w.heap.size, 2, none⟩ = some (.slice (some ⟨w.heap.size + 1 + 1 + 1 + 1, 0, none⟩) 2 2) := (HC 0 2 _ _ _ rfl rfl).1
  have c3 : W.cell? ⟨w.heap.size, 3, none⟩ = some (.bool false) := (HC 0 3 _ _ _ rfl rfl).1
  have c4 : W.cell? ⟨w.heap.size, 4, none⟩ = some (.slice (some ⟨w.heap.size + 1 + 1 + 1 + 1 + 1, 0, none⟩) 2 2) := (HC 0 4 _ _ _ rfl rfl).1
  refine bodyPost_ret (v := bufV w.heap.size) (by simp [results, Tryz.results23, go_sem, c0, c1, c2, c3, c4, hz]) rfl ⟨rfl, ?_, hB⟩
  refine ⟨by omega, cls_one (by omega) ⟨(HC 1 0 _ _ _ rfl rfl).1, (HC 1 1 _ _ _ rfl rfl).1⟩,
    lns_two (by omega) ⟨(HC 2 0 _ _ _ rfl rfl).1, (HC 2 1 _ _ _ rfl rfl).1, (HC 2 2 _ _ _ rfl rfl).1, (HC 2 3 _ _ _ rfl rfl).1, (HC 2 4 _ _ _ rfl rfl).1⟩ ⟨(HC 2 5 _ _ _ rfl rfl).1, (HC 2 6 _ _ _ rfl rfl).1, (HC 2 7 _ _ _ rfl rfl).1, (HC 2 8 _ _ _ rfl rfl).1, (HC 2 9 _ _ _ rfl rfl).1⟩,
    lns_two (by omega) ⟨(HC 3 0 _ _ _ rfl rfl).1, (HC 3 1 _ _ _ rfl rfl).1, (HC 3 2 _ _ _ rfl rfl).1, (HC 3 3 _ _ _ rfl rfl).1, (HC 3 4 _ _ _ rfl rfl).1⟩ ⟨(HC 3 5 _ _ _ rfl rfl).1, (HC 3 6 _ _ _ rfl rfl).1, (HC 3 7 _ _ _ rfl rfl).1, (HC 3 8 _ _ _ rfl rfl).1, (HC 3 9 _ _ _ rfl rfl).1⟩,
    (HC 4 0 _ _ _ rfl rfl).1, (HC 4 1 _ _ _ rfl rfl).1, (HC 4 1 _ _ _ rfl rfl).2, ams_two (by omega) ⟨(HC 5 0 _ _ _ rfl rfl).1, (HC 5 1 _ _ _ rfl rfl).1, (HC 5 2 _ _ _ rfl rfl).1⟩ ⟨(HC 5 3 _ _ _ rfl rfl).1, (HC 5 4 _ _ _ rfl rfl).1, (HC 5 5 _ _ _ rfl rfl).1⟩⟩
end Go.Proofs.YtclhgmopphhalaaGreatDoor
namespace Go.Proofs.YtclhgmopphhalaaGreatDoor
open Go.RowKit
set_option linter.unusedVariables false
set_option linter.unusedSimpArgs false
open WordM (L)
open VM

theorem bufF_ok : FlOk bufF := by
  refine ⟨by decide, by decide, by decide, fun a ha => ?_, by decide⟩
  rcases List.mem_cons.1 ha with rfl | ha
  · exact ⟨by decide, (show NumM.inR 0 from by unfold NumM.inR; omega)⟩
  · rcases List.mem_cons.1 ha with rfl | ha
    · exact ⟨by decide, (show NumM.inR 1 from by unfold NumM.inR; omega)⟩
    · cases ha
theorem bufG_ok : FlOk bufG := ⟨by decide, by decide, by decide, bufF_ok.cond, by decide⟩
theorem zeroF_ok : FlOk zeroF := ⟨by decide, by decide, by decide, fun a ha => (by cases ha), by decide⟩
theorem zero_fl (B : Nat) (W : World) : FlV B W (.agg #[.string ⟨#[]⟩, .slice none 0 0, .slice none 0 0, .bool false, .slice none 0 0]) zeroF :=
  ⟨.slice none 0 0, .slice none 0 0, .slice none 0 0, rfl, ⟨none, 0, rfl, Nat.le_refl _, by decide, fun h => absurd h (by decide)⟩, ⟨none, 0, rfl, Nat.le_refl _, by decide, fun h => absurd h (by decide)⟩, ⟨none, 0, rfl, Nat.le_refl _, by decide, fun h => absurd h (by decide)⟩⟩
theorem FlBox.set {w : World} {g x i : Nat} {nm : ByteArray} {vi vt vc : Value} {al : Bool} (h : FlBox w g nm vi vt vc al) (hne : x ≠ g) (v : Value) : FlBox (w.setCell ⟨x, i, none⟩ v) g nm vi vt vc al := by
  obtain ⟨h0, h1, h2, h3, h4⟩ := h
  exact ⟨set_oth (.inl hne) h0, set_oth (.inl hne) h1, set_oth (.inl hne) h2, set_oth (.inl hne) h3, set_oth (.inl hne) h4⟩
theorem BufM.below {n : Nat} {W W' : World} (h : BufM n W) (hb : Below W.heap.size W W') : BufM n W' := by
  have hs := h.sz
  exact ⟨Nat.le_trans h.sz hb.size, (h.c.below hb).more hb.size, h.l0.below (hb.mono (by omega)), h.l1.below (hb.mono (by omega)), kc hb h.t0, kc hb h.t1, (hb.frozen (p := ⟨n + 1 + 1 + 1 + 1, 1, none⟩) (by show n + 1 + 1 + 1 + 1 < W.heap.size; omega)).trans h.z1, (h.a.below hb).more hb.size⟩
/-- The second program: the first one's memory with other lines in its second thread. -/
theorem bufG_fl {n m : Nat} {W : World} (h : BufM n W) (hm : n + 6 ≤ m) (hl : Lns (m + 1) W (.slice (some ⟨m, 0, none⟩) 2 2) [⟨11, [], [], [108], 0⟩, ⟨8, [], [], [108], 0⟩]) (hlt : m < W.heap.size) :
    FlV (W.setCell ⟨n + 1 + 1 + 1 + 1, 1, none⟩ (.slice (some ⟨m, 0, none⟩) 2 2)).heap.size (W.setCell ⟨n + 1 + 1 + 1 + 1, 1, none⟩ (.slice (some ⟨m, 0, none⟩) 2 2)) (bufV n) bufG := by
  have hs := h.sz
  have e : (W.setCell ⟨n + 1 + 1 + 1 + 1, 1, none⟩ (.slice (some ⟨m, 0, none⟩) 2 2)).heap.size = W.heap.size := by simp [World.setCell]
  have cls : Cls W.heap.size (W.setCell ⟨n + 1 + 1 + 1 + 1, 1, none⟩ (.slice (some ⟨m, 0, none⟩) 2 2)) (.slice (some ⟨n + 1, 0, none⟩) 1 1) bufF.init := by
    obtain ⟨A, c, e1, h1, h2, h3⟩ := h.c
    refine ⟨A, c, e1, h1, h2, fun k => ?_⟩
    obtain ⟨b, f, e2, h4, h5⟩ := h3 k
    have hb : b = n + 1 := by rw [e2] at e1; injection e1 with e1 _ _; injection e1 with e1; injection e1 with e1 _ _; exact e1.symm
    exact ⟨b, f, e2, h4, fun j hj => ⟨set_oth (.inl (by omega)) (h5 j hj).1, set_oth (.inl (by omega)) (h5 j hj).2⟩⟩
  have ams : Ams W.heap.size (W.setCell ⟨n + 1 + 1 + 1 + 1, 1, none⟩ (.slice (some ⟨m, 0, none⟩) 2 2)) (.slice (some ⟨n + 1 + 1 + 1 + 1 + 1, 0, none⟩) 2 2) bufF.cond := by
    obtain ⟨A, c, e1, h1, h2, h3⟩ := h.a
    refine ⟨A, c, e1, h1, h2, fun k => ?_⟩
    obtain ⟨b, f, e2, h4, h5⟩ := h3 k
    have hb : b = n + 1 + 1 + 1 + 1 + 1 := by rw [e2] at e1; injection e1 with e1 _ _; injection e1 with e1; injection e1 with e1 _ _; exact e1.symm
    exact ⟨b, f, e2, h4, fun j hj => ⟨set_oth (.inl (by omega)) (h5 j hj).1, set_oth (.inl (by omega)) (h5 j hj).2.1, set_oth (.inl (by omega)) (h5 j hj).2.2⟩⟩
  have hset : Below (n + 4) W (W.setCell ⟨n + 1 + 1 + 1 + 1, 1, none⟩ (.slice (some ⟨m, 0, none⟩) 2 2)) := (Below.refl _ _).setCell (p := ⟨n + 1 + 1 + 1 + 1, 1, none⟩) (by show n + 4 ≤ n + 1 + 1 + 1 + 1; omega) _
  have l1 : Lns W.heap.size (W.setCell ⟨n + 1 + 1 + 1 + 1, 1, none⟩ (.slice (some ⟨m, 0, none⟩) 2 2)) (.slice (some ⟨m, 0, none⟩) 2 2) [⟨11, [], [], [108], 0⟩, ⟨8, [], [], [108], 0⟩] := by
    obtain ⟨A, c, e1, h1, h2, h3⟩ := hl
    refine ⟨A, c, e1, h1, h2, fun k => ?_⟩
    obtain ⟨b, f, e2, h4, h5⟩ := h3 k
    have hb : b = m := by rw [e2] at e1; injection e1 with e1 _ _; injection e1 with e1; injection e1 with e1 _ _; exact e1.symm
    exact ⟨b, f, e2, by omega, fun j hj => ⟨set_oth (.inl (by omega)) (h5 j hj).1, set_oth (.inl (by omega)) (h5 j hj).2.1, set_oth (.inl (by omega)) (h5 j hj).2.2.1, set_oth (.inl (by omega)) (h5 j hj).2.2.2.1, set_oth (.inl (by omega)) (h5 j hj).2.2.2.2⟩⟩
  rw [e]
  exact ⟨_, _, _, rfl, cls, ths_two (by omega) (set_oth (.inr (by decide)) h.t0) (World.cell?_setCell_same _ _ _ h.t1) ((h.l0.below hset).more (by omega)) l1, ams⟩
set_option maxHeartbeats 8000000 in
set_option maxRecDepth 100000 in
theorem vhead_any (w : World) (hr : Regs w) (hg : EA.ErrG w) : Calls Tryz.prog 9 #[] w fun e w' => e = .returned (.bool true) ∧ Below w.heap.size w w' := by
  have HR := Lib.hid hr
  have HG := Lib.hid hg
  have HBU := Lib.hid (fun W => buffering_any W)
  have HC := Lib.hid (fun (W : World) (v : Value) (F : Fl) (hW : Below w.heap.size w W) (hv : FlV W.heap.size W v F) (ok : FlOk F) => check_any W (HR.out.below hW) (HG.out.below hW) hv (Nat.le_refl _) ok)
  clear hr hg
  go_enter Tryz.func9, Tryz.ntmps9
  go_wp2_with fail
  refine (HBU.out _).mono ?_
  rintro e w1 ⟨rfl, hM1, hB1⟩
  have HM1 := Lib.hid hM1
  have hB1' := below_al hB1 (.cells #[.string ⟨#[115, 98]⟩, .slice (some ⟨w.heap.size + 1, 0, none⟩) 1 1, .slice (some ⟨w.heap.size + 1 + 1 + 1 + 1, 0, none⟩) 2 2, .bool false, .slice (some ⟨w.heap.size + 1 + 1 + 1 + 1 + 1, 0, none⟩) 2 2] 26)
  have hK1 := below_al (Below.refl w1.heap.size w1) (.cells #[.string ⟨#[115, 98]⟩, .slice (some ⟨w.heap.size + 1, 0, none⟩) 1 1, .slice (some ⟨w.heap.size + 1 + 1 + 1 + 1, 0, none⟩) 2 2, .bool false, .slice (some ⟨w.heap.size + 1 + 1 + 1 + 1 + 1, 0, none⟩) 2 2] 26)
  have HC1 := Lib.hid (HC.out _ _ _ hB1' (HM1.out.below hK1).fl bufF_ok)
  rw [buf_chk] at HC1
  have hbx1 := FlBox.at (w := w1) rfl ⟨#[115, 98]⟩ (.slice (some ⟨w.heap.size + 1, 0, none⟩) 1 1) (.slice (some ⟨w.heap.size + 1 + 1 + 1 + 1, 0, none⟩) 2 2) (.slice (some ⟨w.heap.size + 1 + 1 + 1 + 1 + 1, 0, none⟩) 2 2) false 26
  clear hM1
  go_wp2_with fail
  refine HC1.out.mono ?_
  rintro e w2 ⟨rfl, hb2⟩
  have hB2 := chain hB1' hb2
  have hF2 := Lib.hid (hbx1.below hb2)
  have hT2 : Below w1.heap.size w1 w2 := hK1.trans (hb2.mono (by simp))
  have HFL := Lib.hid HM1.out.fl
  clear HC1 hB1 hB1' hK1 hbx1 HM1
  have g1lt : w1.heap.size < w2.heap.size := lt_of_cell hF2.out.1
  go_wp2_with fail
  refine (HBU.out _).mono ?_
  rintro e w3 ⟨rfl, hM3, hb3⟩
  have hB3 := chain hB2 hb3
  have hF3 := Lib.hid (hF2.out.below hb3)
  have hT3 := chain hT2 hb3
  have HM3 := Lib.hid hM3
  have h3lt : w2.heap.size + 6 ≤ w3.heap.size := hM3.sz
  have hw1 : w.heap.size ≤ w2.heap.size := hB2.size
  clear hM3 hb3 hF2 hT2 hb2
  have k4 := below_al (Below.refl w3.heap.size w3) (.cells #[.string ⟨#[115, 98]⟩, .slice (some ⟨w2.heap.size + 1, 0, none⟩) 1 1, .slice (some ⟨w2.heap.size + 1 + 1 + 1 + 1, 0, none⟩) 2 2, .bool false, .slice (some ⟨w2.heap.size + 1 + 1 + 1 + 1 + 1, 0, none⟩) 2 2] 26)
  have k5 := below_al k4 (.cells #[.int .i64 11, .string ⟨#[]⟩, .string ⟨#[]⟩, .string ⟨#[108]⟩, .int .i64 0, .int .i64 8, .string ⟨#[]⟩, .string ⟨#[]⟩, .string ⟨#[108]⟩, .int .i64 0] 39)
  have hM5 := Lib.hid (HM3.out.below k5)
  have hF5 := Lib.hid (hF3.out.below k5)
  have hT5 := chain hT3 k5
  have hG5 := Lib.hid ((FlBox.at (w := w3) rfl ⟨#[115, 98]⟩ (.slice (some ⟨w2.heap.size + 1, 0, none⟩) 1 1) (.slice (some ⟨w2.heap.size + 1 + 1 + 1 + 1, 0, none⟩) 2 2) (.slice (some ⟨w2.heap.size + 1 + 1 + 1 + 1 + 1, 0, none⟩) 2 2) false 26).below (below_al (Below.refl _ _) (.cells #[.int .i64 11, .string ⟨#[]⟩, .string ⟨#[]⟩, .string ⟨#[108]⟩, .int .i64 0, .int .i64 8, .string ⟨#[]⟩, .string ⟨#[]⟩, .string ⟨#[108]⟩, .int .i64 0] 39)))
  have hL5 := Lib.hid (show Lns (w3.heap.size + 1 + 1) ((w3.alloc (.cells #[.string ⟨#[115, 98]⟩, .slice (some ⟨w2.heap.size + 1, 0, none⟩) 1 1, .slice (some ⟨w2.heap.size + 1 + 1 + 1 + 1, 0, none⟩) 2 2, .bool false, .slice (some ⟨w2.heap.size + 1 + 1 + 1 + 1 + 1, 0, none⟩) 2 2] 26)).alloc (.cells #[.int .i64 11, .string ⟨#[]⟩, .string ⟨#[]⟩, .string ⟨#[108]⟩, .int .i64 0, .int .i64 8, .string ⟨#[]⟩, .string ⟨#[]⟩, .string ⟨#[108]⟩, .int .i64 0] 39)) (.slice (some ⟨w3.heap.size + 1, 0, none⟩) 2 2) [⟨11, [], [], [108], 0⟩, ⟨8, [], [], [108], 0⟩] from by
    have hc := fun i v (h : (#[Value.int .i64 11, .string ⟨#[]⟩, .string ⟨#[]⟩, .string ⟨#[108]⟩, .int .i64 0, .int .i64 8, .string ⟨#[]⟩, .string ⟨#[]⟩, .string ⟨#[108]⟩, .int .i64 0] : Array Value)[i]? = some v) => (box_1 (w3.alloc (.cells #[.string ⟨#[115, 98]⟩, .slice (some ⟨w2.heap.size + 1, 0, none⟩) 1 1, .slice (some ⟨w2.heap.size + 1 + 1 + 1 + 1, 0, none⟩) 2 2, .bool false, .slice (some ⟨w2.heap.size + 1 + 1 + 1 + 1 + 1, 0, none⟩) 2 2] 26)) _ 39 i h).1
    rw [heap_alloc] at hc
    exact lns_two (by omega) ⟨hc 0 _ rfl, hc 1 _ rfl, hc 2 _ rfl, hc 3 _ rfl, hc 4 _ rfl⟩ ⟨hc 5 _ rfl, hc 6 _ rfl, hc 7 _ rfl, hc 8 _ rfl, hc 9 _ rfl⟩)
  have hB5 := hB3.trans (k5.mono hB3.size)
  obtain ⟨W5, hW5⟩ : ∃ W, W = ((w3.alloc (.cells #[.string ⟨#[115, 98]⟩, .slice (some ⟨w2.heap.size + 1, 0, none⟩) 1 1, .slice (some ⟨w2.heap.size + 1 + 1 + 1 + 1, 0, none⟩) 2 2, .bool false, .slice (some ⟨w2.heap.size + 1 + 1 + 1 + 1 + 1, 0, none⟩) 2 2] 26)).alloc (.cells #[.int .i64 11, .string ⟨#[]⟩, .string ⟨#[]⟩, .string ⟨#[108]⟩, .int .i64 0, .int .i64 8, .string ⟨#[]⟩, .string ⟨#[]⟩, .string ⟨#[108]⟩, .int .i64 0] 39)) := ⟨_, rfl⟩
  have t5 := hM5.out.t1
  have z5 := hM5.out.z1
  have hq4 : w2.heap.size + 1 + 1 + 1 + 1 < w3.heap.size := by omega
  have hq5 : w2.heap.size + 1 + 1 + 1 + 1 < w3.heap.size + 1 := by omega
  have hq6 : w2.heap.size + 1 + 1 + 1 + 1 < (w3.alloc (.cells #[.string ⟨#[115, 98]⟩, .slice (some ⟨w2.heap.size + 1, 0, none⟩) 1 1, .slice (some ⟨w2.heap.size + 1 + 1 + 1 + 1, 0, none⟩) 2 2, .bool false, .slice (some ⟨w2.heap.size + 1 + 1 + 1 + 1 + 1, 0, none⟩) 2 2] 26)).heap.size := by rw [heap_alloc]; omega
  have hs5 : W5.heap.size = w3.heap.size + 1 + 1 := by rw [hW5]; simp only [heap_alloc]
  rw [← hW5] at hM5 hF5 hT5 hG5 hL5 hB5
  have t4 : w3.cell? ⟨w2.heap.size + 1 + 1 + 1 + 1, 1, none⟩ = _ := HM3.out.t1
  have y4 : w3.frozen? ⟨w2.heap.size + 1 + 1 + 1 + 1, 1, none⟩ = _ := HM3.out.z1
  have hcomm : W5.setCell ⟨w2.heap.size + 1 + 1 + 1 + 1, 1, none⟩ (.slice (some ⟨w3.heap.size + 1, 0, none⟩) 2 2) = ((w3.setCell ⟨w2.heap.size + 1 + 1 + 1 + 1, 1, none⟩ (.slice (some ⟨w3.heap.size + 1, 0, none⟩) 2 2)).alloc (.cells #[.string ⟨#[115, 98]⟩, .slice (some ⟨w2.heap.size + 1, 0, none⟩) 1 1, .slice (some ⟨w2.heap.size + 1 + 1 + 1 + 1, 0, none⟩) 2 2, .bool false, .slice (some ⟨w2.heap.size + 1 + 1 + 1 + 1 + 1, 0, none⟩) 2 2] 26)).alloc (.cells #[.int .i64 11, .string ⟨#[]⟩, .string ⟨#[]⟩, .string ⟨#[108]⟩, .int .i64 0, .int .i64 8, .string ⟨#[]⟩, .string ⟨#[]⟩, .string ⟨#[108]⟩, .int .i64 0] 39) := by
    rw [hW5, World.setCell_alloc_past _ _ _ _ (by rw [heap_alloc]; omega), World.setCell_alloc_past _ _ _ _ hq4]
  go_wp2_with fail
  rw [← hcomm]
  have hFG := bufG_fl (m := w3.heap.size + 1) hM5.out (by omega) hL5.out (by omega)
  have hB6 := hB5.setCell (p := ⟨w2.heap.size + 1 + 1 + 1 + 1, 1, none⟩) (by show w.heap.size ≤ w2.heap.size + 1 + 1 + 1 + 1; omega) (.slice (some ⟨w3.heap.size + 1, 0, none⟩) 2 2)
  have HC6 := Lib.hid (HC.out _ _ _ hB6 hFG bufG_ok)
  rw [bufG_chk] at HC6
  have hF6 := Lib.hid (hF5.out.set (x := w2.heap.size + 1 + 1 + 1 + 1) (i := 1) (by omega) (.slice (some ⟨w3.heap.size + 1, 0, none⟩) 2 2))
  have hG6 := Lib.hid (hG5.out.set (x := w2.heap.size + 1 + 1 + 1 + 1) (i := 1) (by omega) (.slice (some ⟨w3.heap.size + 1, 0, none⟩) 2 2))
  have hT6 := hT5.setCell (p := ⟨w2.heap.size + 1 + 1 + 1 + 1, 1, none⟩) (by show w1.heap.size ≤ w2.heap.size + 1 + 1 + 1 + 1; omega) (.slice (some ⟨w3.heap.size + 1, 0, none⟩) 2 2)
  obtain ⟨W6, hW6⟩ : ∃ W, W = W5.setCell ⟨w2.heap.size + 1 + 1 + 1 + 1, 1, none⟩ (.slice (some ⟨w3.heap.size + 1, 0, none⟩) 2 2) := ⟨_, rfl⟩
  rw [← hW6] at hB6 HC6 hF6 hG6 hT6 hFG ⊢
  have HFG := Lib.hid hFG
  clear hcomm hW6 hW5 t5 z5 hM5 hF5 hT5 hG5 hL5 hB5 hB3 t4 y4 hF3 hT3 HM3 hFG k4 k5
  refine HC6.out.mono ?_
  rintro e w7 ⟨rfl, hb7⟩
  have hB7 := chain hB6 hb7
  have hT7 := chain hT6 hb7
  have hF7 := Lib.hid (hF6.out.below hb7)
  have hG7 := Lib.hid (hG6.out.below hb7)
  have HFG7 := Lib.hid ((HFG.out.below hb7).more hb7.size)
  clear hB6 hT6 hF6 hG6 HFG HC6 hb7
  have HC7 := Lib.hid (HC.out w7 _ zeroF hB7 (zero_fl _ _) zeroF_ok)
  rw [zero_chk] at HC7
  go_wp2_with fail
  refine HC7.out.mono ?_
  rintro e w8 ⟨rfl, hb8⟩
  have hB8 := chain hB7 hb8
  have hT8 := chain hT7 hb8
  have hF8 := Lib.hid (hF7.out.below hb8)
  have hG8 := Lib.hid (hG7.out.below hb8)
  have HFG8 := Lib.hid ((HFG7.out.below hb8).more hb8.size)
  have HV8 := Lib.hid (vright_any w8 (HR.out.below hB8) (HG.out.below hB8) (HFL.out.below hT8) hT8.size bufF_ok)
  rw [show VM.right bufF = true from by unfold VM.right; rw [buf_chk]; rfl] at HV8
  obtain ⟨t0, t1, t2, t3, t4⟩ := hF8.out
  clear hB7 hT7 hF7 hG7 HFG7 HC7 hb8 HC HBU
  go_wp2_with fail
  refine HV8.out.mono ?_
  rintro e w9 ⟨rfl, hb9⟩
  have hB9 := chain hB8 hb9
  have hT9 := chain hT8 hb9
  have hG9 := Lib.hid (hG8.out.below hb9)
  have HFG9 := Lib.hid ((HFG8.out.below hb9).more hb9.size)
  have HL9 := Lib.hid (locs_any w9 (HR.out.below hB9) (HG.out.below hB9) (HFL.out.below hT9) hT9.size bufF_ok)
  rw [buf_locs] at HL9
  obtain ⟨t0, t1, t2, t3, t4⟩ := hF8.out.below hb9
  clear hF8 hB8 hT8 hG8 HFG8 HV8 hb9
  go_wp2_with fail
  refine HL9.out.mono ?_
  rintro e wa ⟨va, rfl, hown, hba⟩
  have hBa := chain hB9 hba
  have hGa := Lib.hid (hG9.out.below hba)
  have HFGa := Lib.hid ((HFG9.out.below hba).more hba.size)
  have HSa := Lib.hid (same_lit (T := 9) hown)
  clear hB9 hT9 hG9 HFG9 HL9 hown t0 t1 t2 t3 t4
  go_wp2_with fail
  refine HSa.out.mono ?_
  rintro e wb ⟨rfl, hbb⟩
  have hBb := chain hBa hbb
  have hGb := Lib.hid (hGa.out.below hbb)
  have HFGb := Lib.hid ((HFGa.out.below hbb).more hbb.size)
  have HVb := Lib.hid (vright_any wb (HR.out.below hBb) (HG.out.below hBb) HFGb.out (Nat.le_refl _) bufG_ok)
  rw [show VM.right bufG = false from by unfold VM.right; rw [bufG_chk]; rfl] at HVb
  obtain ⟨t0, t1, t2, t3, t4⟩ := hGb.out
  clear hBa hGa HFGa HSa hbb hba
  go_wp2_with fail
  refine HVb.out.mono ?_
  rintro e wc ⟨rfl, hbc⟩
  have hBc := chain hBb hbc
  have hGc := Lib.hid (hGb.out.below hbc)
  have HLc := Lib.hid (locs_any wc (HR.out.below hBc) (HG.out.below hBc) ((HFGb.out.below hbc).more hbc.size) (Nat.le_refl _) bufG_ok)
  rw [bufG_locs] at HLc
  clear t0 t1 t2 t3 t4
  obtain ⟨t0, t1, t2, t3, t4⟩ := hGc.out
  clear hBb hGb HFGb HVb hbc
  go_wp2_with fail
  refine HLc.out.mono ?_
  rintro e wd ⟨vd, rfl, hown, hbd⟩
  have hBd := chain hBc hbd
  obtain ⟨A5, c5, rfl, -, -, -⟩ := strs_own hown
  clear t0 t1 t2 t3 t4 hBc hGc HLc hbd hown
  go_wp2
  go_ret
  exact ⟨rfl, hBd⟩
end Go.Proofs.YtclhgmopphhalaaGreatDoor
