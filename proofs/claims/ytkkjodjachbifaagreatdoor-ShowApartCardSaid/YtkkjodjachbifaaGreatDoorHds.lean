/-
  THE LAWS' live question: Buffering, head.
  THE LAWS' head of layer 6: a program's text, and a line's, are what they are.
-/
import Derived.Test.YtkkjodjachbifaaGreatDoorRChk
import Derived.Test.YtkkjodjachbifaaGreatDoorVMm
import Derived.Test.YtkkjodjachbifaaGreatDoorSame
import Derived.Test.YtkkjodjachbifaaGreatDoorRPr
import Derived.Test.YtkkjodjachbifaaGreatDoorLGr
namespace Go.Proofs.YtkkjodjachbifaaGreatDoor
open Go.RowKit
set_option linter.unusedVariables false
set_option linter.unusedSimpArgs false
open WordM (L)
open VM

/-- Two threads, each of which writes one location and reads the other one. -/
def bufF : Fl := ⟨[115, 98], [([120], 0)], [[⟨4, [], [120], [], 1⟩, ⟨2, [101, 97, 120], [121], [], 0⟩], [⟨4, [], [121], [], 1⟩, ⟨2, [101, 97, 120], [120], [], 0⟩]], [⟨0, [101, 97, 120], 0⟩, ⟨1, [101, 97, 120], 0⟩], false⟩
def bufG : Fl := ⟨[115, 98], [([120], 0)], [[⟨4, [], [120], [], 1⟩, ⟨2, [101, 97, 120], [121], [], 0⟩], [⟨11, [], [], [108], 0⟩, ⟨8, [], [], [108], 0⟩]], [⟨0, [101, 97, 120], 0⟩, ⟨1, [101, 97, 120], 0⟩], false⟩
def zeroF : Fl := ⟨[], [], [], [], false⟩
theorem buf_chk : chk bufF = (0, 0, 0) := by decide +kernel
theorem bufG_chk : chk bufG = (1, 1, 22) := by decide +kernel
theorem zero_chk : chk zeroF = (-1, -1, 22) := by decide +kernel
theorem buf_locs : locsR bufF = [[120], [121]] := by decide +kernel
theorem bufG_locs : locsR bufG = [] := by decide +kernel
theorem lns_two {B b : Nat} {W : World} {x y : OpsM.Ln} (hb : b < B) (h0 : LnAt W b 0 x) (h1 : LnAt W b 5 y) : Lns B W (.slice (some ⟨b, 0, none⟩) 2 2) [x, y] := by
  refine ⟨_, 2, rfl, Nat.le_refl _, by decide, fun _ => ⟨b, 0, rfl, hb, fun j hj => ?_⟩⟩
  match j, hj with
  | 0, _ => exact h0
  | 1, _ => exact h1
theorem cls_one {B b : Nat} {W : World} {x : L × Int} (hb : b < B) (h0 : ClAt W b 0 x) : Cls B W (.slice (some ⟨b, 0, none⟩) 1 1) [x] := by
  refine ⟨_, 1, rfl, Nat.le_refl _, by decide, fun _ => ⟨b, 0, rfl, hb, fun j hj => ?_⟩⟩
  match j, hj with
  | 0, _ => exact h0
theorem ams_two {B b : Nat} {W : World} {x y : AtomM.At} (hb : b < B) (h0 : AmAt W b 0 x) (h1 : AmAt W b 3 y) : Ams B W (.slice (some ⟨b, 0, none⟩) 2 2) [x, y] := by
  refine ⟨_, 2, rfl, Nat.le_refl _, by decide, fun _ => ⟨b, 0, rfl, hb, fun j hj => ?_⟩⟩
  match j, hj with
  | 0, _ => exact h0
  | 1, _ => exact h1
theorem ths_two {B b : Nat} {W : World} {x y : List OpsM.Ln} {v0 v1 : Value} (hb : b < B) (c0 : W.cell? ⟨b, 0, none⟩ = some v0) (c1 : W.cell? ⟨b, 1, none⟩ = some v1) (h0 : Lns B W v0 x) (h1 : Lns B W v1 y) : Ths B W (.slice (some ⟨b, 0, none⟩) 2 2) [x, y] := by
  refine ⟨_, 2, rfl, Nat.le_refl _, by decide, fun _ => ⟨b, 0, rfl, hb, fun j hj => ?_⟩⟩
  match j, hj with
  | 0, _ => exact ⟨v0, c0, h0⟩
  | 1, _ => exact ⟨v1, c1, h1⟩
/-- What Buffering leaves in memory, from block n on. -/
structure BufM (n : Nat) (W : World) : Prop where
  sz : n + 6 ≤ W.heap.size
  c : Cls W.heap.size W (.slice (some ⟨n + 1, 0, none⟩) 1 1) bufF.init
  l0 : Lns (n + 4) W (.slice (some ⟨n + 1 + 1, 0, none⟩) 2 2) [⟨4, [], [120], [], 1⟩, ⟨2, [101, 97, 120], [121], [], 0⟩]
  l1 : Lns (n + 4) W (.slice (some ⟨n + 1 + 1 + 1, 0, none⟩) 2 2) [⟨4, [], [121], [], 1⟩, ⟨2, [101, 97, 120], [120], [], 0⟩]
  t0 : W.cell? ⟨n + 1 + 1 + 1 + 1, 0, none⟩ = some (.slice (some ⟨n + 1 + 1, 0, none⟩) 2 2)
  t1 : W.cell? ⟨n + 1 + 1 + 1 + 1, 1, none⟩ = some (.slice (some ⟨n + 1 + 1 + 1, 0, none⟩) 2 2)
  z1 : W.frozen? ⟨n + 1 + 1 + 1 + 1, 1, none⟩ = false
  a : Ams W.heap.size W (.slice (some ⟨n + 1 + 1 + 1 + 1 + 1, 0, none⟩) 2 2) bufF.cond
abbrev bufV (n : Nat) : Value := .agg #[.string ⟨#[115, 98]⟩, .slice (some ⟨n + 1, 0, none⟩) 1 1, .slice (some ⟨n + 1 + 1 + 1 + 1, 0, none⟩) 2 2, .bool false, .slice (some ⟨n + 1 + 1 + 1 + 1 + 1, 0, none⟩) 2 2]
theorem BufM.fl {n : Nat} {W : World} (h : BufM n W) : FlV W.heap.size W (bufV n) bufF :=
  ⟨_, _, _, rfl, h.c, ths_two (by have := h.sz; omega) h.t0 h.t1 (h.l0.more (by have := h.sz; omega)) (h.l1.more (by have := h.sz; omega)), h.a⟩
theorem allocs_cell : ∀ (l : List Obj) (w : World) (j : Nat) (cs : Array Value) (T : TypeId) (i : Nat) (v : Value), l[j]? = some (.cells cs T) → cs[i]? = some v →
    (l.foldl World.alloc w).cell? ⟨w.heap.size + j, i, none⟩ = some v ∧ (l.foldl World.alloc w).frozen? ⟨w.heap.size + j, i, none⟩ = false
  | [], w, j, cs, T, i, v, h, _ => by simp at h
  | o :: r, w, 0, cs, T, i, v, h, hi => by
    obtain rfl : o = .cells cs T := by simpa using h
    have hb : ∀ (r : List Obj) (W : World), Below W.heap.size W (r.foldl World.alloc W) := by
      intro r
      induction r with
      | nil => exact fun W => Below.refl _ _
      | cons o r ih => exact fun W => (below_al (Below.refl W.heap.size W) o).trans ((ih _).mono (by simp))
    exact kept_box (hb r _) i hi
  | o :: r, w, j + 1, cs, T, i, v, h, hi => by
    have := allocs_cell r (w.alloc o) j cs T i v (by simpa using h) hi
    rw [heap_alloc, show w.heap.size + 1 + j = w.heap.size + (j + 1) by omega] at this
    exact this
set_option maxHeartbeats 8000000 in
set_option maxRecDepth 100000 in
theorem buffering_any (w : World) : Calls Tryz.prog 24 #[] w fun e w' => e = .returned (bufV w.heap.size) ∧ BufM w.heap.size w' ∧ Below w.heap.size w w' := by
  go_enter Tryz.func24, Tryz.ntmps24
  go_wp2
  have hz : Tryz.prog.cellsOf 26 = 5 := by kernel_rfl
  have hB := below_al (below_al (below_al (below_al (below_al (below_al (Below.refl w.heap.size w) (.cells #[.string ⟨#[115, 98]⟩, .slice (some ⟨w.heap.size + 1, 0, none⟩) 1 1, .slice (some ⟨w.heap.size + 1 + 1 + 1 + 1, 0, none⟩) 2 2, .bool false, .slice (some ⟨w.heap.size + 1 + 1 + 1 + 1 + 1, 0, none⟩) 2 2] 26)) (.cells #[.string ⟨#[120]⟩, .int .i64 0] 52)) (.cells #[.int .i64 4, .string ⟨#[]⟩, .string ⟨#[120]⟩, .string ⟨#[]⟩, .int .i64 1, .int .i64 2, .string ⟨#[101, 97, 120]⟩, .string ⟨#[121]⟩, .string ⟨#[]⟩, .int .i64 0] 28)) (.cells #[.int .i64 4, .string ⟨#[]⟩, .string ⟨#[121]⟩, .string ⟨#[]⟩, .int .i64 1, .int .i64 2, .string ⟨#[101, 97, 120]⟩, .string ⟨#[120]⟩, .string ⟨#[]⟩, .int .i64 0] 28)) (.cells #[.slice (some ⟨w.heap.size + 1 + 1, 0, none⟩) 2 2, .slice (some ⟨w.heap.size + 1 + 1 + 1, 0, none⟩) 2 2] 46)) (.cells #[.int .i64 0, .string ⟨#[101, 97, 120]⟩, .int .i64 0, .int .i64 1, .string ⟨#[101, 97, 120]⟩, .int .i64 0] 54)
  have HW := fun (j i : Nat) (cs : Array Value) (T : TypeId) (v : Value) => allocs_cell [(.cells #[.string ⟨#[115, 98]⟩, .slice (some ⟨w.heap.size + 1, 0, none⟩) 1 1, .slice (some ⟨w.heap.size + 1 + 1 + 1 + 1, 0, none⟩) 2 2, .bool false, .slice (some ⟨w.heap.size + 1 + 1 + 1 + 1 + 1, 0, none⟩) 2 2] 26), (.cells #[.string ⟨#[120]⟩, .int .i64 0] 52), (.cells #[.int .i64 4, .string ⟨#[]⟩, .string ⟨#[120]⟩, .string ⟨#[]⟩, .int .i64 1, .int .i64 2, .string ⟨#[101, 97, 120]⟩, .string ⟨#[121]⟩, .string ⟨#[]⟩, .int .i64 0] 28), (.cells #[.int .i64 4, .string ⟨#[]⟩, .string ⟨#[121]⟩, .string ⟨#[]⟩, .int .i64 1, .int .i64 2, .string ⟨#[101, 97, 120]⟩, .string ⟨#[120]⟩, .string ⟨#[]⟩, .int .i64 0] 28), (.cells #[.slice (some ⟨w.heap.size + 1 + 1, 0, none⟩) 2 2, .slice (some ⟨w.heap.size + 1 + 1 + 1, 0, none⟩) 2 2] 46), (.cells #[.int .i64 0, .string ⟨#[101, 97, 120]⟩, .int .i64 0, .int .i64 1, .string ⟨#[101, 97, 120]⟩, .int .i64 0] 54)] w j cs T i v
  obtain ⟨W, hW⟩ : ∃ W, W = (World.alloc (World.alloc (World.alloc (World.alloc (World.alloc (World.alloc w (.cells #[.string ⟨#[115, 98]⟩, .slice (some ⟨w.heap.size + 1, 0, none⟩) 1 1, .slice (some ⟨w.heap.size + 1 + 1 + 1 + 1, 0, none⟩) 2 2, .bool false, .slice (some ⟨w.heap.size + 1 + 1 + 1 + 1 + 1, 0, none⟩) 2 2] 26)) (.cells #[.string ⟨#[120]⟩, .int .i64 0] 52)) (.cells #[.int .i64 4, .string ⟨#[]⟩, .string ⟨#[120]⟩, .string ⟨#[]⟩, .int .i64 1, .int .i64 2, .string ⟨#[101, 97, 120]⟩, .string ⟨#[121]⟩, .string ⟨#[]⟩, .int .i64 0] 28)) (.cells #[.int .i64 4, .string ⟨#[]⟩, .string ⟨#[121]⟩, .string ⟨#[]⟩, .int .i64 1, .int .i64 2, .string ⟨#[101, 97, 120]⟩, .string ⟨#[120]⟩, .string ⟨#[]⟩, .int .i64 0] 28)) (.cells #[.slice (some ⟨w.heap.size + 1 + 1, 0, none⟩) 2 2, .slice (some ⟨w.heap.size + 1 + 1 + 1, 0, none⟩) 2 2] 46)) (.cells #[.int .i64 0, .string ⟨#[101, 97, 120]⟩, .int .i64 0, .int .i64 1, .string ⟨#[101, 97, 120]⟩, .int .i64 0] 54)) := ⟨_, rfl⟩
  have HC : ∀ (j i : Nat) (cs : Array Value) (T : TypeId) (v : Value), ([(.cells #[.string ⟨#[115, 98]⟩, .slice (some ⟨w.heap.size + 1, 0, none⟩) 1 1, .slice (some ⟨w.heap.size + 1 + 1 + 1 + 1, 0, none⟩) 2 2, .bool false, .slice (some ⟨w.heap.size + 1 + 1 + 1 + 1 + 1, 0, none⟩) 2 2] 26), (.cells #[.string ⟨#[120]⟩, .int .i64 0] 52), (.cells #[.int .i64 4, .string ⟨#[]⟩, .string ⟨#[120]⟩, .string ⟨#[]⟩, .int .i64 1, .int .i64 2, .string ⟨#[101, 97, 120]⟩, .string ⟨#[121]⟩, .string ⟨#[]⟩, .int .i64 0] 28), (.cells #[.int .i64 4, .string ⟨#[]⟩, .string ⟨#[121]⟩, .string ⟨#[]⟩, .int .i64 1, .int .i64 2, .string ⟨#[101, 97, 120]⟩, .string ⟨#[120]⟩, .string ⟨#[]⟩, .int .i64 0] 28), (.cells #[.slice (some ⟨w.heap.size + 1 + 1, 0, none⟩) 2 2, .slice (some ⟨w.heap.size + 1 + 1 + 1, 0, none⟩) 2 2] 46), (.cells #[.int .i64 0, .string ⟨#[101, 97, 120]⟩, .int .i64 0, .int .i64 1, .string ⟨#[101, 97, 120]⟩, .int .i64 0] 54)] : List Obj)[j]? = some (.cells cs T) → cs[i]? = some v → W.cell? ⟨w.heap.size + j, i, none⟩ = some v ∧ W.frozen? ⟨w.heap.size + j, i, none⟩ = false := by
    intro j i cs T v h1 h2; rw [hW]; exact HW j i cs T v h1 h2
  rw [← hW] at hB ⊢
  have hsz : W.heap.size = w.heap.size + 6 := by rw [hW]; simp only [heap_alloc]
  clear hW HW
  have c0 : W.cell? ⟨w.heap.size, 0, none⟩ = some (.string ⟨#[115, 98]⟩) := (HC 0 0 _ _ _ rfl rfl).1
  have c1 : W.cell? ⟨w.heap.size, 1, none⟩ = some (.slice (some ⟨w.heap.size + 1, 0, none⟩) 1 1) := (HC 0 1 _ _ _ rfl rfl).1
  have c2 : W.cell? ⟨w.heap.size, 2, none⟩ = some (.slice (some ⟨w.heap.size + 1 + 1 + 1 + 1, 0, none⟩) 2 2) := (HC 0 2 _ _ _ rfl rfl).1
  have c3 : W.cell? ⟨w.heap.size, 3, none⟩ = some (.bool false) := (HC 0 3 _ _ _ rfl rfl).1
  have c4 : W.cell? ⟨w.heap.size, 4, none⟩ = some (.slice (some ⟨w.heap.size + 1 + 1 + 1 + 1 + 1, 0, none⟩) 2 2) := (HC 0 4 _ _ _ rfl rfl).1
  refine bodyPost_ret (v := bufV w.heap.size) (by simp [results, Tryz.results24, go_sem, c0, c1, c2, c3, c4, hz]) rfl ⟨rfl, ?_, hB⟩
  refine ⟨by omega, cls_one (by omega) ⟨(HC 1 0 _ _ _ rfl rfl).1, (HC 1 1 _ _ _ rfl rfl).1⟩,
    lns_two (by omega) ⟨(HC 2 0 _ _ _ rfl rfl).1, (HC 2 1 _ _ _ rfl rfl).1, (HC 2 2 _ _ _ rfl rfl).1, (HC 2 3 _ _ _ rfl rfl).1, (HC 2 4 _ _ _ rfl rfl).1⟩ ⟨(HC 2 5 _ _ _ rfl rfl).1, (HC 2 6 _ _ _ rfl rfl).1, (HC 2 7 _ _ _ rfl rfl).1, (HC 2 8 _ _ _ rfl rfl).1, (HC 2 9 _ _ _ rfl rfl).1⟩,
    lns_two (by omega) ⟨(HC 3 0 _ _ _ rfl rfl).1, (HC 3 1 _ _ _ rfl rfl).1, (HC 3 2 _ _ _ rfl rfl).1, (HC 3 3 _ _ _ rfl rfl).1, (HC 3 4 _ _ _ rfl rfl).1⟩ ⟨(HC 3 5 _ _ _ rfl rfl).1, (HC 3 6 _ _ _ rfl rfl).1, (HC 3 7 _ _ _ rfl rfl).1, (HC 3 8 _ _ _ rfl rfl).1, (HC 3 9 _ _ _ rfl rfl).1⟩,
    (HC 4 0 _ _ _ rfl rfl).1, (HC 4 1 _ _ _ rfl rfl).1, (HC 4 1 _ _ _ rfl rfl).2, ams_two (by omega) ⟨(HC 5 0 _ _ _ rfl rfl).1, (HC 5 1 _ _ _ rfl rfl).1, (HC 5 2 _ _ _ rfl rfl).1⟩ ⟨(HC 5 3 _ _ _ rfl rfl).1, (HC 5 4 _ _ _ rfl rfl).1, (HC 5 5 _ _ _ rfl rfl).1⟩⟩
end Go.Proofs.YtkkjodjachbifaaGreatDoor
namespace Go.Proofs.YtkkjodjachbifaaGreatDoor
open Go.RowKit
set_option linter.unusedVariables false
set_option linter.unusedSimpArgs false
open WordM (L)
open VM

theorem inR0 : NumM.inR 0 := by unfold NumM.inR; omega
theorem inR1 : NumM.inR 1 := by unfold NumM.inR; omega
theorem bufF_p : FlP bufF := by
  refine ⟨⟨by decide, by decide, by decide, fun a ha => ?_, by decide⟩, fun c hc => ?_, fun ls hl x hx => ?_, fun a ha => ?_⟩
  · simp only [bufF, List.mem_cons, List.not_mem_nil, or_false] at ha
    rcases ha with rfl | rfl
    · exact ⟨by decide, inR0⟩
    · exact ⟨by decide, inR1⟩
  · simp only [bufF, List.mem_cons, List.not_mem_nil, or_false] at hc
    subst hc; exact inR0
  · simp only [bufF, List.mem_cons, List.not_mem_nil, or_false] at hl
    rcases hl with rfl | rfl
    · simp only [List.mem_cons, List.not_mem_nil, or_false] at hx
      rcases hx with rfl | rfl
      · exact ⟨by decide, inR1⟩
      · exact ⟨by decide, inR0⟩
    · simp only [List.mem_cons, List.not_mem_nil, or_false] at hx
      rcases hx with rfl | rfl
      · exact ⟨by decide, inR1⟩
      · exact ⟨by decide, inR0⟩
  · simp only [bufF, List.mem_cons, List.not_mem_nil, or_false] at ha
    rcases ha with rfl | rfl
    · exact ⟨by decide, inR0⟩
    · exact ⟨by decide, inR0⟩
theorem zeroF_p : FlP zeroF := ⟨⟨by decide, by decide, by decide, fun a ha => (by cases ha), by decide⟩, fun a ha => (by cases ha), fun a ha => (by cases ha), fun a ha => (by cases ha)⟩
theorem zero_fl (B : Nat) (W : World) : FlV B W (.agg #[.string ⟨#[]⟩, .slice none 0 0, .slice none 0 0, .bool false, .slice none 0 0]) zeroF :=
  ⟨.slice none 0 0, .slice none 0 0, .slice none 0 0, rfl, ⟨none, 0, rfl, Nat.le_refl _, by decide, fun h => absurd h (by decide)⟩, ⟨none, 0, rfl, Nat.le_refl _, by decide, fun h => absurd h (by decide)⟩, ⟨none, 0, rfl, Nat.le_refl _, by decide, fun h => absurd h (by decide)⟩⟩
theorem buf_print : printL bufF = [120, 56, 54, 32, 115, 98, 10, 105, 110, 105, 116, 32, 120, 32, 48, 10, 116, 104, 114, 101, 97, 100, 10, 109, 111, 118, 32, 91, 120, 93, 32, 49, 10, 109, 111, 118, 32, 101, 97, 120, 32, 91, 121, 93, 10, 116, 104, 114, 101, 97, 100, 10, 109, 111, 118, 32, 91, 121, 93, 32, 49, 10, 109, 111, 118, 32, 101, 97, 120, 32, 91, 120, 93, 10, 101, 120, 105, 115, 116, 115, 32, 48, 58, 101, 97, 120, 61, 48, 32, 49, 58, 101, 97, 120, 61, 48, 10] := by decide +kernel
theorem zero_print : printL zeroF = [] := by decide +kernel
def putL : OpsM.Ln := ⟨4, [], [120], [], -5⟩
def nilL : OpsM.Ln := ⟨0, [], [], [], 0⟩
theorem put_line : lineS putL = [109, 111, 118, 32, 91, 120, 93, 32, 45, 53] := by decide +kernel
theorem nil_line : lineS nilL = [] := by decide +kernel
set_option maxHeartbeats 4000000 in
set_option maxRecDepth 100000 in
theorem shead_any (w : World) (hr : Regs w) (hg : EA.ErrG w) : Calls Tryz.prog 9 #[] w fun e w' => e = .returned (.bool true) ∧ Below w.heap.size w w' := by
  have HR := Lib.hid hr
  have HG := Lib.hid hg
  have HBU := Lib.hid (buffering_any w)
  have HPR := Lib.hid (fun (W : World) (v : Value) (F : Fl) (hW : Below w.heap.size w W) (hv : FlV W.heap.size W v F) (hp : FlP F) => print_any W (HR.out.below hW) (HG.out.below hW) hv (Nat.le_refl _) hp)
  have HLN := Lib.hid (fun (W : World) (x : OpsM.Ln) (hW : Below w.heap.size w W) (hx : LnSm x) => sline_any x W (HR.out.below hW) hx)
  clear hr hg
  go_enter Tryz.func9, Tryz.ntmps9
  go_wp2_with fail
  refine HBU.out.mono ?_
  rintro e w1 ⟨rfl, hM1, hB1⟩
  have HP1 := Lib.hid (HPR.out w1 _ bufF hB1 hM1.fl bufF_p)
  rw [buf_print] at HP1
  clear hM1 HBU
  go_wp2_with fail
  refine HP1.out.mono ?_
  rintro e w2 ⟨rfl, hb2⟩
  have hB2 := chain hB1 hb2
  have HP2 := Lib.hid (HPR.out w2 _ zeroF hB2 (zero_fl _ _) zeroF_p)
  rw [zero_print] at HP2
  clear HP1 hb2 hB1
  go_wp2_with fail
  refine HP2.out.mono ?_
  rintro e w3 ⟨rfl, hb3⟩
  have hB3 := chain hB2 hb3
  have HL3 := Lib.hid (HLN.out w3 putL hB3 ⟨by decide, (show NumM.inR (-5) from by unfold NumM.inR; omega)⟩)
  rw [put_line] at HL3
  clear HP2 hb3 hB2
  go_wp2_with fail
  refine HL3.out.mono ?_
  rintro e w4 ⟨rfl, hb4⟩
  have hB4 := chain hB3 hb4
  have HL4 := Lib.hid (HLN.out w4 nilL hB4 ⟨by decide, inR0⟩)
  rw [nil_line] at HL4
  clear HL3 hb4 hB3
  go_wp2_with fail
  refine HL4.out.mono ?_
  rintro e w5 ⟨rfl, hb5⟩
  have hB5 := chain hB4 hb5
  clear HL4 hb5 hB4
  go_wp2
  go_ret
  exact ⟨rfl, hB5⟩
end Go.Proofs.YtkkjodjachbifaaGreatDoor
