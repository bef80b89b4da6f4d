/-
  SMALL FACTS that many texts of the seat use. Of no function of the program.
  SMALL FACTS on boxes: a struct's memory behind calls that make memory alone. Of no function of the program.
  SLICES OF STRINGS: what it says that a value is a slice whose cells are given texts; what a call says that hands one back. Of no function of the program.
-/
import Derived.Test.YtaelfjphgdlbcaaGreatDoorRows
import Derived.WalkKit
import Derived.WalkSpells
import Derived.WalkLawsBesides
import Derived.Lib.Hide
import Derived.Lib.Strings
import Derived.Lib.Bytealg
import Derived.Laws.BytesArg
import Derived.Laws.Concat
import Derived.IntWalk
import Derived.OpenShut
import Derived.Deep.QuietTactic
import Derived.BigQuiet
import Derived.LoopTactic
import Derived.RegionTactic
import Derived.Maps.AppendAt
import Derived.Test.YtaelfjphgdlbcaaGreatDoorMath
import Derived.RangeFuncBox
namespace Go.Proofs.YtaelfjphgdlbcaaGreatDoor
open Go.RowKit
open WordM (L)
set_option linter.unusedVariables false
theorem beq_dec (a b : List UInt8) : (a == b) = decide (a = b) := by
  by_cases h : a = b <;> simp [h]
theorem take_snoc (s : ByteArray) (k : Nat) (h : k < s.size) : s.data.toList.take (k + 1) = s.data.toList.take k ++ [s[k]] := by
  rw [List.take_succ_eq_append_getElem (by simpa using h)]; rfl
theorem drop_at (s : ByteArray) (k : Nat) (h : k < s.size) : s.data.toList.drop k = s[k] :: s.data.toList.drop (k + 1) := by
  rw [List.drop_eq_getElem_cons (by simpa using h)]; rfl
theorem u8_beq (x c : UInt8) : ((x.toNat : Int) == (c.toNat : Int)) = decide (x = c) := by
  by_cases h : x = c
  · subst h; simp
  · rw [decide_eq_false h, beq_eq_false_iff_ne]
    intro e
    exact h (UInt8.toNat_inj.1 (by omega))
theorem ret_int {k : IntKind} {a b : Int} (h : a = b) : Ending.returned (.int k a) = .returned (.int k b) := by rw [h]
theorem nil_cat (l : List UInt8) : (⟨#[]⟩ : ByteArray) ++ ⟨l.toArray⟩ = ⟨l.toArray⟩ := by
  apply ByteArray.ext
  rw [ByteArray.data_append]
  simp
theorem conv_one (P : Program) (src e dst : TypeId) (hs : P.underlying src = some (.slice e)) (he : P.underlying e = some (.int .u8)) (hd : P.underlying dst = some .string) (b : UInt8) (W : World) (te : TypeId) :
    (convert src dst (.slice (some ⟨W.heap.size, 0, none⟩) 1 1)).run P (W.alloc (.cells #[.int .u8 (b.toNat : Int)] te)) = .ok (.string ⟨#[b]⟩) (W.alloc (.cells #[.int .u8 (b.toNat : Int)] te)) := by
  have := run_convert_bytes_arg (P := P) (W.alloc (.cells #[.int .u8 (b.toNat : Int)] te)) src e hs he W.heap.size 0 1 1 [(b.toNat : Int)] rfl (fun i hi => by
    obtain rfl : i = 0 := by omega
    rw [World.cell?_alloc_at _ _ _ _ rfl]
    rfl) dst hd
  rw [this]
  congr 2
  unfold strOfNums
  simp
theorem conv_one' (P : Program) (src e dst : TypeId) (hs : P.underlying src = some (.slice e)) (he : P.underlying e = some (.int .u8)) (hd : P.underlying dst = some .string) (b : UInt8) (X : Int) (hX : X = (b.toNat : Int)) (te : TypeId) (W : World) :
    (convert src dst (.slice (some ⟨W.heap.size, 0, none⟩) 1 1)).run P (W.alloc (.cells #[.int .u8 X] te)) = .ok (.string ⟨#[b]⟩) (W.alloc (.cells #[.int .u8 X] te)) := by
  subst hX
  exact conv_one P src e dst hs he hd b W te
theorem one_cat (b : UInt8) (l : List UInt8) : (⟨#[b]⟩ : ByteArray) ++ ⟨l.toArray⟩ = ⟨(b :: l).toArray⟩ := rfl
theorem first_byte (s : ByteArray) (h : 0 < s.size) : s.data.toList.head? = some s[0] := by
  have : s.data.toList[0]? = some s[0] := by
    rw [List.getElem?_eq_getElem (by rw [← Lib.size_eq]; exact h)]; rfl
  rw [← this]; exact List.head?_eq_getElem?
theorem take_full (s : ByteArray) : s.data.toList.take s.size = s.data.toList := List.take_of_length_le (by rw [← Lib.size_eq]; exact Nat.le_refl _)
theorem cat_one (l : ByteArray) (b : UInt8) : (l ++ (⟨#[b]⟩ : ByteArray)).data.toList = l.data.toList ++ [b] := by
  rw [ByteArray.data_append]
  simp
theorem cat_one_size (l : ByteArray) (b : UInt8) : (l ++ (⟨#[b]⟩ : ByteArray)).size = l.size + 1 := by
  rw [Lib.size_eq, cat_one, Lib.size_eq]; simp
theorem inR_wf {n : Int} (h : (Lit.int .i64 n).wf = true) : NumM.inR n := bounds_i64 h
theorem head_at (s : ByteArray) (h : 0 < s.size) : s.data.toList.headD 0 = s[0] := by
  have : s.data.toList[0]? = some s[0] := by
    rw [List.getElem?_eq_getElem (by rw [← Lib.size_eq]; exact h)]; rfl
  rw [List.headD_eq_head?_getD, List.head?_eq_getElem?, this]; rfl
theorem strq (s : ByteArray) (l : L) (b : Bool) (h : decide (s.data.toList = l) = b) : (s.toList == l) = b ∧ (l == s.toList) = b := by
  rw [Lib.toList_data, beq_dec, beq_dec, h]
  refine ⟨rfl, ?_⟩
  rw [← h]; congr 1; exact propext ⟨Eq.symm, Eq.symm⟩
theorem chain {w a b : World} (h : Below w.heap.size w a) (k : Below a.heap.size a b) : Below w.heap.size w b := h.trans (k.mono h.size)
theorem below_drewN {B : Nat} {a w : World} (h : Below B a w) (n : Nat) : Below B a (w.drewN n) := ⟨h.os, h.tape, h.output, h.size, h.block⟩
end Go.Proofs.YtaelfjphgdlbcaaGreatDoor
namespace Go.Proofs.YtaelfjphgdlbcaaGreatDoor
open Go.RowKit
set_option linter.unusedVariables false
/-- What a box had when it was made it has behind calls that make memory alone. -/
theorem kept_box {w w1 : World} {cs : Array Value} {T : TypeId} (hB : Below (w.alloc (.cells cs T)).heap.size (w.alloc (.cells cs T)) w1) (i : Nat) {v : Value} (h : cs[i]? = some v) :
    w1.cell? ⟨w.heap.size, i, none⟩ = some v ∧ w1.frozen? ⟨w.heap.size, i, none⟩ = false := by
  refine ⟨(hB.cell (p := ⟨w.heap.size, i, none⟩) (by simp)).trans ?_, (hB.frozen (p := ⟨w.heap.size, i, none⟩) (by simp)).trans ?_⟩
  · rw [World.cell?_alloc_at _ _ _ _ rfl]; exact h
  · rw [World.frozen?_alloc_at _ _ _ _ rfl]
theorem kept_boxd {w w1 : World} {cs : Array Value} {T : TypeId} (hB : Below (w.alloc (.cells cs T)).drew.heap.size (w.alloc (.cells cs T)).drew w1) (i : Nat) {v : Value} (h : cs[i]? = some v) :
    w1.cell? ⟨w.heap.size, i, none⟩ = some v ∧ w1.frozen? ⟨w.heap.size, i, none⟩ = false := by
  refine ⟨(hB.cell (p := ⟨w.heap.size, i, none⟩) (by simp)).trans ?_, (hB.frozen (p := ⟨w.heap.size, i, none⟩) (by simp)).trans ?_⟩
  · show (w.alloc (.cells cs T)).cell? _ = _
    rw [World.cell?_alloc_at _ _ _ _ rfl]; exact h
  · show (w.alloc (.cells cs T)).frozen? _ = _
    rw [World.frozen?_alloc_at _ _ _ _ rfl]
theorem box_lt {w w1 : World} {o : Obj} (hB : Below (w.alloc o).heap.size (w.alloc o) w1) : w.heap.size < w1.heap.size := by
  have := hB.size; simp at this; exact this
theorem box_below {w w1 : World} {o : Obj} (hB : Below (w.alloc o).heap.size (w.alloc o) w1) : Below w.heap.size w w1 :=
  ((Below.refl _ _).alloc (Nat.le_refl _) _).trans (hB.mono (by simp))
theorem lt_of_cell {W : World} {g i : Nat} {v : Value} (h : W.cell? ⟨g, i, none⟩ = some v) : g < W.heap.size := by
  rcases Nat.lt_or_ge g W.heap.size with k | k
  · exact k
  · simp [World.cell?, Array.getElem?_eq_none k] at h
/-- Two cells that are held, behind a call that makes memory. -/
theorem held_below2 {W w' : World} {g i j : Nat} {x y : Value} (hB : Below W.heap.size W w') (h : W.cell? ⟨g, i, none⟩ = some x ∧ W.cell? ⟨g, j, none⟩ = some y) :
    w'.cell? ⟨g, i, none⟩ = some x ∧ w'.cell? ⟨g, j, none⟩ = some y :=
  ⟨(hB.cell (p := ⟨g, i, none⟩) (lt_of_cell h.1)).trans h.1, (hB.cell (p := ⟨g, j, none⟩) (lt_of_cell h.1)).trans h.2⟩

theorem held_set2 {W : World} {b g i j n : Nat} {v x y : Value} (hne : g ≠ b) (h : W.cell? ⟨g, i, none⟩ = some x ∧ W.cell? ⟨g, j, none⟩ = some y) :
    (W.setCell ⟨b, n, none⟩ v).cell? ⟨g, i, none⟩ = some x ∧ (W.setCell ⟨b, n, none⟩ v).cell? ⟨g, j, none⟩ = some y :=
  ⟨(World.cell?_setCell_other _ _ _ _ (fun e => hne (by injection e with e _; exact e.symm))).trans h.1, (World.cell?_setCell_other _ _ _ _ (fun e => hne (by injection e with e _; exact e.symm))).trans h.2⟩
theorem held_below3 {W w' : World} {g i j k : Nat} {x y z : Value} (hB : Below W.heap.size W w') (h : W.cell? ⟨g, i, none⟩ = some x ∧ W.cell? ⟨g, j, none⟩ = some y ∧ W.cell? ⟨g, k, none⟩ = some z) :
    w'.cell? ⟨g, i, none⟩ = some x ∧ w'.cell? ⟨g, j, none⟩ = some y ∧ w'.cell? ⟨g, k, none⟩ = some z :=
  ⟨(hB.cell (p := ⟨g, i, none⟩) (lt_of_cell h.1)).trans h.1, held_below2 hB h.2⟩
theorem held_set3 {W : World} {b g i j k n : Nat} {v x y z : Value} (hne : g ≠ b) (h : W.cell? ⟨g, i, none⟩ = some x ∧ W.cell? ⟨g, j, none⟩ = some y ∧ W.cell? ⟨g, k, none⟩ = some z) :
    (W.setCell ⟨b, n, none⟩ v).cell? ⟨g, i, none⟩ = some x ∧ (W.setCell ⟨b, n, none⟩ v).cell? ⟨g, j, none⟩ = some y ∧ (W.setCell ⟨b, n, none⟩ v).cell? ⟨g, k, none⟩ = some z :=
  ⟨(World.cell?_setCell_other _ _ _ _ (fun e => hne (by injection e with e _; exact e.symm))).trans h.1, held_set2 hne h.2⟩
theorem below_box {w w' : World} {o : Obj} (hB : Below (w.alloc o).drew.heap.size (w.alloc o).drew w') : Below w.heap.size w w' :=
  (below_drewN ((Below.refl w.heap.size w).alloc (Nat.le_refl _) o) 1).trans (hB.mono (by simp))
theorem box_ltd {w w1 : World} {o : Obj} (hB : Below (w.alloc o).drew.heap.size (w.alloc o).drew w1) : w.heap.size < w1.heap.size := by
  have := hB.size; simp at this; exact this
end Go.Proofs.YtaelfjphgdlbcaaGreatDoor
namespace Go.Proofs.YtaelfjphgdlbcaaGreatDoor
open Go.RowKit
set_option linter.unusedVariables false
open WordM (L)

/-- A text as a value. -/
def sv (l : L) : Value := .string ⟨l.toArray⟩
def svs (ls : List L) : List Value := ls.map sv
theorem str_eta (s : ByteArray) : (⟨s.data.toList.toArray⟩ : ByteArray) = s := rfl
theorem sv_data (s : ByteArray) : sv s.data.toList = .string s := rfl
theorem svs_len (ls : List L) : (svs ls).length = ls.length := by simp [svs]
theorem svs_snoc (ls : List L) (l : L) : svs (ls ++ [l]) = svs ls ++ [sv l] := by simp [svs]
theorem svs_app (a b : List L) : svs (a ++ b) = svs a ++ svs b := by simp [svs]

/-- The value v is a slice that reads as the texts ls, in a block below B. -/
def Strs (B : Nat) (w : World) (v : Value) (ls : List L) : Prop :=
  ∃ A c, v = .slice A ls.length c ∧ ls.length ≤ c ∧ c ≤ maxLen ∧
    (0 < ls.length → ∃ b f, A = some ⟨b, f, none⟩ ∧ b < B ∧ ∀ j (h : j < ls.length), w.cell? ⟨b, f + j, none⟩ = some (sv ls[j]))

theorem strs_below {B : Nat} {w w' : World} {v : Value} {ls : List L} (h : Strs B w v ls) (hb : Below B w w') : Strs B w' v ls := by
  obtain ⟨A, c, e, h1, h2, h3⟩ := h
  refine ⟨A, c, e, h1, h2, fun k => ?_⟩
  obtain ⟨b, f, e2, h4, h5⟩ := h3 k
  exact ⟨b, f, e2, h4, fun j hj => (hb.cell (p := ⟨b, f + j, none⟩) h4).trans (h5 j hj)⟩
theorem strs_more {B B' : Nat} {w : World} {v : Value} {ls : List L} (h : Strs B w v ls) (hb : B ≤ B') : Strs B' w v ls := by
  obtain ⟨A, c, e, h1, h2, h3⟩ := h
  refine ⟨A, c, e, h1, h2, fun k => ?_⟩
  obtain ⟨b, f, e2, h4, h5⟩ := h3 k
  exact ⟨b, f, e2, by omega, h5⟩
theorem strs_own {base T : Nat} {w : World} {v : Value} {ls : List L} (h : w.ownsRow base T 1 v ls.length (svs ls)) : Strs w.heap.size w v ls := by
  obtain ⟨h0, h⟩ := h
  rcases h with ⟨rfl, h1⟩ | ⟨g, cap, cur, rfl, h2, h3, h4, h5, h6, h7⟩
  · refine ⟨none, 0, by rw [h1], by omega, by unfold maxLen; omega, fun k => by omega⟩
  · refine ⟨_, cap, rfl, h4, h5, fun k => ⟨g, 0, rfl, (Array.getElem?_eq_some_iff.1 h3).1, fun j hj => ?_⟩⟩
    rw [Nat.zero_add]
    have : w.cell? ⟨g, j, none⟩ = cur[j]? := by simp [World.cell?, h3]
    rw [this]
    have e : (svs ls)[j]? = some (sv ls[j]) := by simp [svs, hj]
    rw [← h7, List.getElem?_take_of_lt (by omega), Array.getElem?_toList] at e
    exact e
/-- What a slice owns it owns on, while nothing below its block's bound turns. -/
theorem own_below {base e size n : Nat} {w w' : World} {v : Value} {xs : List Value} (h : w.ownsRow base e size v n xs) (hb : Below w.heap.size w w') : w'.ownsRow base e size v n xs :=
  h.kept (row := none) ⟨hb.os, hb.tape, hb.output, hb.size, fun k hk _ => hb.block k hk⟩ (by
    rcases h.2 with ⟨rfl, _⟩ | ⟨g, cap, cur, rfl, _⟩
    · exact .inl rfl
    · right; simp [Value.ownBlock])
theorem own_base {base base' e size n : Nat} {w : World} {v : Value} {xs : List Value} (h : w.ownsRow base e size v n xs) (hb : base' ≤ base) : w.ownsRow base' e size v n xs := by
  obtain ⟨h0, h⟩ := h
  refine ⟨h0, ?_⟩
  rcases h with h | ⟨g, cap, cur, h1, h2, h3⟩
  · exact .inl h
  · exact .inr ⟨g, cap, cur, h1, by omega, h3⟩

/-- What a call says that hands back a slice of the texts ls, in memory of its own. -/
def RetStrs (ls : List L) (w : World) (e : Ending) (w' : World) : Prop :=
  ∃ v, e = .returned v ∧ w'.ownsRow w.heap.size 9 1 v ls.length (svs ls) ∧ Below w.heap.size w w'

theorem own_drewN {base e size n : Nat} {w : World} {v : Value} {xs : List Value} (h : w.ownsRow base e size v n xs) (k : Nat) : (w.drewN k).ownsRow base e size v n xs := h
/-- Behind an append onto what the call itself made: all that lay below stays. -/
theorem below_append {B base e size n : Nat} {W0 W w1 : World} {v : Value} {xs : List Value} (hB : Below B W0 W) (hown : W.ownsRow base e size v n xs) (hbb : B ≤ base) (hs : B ≤ W.heap.size) (hg : W.grownBy w1 v.ownBlock) : Below B W0 w1 := by
  refine hB.grown hg hs fun j ej => ?_
  have := hown.lt j ej
  omega
theorem info_string : (Tryz.prog.info? 9).map (fun i => (i.zero, i.size, i.bytes)) = some (some (.string ⟨#[]⟩), 1, 16) := by kernel_rfl
end Go.Proofs.YtaelfjphgdlbcaaGreatDoor
