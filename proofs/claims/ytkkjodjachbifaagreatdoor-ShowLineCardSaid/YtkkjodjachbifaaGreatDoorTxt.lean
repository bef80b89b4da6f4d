/-
  A strings.Builder INSIDE A STRUCT OF THE PROGRAM's (show.text): what is written to it, and what is read.
  strings.Join AT A BLANK, at the program; a text that is written on, and kept.
  (*show.text).line: words, with blanks between and a line feed behind, are put to a text.
-/
import Derived.Test.YtkkjodjachbifaaGreatDoorShelf2
import Derived.Shelf.Strings.BuilderF
import Derived.Test.YtkkjodjachbifaaGreatDoorStrs
import Derived.Deep.RegionHeld3
namespace Go.Proofs.YtkkjodjachbifaaGreatDoor
open Go.RowKit Go.Shelf
set_option linter.unusedVariables false
set_option linter.unusedSimpArgs false
open WordM (L)

/-- A text in a block b of the call's own, from B on, that holds bs. -/
def TxAt (B b : Nat) (p : Value) (bs : List Value) (w : World) : Prop := Lib.BuilderAtF 60 5 B b p bs w
def IsTx (B b : Nat) (bs : List Value) (w : World) : Prop := Lib.IsBuilderF 60 5 B b bs w
/-- Blocks of another type than bytes, but the text's own, stay. -/
def KeptT (b : Nat) (w w' : World) : Prop := ∀ g cs T fr, w.heap[g]? = some (.cells cs T fr) → T ≠ 5 → g ≠ b → w'.heap[g]? = w.heap[g]?
theorem KeptT.refl (b : Nat) (w : World) : KeptT b w w := fun _ _ _ _ _ _ _ => rfl
theorem KeptT.trans {b : Nat} {w a c : World} (h : KeptT b w a) (k : KeptT b a c) : KeptT b w c := fun g cs T fr h1 h2 h3 => by
  have e := h g cs T fr h1 h2 h3
  exact (k g cs T fr (e.trans h1) h2 h3).trans e
theorem KeptT.set {b i : Nat} {u : Value} (w : World) : KeptT b w (w.setCell ⟨b, i, none⟩ u) := fun g cs T fr h1 h2 h3 => heap_setCell_other w ⟨b, i, none⟩ g u h3
theorem KeptT.of {b : Nat} {w w' : World} (h : Below w.heap.size w w') : KeptT b w w' := fun g cs T fr h1 h2 h3 => h.block g (Array.getElem?_eq_some_iff.1 h1).1
theorem KeptT.cell {b : Nat} {w w' : World} (h : KeptT b w w') {g : Nat} {cs : Array Value} {T : TypeId} {fr : Nat × Nat} (h1 : w.heap[g]? = some (.cells cs T fr)) (h2 : T ≠ 5) (h3 : g ≠ b) : w'.heap[g]? = some (.cells cs T fr) := (h g cs T fr h1 h2 h3).trans h1
theorem tx_lies : liesAt Tryz.prog Tryz.prog.depth 60 (2 / Tryz.prog.cellsOf 60) 0 58 1 = true := by kernel_rfl
theorem tx_size : (Tryz.prog.info? 58).map (·.size) = some 2 := by kernel_rfl
theorem info_byte : (Tryz.prog.info? 5).map (fun i => (i.zero, i.size, i.bytes)) = some (some (.int .u8 0), 1, 1) := by kernel_rfl
theorem cells_byte : Tryz.prog.cellsOf 5 = 1 := by kernel_rfl
set_option maxHeartbeats 1000000 in
set_option maxRecDepth 100000 in
theorem bcheck_used (b : Nat) (w : World) (h0 : w.cell? ⟨b, 0, none⟩ = some (.pointer (some ⟨b, 0, none⟩))) :
    Calls Tryz.prog 61 #[.pointer (some ⟨b, 0, none⟩)] w fun e w' => e = .returned (.tuple #[]) ∧ w' = w := by
  obtain ⟨j, hj, _⟩ := Option.map_eq_some_iff.1 tx_size
  go_enter Tryz.func61, Tryz.ntmps61
  go_wp2
  rw [Lib.run_neq_ptr_same w _ Tryz.underlying55 hj]
  go_wp2
  go_end0
  exact ⟨rfl, rfl⟩
set_option maxHeartbeats 1000000 in
set_option maxRecDepth 100000 in
theorem bcheck_fresh (b : Nat) (w : World) (h0 : w.cell? ⟨b, 0, none⟩ = some (.pointer none)) (hsh : w.shape? b = some (60, 2)) (hfz : w.frozen? ⟨b, 0, none⟩ = false) :
    Calls Tryz.prog 61 #[.pointer (some ⟨b, 0, none⟩)] w fun e w' => e = .returned (.tuple #[]) ∧ w' = w.setCell ⟨b, 0, none⟩ (.pointer (some ⟨b, 0, none⟩)) := by
  obtain ⟨j, hj, hjs⟩ := Option.map_eq_some_iff.1 tx_size
  go_enter Tryz.func61, Tryz.ntmps61
  go_wp2
  rw [Lib.run_to_unsafe w ⟨b, 0, none⟩ Tryz.underlying55 Tryz.underlying136 hj (by rw [hjs]; decide) hsh (Nat.zero_lt_succ 1)]
  simp only [Result.andThen]
  rw [Oper.upon_value]
  go_wp2
  rw [run_callFunc_extern Tryz.func78 (by kernel_rfl) (by kernel_rfl) (by kernel_rfl) (e := Extern.AbiNoEscape.same) (by kernel_rfl)]
  rw [Lib.run_noEscape]
  simp only [Result.andThen]
  rw [Oper.upon_value]
  go_wp2
  rw [Lib.run_from_unsafe w ⟨b, 0, none⟩ Tryz.underlying136 Tryz.underlying55 hj hsh tx_lies]
  simp only [Result.andThen]
  rw [Oper.upon_value]
  go_wp2
  go_end0
  exact ⟨rfl, rfl⟩
theorem bcheck_any (B b : Nat) (bs : List Value) (w : World) (h : IsTx B b bs w) :
    Calls Tryz.prog 61 #[.pointer (some ⟨b, 0, none⟩)] w fun e w' => e = .returned (.tuple #[]) ∧ (TxAt B b (.pointer (some ⟨b, 0, none⟩)) bs w' ∧ Below B w w' ∧ KeptT b w w') := by
  rcases h with h | h
  · refine (bcheck_fresh b w h.cell0 h.shape h.frozen0).mono ?_
    rintro e w' ⟨rfl, rfl⟩
    exact ⟨rfl, h.used _, (Below.refl B w).setCell (p := ⟨b, 0, none⟩) h.1 _, KeptT.set w⟩
  · refine (bcheck_used b w h.cell0).mono ?_
    rintro e w' ⟨rfl, rfl⟩
    exact ⟨rfl, h, Below.refl B _, KeptT.refl b _⟩
set_option maxHeartbeats 2000000 in
set_option maxRecDepth 100000 in
theorem bput_any (B b : Nat) (bs : List Value) (s : ByteArray) (w : World) (h : IsTx B b bs w) (hlen : bs.length + s.size ≤ 140737488355328) (hBw : B ≤ w.heap.size) :
    Calls Tryz.prog 46 #[.pointer (some ⟨b, 0, none⟩), .string s] w fun e w' => e = .returned (.tuple #[.int .i64 s.size, .nilIface]) ∧ (TxAt B b (.pointer (some ⟨b, 0, none⟩)) (bs ++ Lib.strCells s) w' ∧ Below B w w' ∧ KeptT b w w') := by
  obtain ⟨i0, hi, hz0, hz1, hz2⟩ := info_parts info_byte
  have HC := Lib.hid (bcheck_any B b bs w h)
  clear h
  go_enter Tryz.func46, Tryz.ntmps46
  go_wp2_with (go_at_call 61; refine HC.out.mono ?_)
  rintro e w1 ⟨rfl, h1, hb1, hk1⟩
  obtain ⟨hB, v, hbk, hown, hne⟩ := h1
  have c0 : w1.cell? ⟨b, 0, none⟩ = some (.pointer (some ⟨b, 0, none⟩)) := by rw [Lib.cell_of_heap hbk]; rfl
  have c1 : w1.cell? ⟨b, 1, none⟩ = some v := by rw [Lib.cell_of_heap hbk]; rfl
  have hs1 := hb1.size
  go_wp2_with (at_builtin; refine Lib.wpList_append_own_stringF _ rfl _ _ 56 9 rfl B 5 i0 Tryz.underlying56 Tryz.underlying9 hi hz0 hz1 hz2 _ _ _ rfl hown s rfl ?c3 ?c4 ?c5 ?_)
  case c3 => unfold maxLen; omega
  case c4 => omega
  case c5 => omega
  intro v' w2 hown' hgrow _
  have hlt : b < w1.heap.size := (Array.getElem?_eq_some_iff.1 hbk).1
  have hb2 : w2.heap[b]? = some (.cells #[.pointer (some ⟨b, 0, none⟩), v] 60 (0, 0)) := by
    rw [hgrow.block b hlt (fun e => hne e.symm)]
    exact hbk
  have d0 : w2.cell? ⟨b, 0, none⟩ = some (.pointer (some ⟨b, 0, none⟩)) := by rw [Lib.cell_of_heap hb2]; rfl
  have d1 : w2.cell? ⟨b, 1, none⟩ = some v := by rw [Lib.cell_of_heap hb2]; rfl
  have f1 : w2.frozen? ⟨b, 1, none⟩ = false := Lib.frozen_of_heap hb2 1
  have hk2 := Lib.hid (hk1.trans (show KeptT b w1 w2 from fun g cs T fr e1 e2 e3 => hgrow.block g (Array.getElem?_eq_some_iff.1 e1).1 (fun c => by
    rcases hown.2 with ⟨rfl, _⟩ | ⟨g', cap, cur, fz, rfl, _, hgg, _⟩
    · cases c
    · injection c with c
      have c2 : g = g' := c
      subst c2
      rw [hgg] at e1
      injection e1 with e1
      injection e1 with _ e4 _
      exact e2 e4.symm)))
  clear hk1
  obtain ⟨ao, n', cap, rfl⟩ : ∃ ao n' cap, v' = .slice ao n' cap := by
    rcases hown'.2 with ⟨hv, _⟩ | ⟨g, cap, cur, fz, hv, _⟩
    · exact ⟨_, _, _, hv⟩
    · exact ⟨_, _, _, hv⟩
  go_wp2
  go_ret2
  refine ⟨rfl, ?_, ?_, hk2.out.trans (KeptT.set w2)⟩
  · exact Lib.BuilderAtF.put (T := 60) (e := 5) hB hb2 (bs' := bs ++ Lib.strCells s) (by simpa [Lib.strCells_length] using hown') (by decide)
  · exact (hb1.grown hgrow (by omega) (fun k hk => (hown.lt k hk).1)).setCell (p := ⟨b, 1, none⟩) hB _
set_option maxHeartbeats 2000000 in
set_option maxRecDepth 100000 in
/-- What is read of a text that holds at least one byte. -/
theorem bread_any (B b : Nat) (l : L) (w : World) (h : IsTx B b (Lib.byteCells l) w) (h0 : l ≠ []) :
    Calls Tryz.prog 30 #[.pointer (some ⟨b, 0, none⟩)] w fun e w' => e = .returned (.string ⟨l.toArray⟩) ∧ Below B w w' := by
  obtain ⟨p, hAt⟩ : ∃ p, TxAt B b p (Lib.byteCells l) w := by
    rcases h with h | h
    · exact ⟨_, h⟩
    · exact ⟨_, h⟩
  obtain ⟨hB, v, hbk, hown, hne⟩ := hAt
  have hl0 : l.length ≠ 0 := by simpa using h0
  rw [Lib.byteCells_length] at hown
  obtain ⟨g, cap, cur, fz, rfl, hbg, hg, hfz, hnc, hcm, hcs, htake⟩ : ∃ g cap cur fz, v = .slice (some ⟨g, 0, none⟩) l.length cap ∧ B ≤ g ∧ w.heap[g]? = some (.cells cur 5 fz) ∧ fz.2 ≤ l.length * 1 ∧ l.length ≤ cap ∧ cap ≤ maxLen ∧ cur.size = cap * 1 ∧ cur.toList.take (l.length * 1) = Lib.byteCells l := by
    rcases hown.2 with ⟨_, hz⟩ | ⟨g, cap, cur, fz, hv, r⟩
    · exact absurd hz hl0
    · exact ⟨g, cap, cur, fz, hv, r⟩
  have c1 : w.drew.cell? ⟨b, 1, none⟩ = some (.slice (some ⟨g, 0, none⟩) l.length cap) := by
    have : w.drew.heap[b]? = some (.cells #[p, .slice (some ⟨g, 0, none⟩) l.length cap] 60 (0, 0)) := hbk
    rw [Lib.cell_of_heap this]; rfl
  have hSD : (Builtin.unsafeSliceData_ #[56] 91 #[.slice (some ⟨g, 0, none⟩) l.length cap]).run Tryz.prog w.drew = .ok (.pointer (some ⟨g, 0, none⟩)) w.drew :=
    Lib.run_unsafeSliceData_row _ _ _ _ _ _ (by omega)
  have hUS : (Builtin.unsafeString_ #[91, 3] 9 #[.pointer (some ⟨g, 0, none⟩), .int .i64 l.length]).run Tryz.prog w.drew = .ok (.string ⟨l.toArray⟩) (w.drew.freeze ⟨g, 0, none⟩ l.length) := by
    refine Lib.run_unsafeString_row w.drew 91 3 9 5 Tryz.underlying91 cells_byte g cur.size (by have hg' : w.drew.heap[g]? = some (.cells cur 5 fz) := hg; simp [World.shape?, hg']) l h0 (by omega) (by unfold maxLen at hcm; omega) ?_
    intro j x hx
    exact hown.cells (g := g) rfl j (.int .u8 x.toNat) (by simp [Lib.byteCells, hx])
  have mixed : Tryz.prog.follows .mixedOrders = true := by kernel_rfl
  clear h h0 hl0
  go_enter Tryz.func30, Tryz.ntmps30
  go_wp2
  go_region_o
  all_goals (go_wp2; go_ret; exact ⟨rfl, Lib.below_freeze (Below.drew (Below.refl B w)) (p := ⟨g, 0, none⟩) hbg _⟩)
end Go.Proofs.YtkkjodjachbifaaGreatDoor
namespace Go.Proofs.YtkkjodjachbifaaGreatDoor
open Go.RowKit Go.Shelf
set_option linter.unusedVariables false
set_option linter.unusedSimpArgs false
open WordM (L)

/-- Words, with one blank between. -/
def joinL (ls : List L) : L := Lib.join ls [32]
theorem join_extra : Builder.Extra Tryz.prog Tryz.lays156_ren where
  sizeBuilder := by kernel_rfl
  liesBuilder := by kernel_rfl
  t5 := Tryz.underlying5
  a5 := Tryz.isAgg5
  z5 := Tryz.sizeOf5
  v5 := Tryz.zeroValue5
  infoByte := by kernel_rfl
  cellsByte := by kernel_rfl
  sizeByte := by kernel_rfl
  neB5 := by decide
theorem joinL_cons (x : L) (r : List L) : joinL (x :: r) = x ++ (r.map (fun y => (32 : UInt8) :: y)).flatten := Lib.join_cons x r [32]
theorem joinL_len : ∀ (M : Nat) (ls : List L), (∀ l ∈ ls, l.length ≤ M) → (joinL ls).length ≤ ls.length * (M + 1)
  | M, [], _ => by simp [joinL, Lib.join_nil]
  | M, x :: r, h => by
    rw [joinL_cons, List.length_append]
    have h1 := h x (by simp)
    have h2 : ∀ (r : List L), (∀ l ∈ r, l.length ≤ M) → ((r.map (fun y => (32 : UInt8) :: y)).flatten).length ≤ r.length * (M + 1) := by
      intro r
      induction r with
      | nil => intro _; simp
      | cons y s ih =>
        intro hr
        have h3 := hr y (by simp)
        have h4 := ih (fun l hl => hr l (by simp [hl]))
        simp only [List.map_cons, List.flatten_cons, List.length_append, List.length_cons, Nat.succ_mul] at h4 ⊢
        omega
    have h3 := h2 r (fun l hl => h l (by simp [hl]))
    simp only [List.length_cons, Nat.succ_mul]
    omega
theorem join_any {B : Nat} {v : Value} {ls : List L} (w : World) (h : Strs B w v ls) (hBB : B ≤ w.heap.size) (hn : ls.length ≤ 1000000) (hm : ∀ l ∈ ls, l.length ≤ 100000) :
    Calls Tryz.prog 34 #[v, .string ⟨#[32]⟩] w fun e w' => e = .returned (.string ⟨(joinL ls).toArray⟩) ∧ Below w.heap.size w w' := by
  obtain ⟨A, c, rfl, h1, h2, h3⟩ := h
  have hl := joinL_len 100000 ls hm
  by_cases hz : ls.length = 0
  · have e : ls = [] := List.eq_nil_of_length_eq_zero hz
    subst e
    exact (Any.strings_Join_none Tryz.lays156 join_extra A c ⟨#[32]⟩ w).mono fun e w' ⟨he, hw⟩ => ⟨he, hw ▸ Below.refl _ _⟩
  · obtain ⟨b, f, rfl, hb, hc⟩ := h3 (by omega)
    have hmap : (ls.map (fun l : L => (⟨l.toArray⟩ : ByteArray))).map (·.data.toList) = ls := by
      rw [List.map_map]
      exact List.map_id ls
    have hlen : (ls.map (fun l : L => (⟨l.toArray⟩ : ByteArray))).length = ls.length := List.length_map _
    have hJ := Any.strings_Join Tryz.lays156 join_extra b f c (ls.map (fun l : L => (⟨l.toArray⟩ : ByteArray))) ⟨#[32]⟩ w (fun j x hx => by
      rw [List.getElem?_map] at hx
      obtain ⟨l, hl1, hl2⟩ := Option.map_eq_some_iff.1 hx
      obtain ⟨hj, hjl⟩ := List.getElem?_eq_some_iff.1 hl1
      rw [hc j hj, hjl, ← hl2]; rfl) (by omega) (by omega) (by rw [hlen]; exact h1) (by
        rw [hmap]
        show (joinL ls).length ≤ _
        omega)
    rw [hmap, hlen] at hJ
    exact hJ
theorem TxAt.below {B b : Nat} {p : Value} {bs : List Value} {w w' : World} (h : TxAt B b p bs w) (hb : Below w.heap.size w w') : TxAt B b p bs w' := by
  obtain ⟨hB, v, hbk, hown, hne⟩ := h
  have hlt : b < w.heap.size := (Array.getElem?_eq_some_iff.1 hbk).1
  exact ⟨hB, v, (hb.block b hlt).trans hbk, hown.kept (row := none) ⟨hb.os, hb.tape, hb.output, hb.size, fun k hk _ => hb.block k hk⟩ (by
    rcases hown.2 with ⟨rfl, _⟩ | ⟨g, cap, cur, fz, rfl, _⟩
    · exact .inl rfl
    · right; simp [Value.ownBlock]), hne⟩
theorem IsTx.below {B b : Nat} {bs : List Value} {w w' : World} (h : IsTx B b bs w) (hb : Below w.heap.size w w') : IsTx B b bs w' :=
  h.elim (fun x => Or.inl (TxAt.below x hb)) (fun x => Or.inr (TxAt.below x hb))
theorem IsTx.lt {B b : Nat} {bs : List Value} {w : World} (h : IsTx B b bs w) : B ≤ b ∧ b < w.heap.size := by
  rcases h with ⟨h1, v, h2, _⟩ | ⟨h1, v, h2, _⟩
  · exact ⟨h1, (Array.getElem?_eq_some_iff.1 h2).1⟩
  · exact ⟨h1, (Array.getElem?_eq_some_iff.1 h2).1⟩
theorem bytes_app (a b : L) : Lib.byteCells a ++ Lib.strCells ⟨b.toArray⟩ = Lib.byteCells (a ++ b) := by
  rw [Lib.strCells_eq]; simp [Lib.byteCells]
theorem put_l (B b : Nat) (l m : L) (w : World) (h : IsTx B b (Lib.byteCells l) w) (hlen : l.length + m.length ≤ 140737488355328) (hBw : B ≤ w.heap.size) :
    Calls Tryz.prog 46 #[.pointer (some ⟨b, 0, none⟩), .string ⟨m.toArray⟩] w fun e w' => e = .returned (.tuple #[.int .i64 (m.length : Nat), .nilIface]) ∧ IsTx B b (Lib.byteCells (l ++ m)) w' ∧ Below B w w' ∧ KeptT b w w' := by
  refine (bput_any B b (Lib.byteCells l) ⟨m.toArray⟩ w h (by rw [Lib.byteCells_length, Lib.size_eq]; exact hlen) hBw).mono fun e w' ⟨he, ht, hb, hk⟩ => ⟨?_, ?_, hb, hk⟩
  · rw [he, Lib.size_eq]
  · rw [bytes_app] at ht
    exact Or.inr ht
end Go.Proofs.YtkkjodjachbifaaGreatDoor
namespace Go.Proofs.YtkkjodjachbifaaGreatDoor
open Go.RowKit
set_option linter.unusedVariables false
set_option linter.unusedSimpArgs false
open WordM (L)

/-- A line of these words. -/
def lineTx (ls : List L) : L := joinL ls ++ [10]
theorem lineTx_len {M : Nat} {ls : List L} (h : ∀ l ∈ ls, l.length ≤ M) : (lineTx ls).length ≤ ls.length * (M + 1) + 1 := by
  unfold lineTx; rw [List.length_append]; have := joinL_len M ls h; simp only [List.length_cons, List.length_nil]; omega
set_option maxHeartbeats 2000000 in
set_option maxRecDepth 100000 in
theorem tline_any (B b : Nat) (l : L) {v : Value} {ls : List L} (w : World) (ht : IsTx B b (Lib.byteCells l) w) (hs : Strs w.heap.size w v ls) (hBw : B ≤ w.heap.size) (hn : ls.length ≤ 1000000) (hm : ∀ x ∈ ls, x.length ≤ 100000) (hl : l.length ≤ 10000000000000) :
    Calls Tryz.prog 26 #[.pointer (some ⟨b, 0, none⟩), v] w fun e w' => e = .returned (.tuple #[]) ∧ IsTx B b (Lib.byteCells (l ++ lineTx ls)) w' ∧ Below B w w' ∧ KeptT b w w' := by
  have hj := joinL_len 100000 ls hm
  have hd : Below w.heap.size w w.drew := below_drewN (Below.refl _ _) 1
  have HT := Lib.hid (show IsTx B b (Lib.byteCells l) w.drew from ht.below hd)
  have HS := Lib.hid (show Strs w.drew.heap.size w.drew v ls from strs_below hs hd)
  clear ht hs hd
  go_enter Tryz.func26, Tryz.ntmps26
  go_wp2_with fail
  refine wp_region_held_drew (S := (fun w' => Below B w w' ∧ KeptT b w w')) (by kernel_rfl) ⟨below_drewN (Below.refl _ _) 1, KeptT.of (below_drewN (Below.refl _ _) 1)⟩ (fun hHeld => ?_)
  refine wpAnyH_take (i := 0) (v := ?_) rfl (by kernel_rfl) (by kernel_rfl) (by kernel_rfl) (fun _ _ _ h => h) (Or.inl ⟨by rfl, ?_⟩) (by assumption) ?_
  rotate_left
  · intro w hSw; (try dsimp only at hSw); go_simp; (try with_reducible rfl)
  (try simp only [Act.put, List.getElem_toArray, List.getElem_cons_zero, List.getElem_cons_succ, Array.getInternal_eq_getElem, List.setIfInBounds_toArray, List.set_cons_zero, List.set_cons_succ])
  refine wpAnyH_take (i := 1) (v := ?_) rfl (by kernel_rfl) (by kernel_rfl) (by kernel_rfl) (fun _ _ _ h => h) (Or.inl ⟨by rfl, ?_⟩) (by assumption) ?_
  rotate_left
  · intro w hSw; (try dsimp only at hSw); go_simp; (try with_reducible rfl)
  (try simp only [Act.put, List.getElem_toArray, List.getElem_cons_zero, List.getElem_cons_succ, Array.getInternal_eq_getElem, List.setIfInBounds_toArray, List.set_cons_zero, List.set_cons_succ])
  refine wpAnyH_take (i := 2) (v := ?_) rfl (by kernel_rfl) (by kernel_rfl) (by kernel_rfl) (fun _ _ _ h => h) (Or.inl ⟨by rfl, ?_⟩) (by assumption) ?_
  rotate_left
  · intro w hSw; (try dsimp only at hSw); go_simp; (try with_reducible rfl)
  (try simp only [Act.put, List.getElem_toArray, List.getElem_cons_zero, List.getElem_cons_succ, Array.getInternal_eq_getElem, List.setIfInBounds_toArray, List.set_cons_zero, List.set_cons_succ])
  refine wpAnyH_take (i := 3) (v := ?_) rfl (by kernel_rfl) (by kernel_rfl) (by kernel_rfl) (fun _ _ _ h => h) (Or.inl ⟨by rfl, ?_⟩) (by assumption) ?_
  rotate_left
  · intro w hSw; (try dsimp only at hSw); go_simp; (try with_reducible rfl)
  (try simp only [Act.put, List.getElem_toArray, List.getElem_cons_zero, List.getElem_cons_succ, Array.getInternal_eq_getElem, List.setIfInBounds_toArray, List.set_cons_zero, List.set_cons_succ])
  refine wpAnyH_ready (rs := [4]) (by kernel_rfl) (by simp) ?_
  refine AllReadyH.cons rfl (fun K hK => ?_) AllReadyH.nil
  go_simp
  go_at_call 34
  refine (join_any _ HS.out (Nat.le_refl _) hn hm).mono ?_
  rintro e wa ⟨rfl, hba⟩
  have hta := HT.out.below hba
  have hsa : B ≤ wa.heap.size := Nat.le_trans hBw hba.size
  refine hK.out _ _ ⟨hHeld.1.trans (hba.mono hBw), hHeld.2.trans (KeptT.of hba)⟩ (fun hHeld => ?_)
  clear hK K
  (try simp only [Act.put, List.getElem_toArray, List.getElem_cons_zero, List.getElem_cons_succ, Array.getInternal_eq_getElem, List.setIfInBounds_toArray, List.set_cons_zero, List.set_cons_succ])
  refine wpAnyH_ready (rs := [5]) (by kernel_rfl) (by simp) ?_
  refine AllReadyH.cons rfl (fun K hK => ?_) AllReadyH.nil
  go_simp
  go_at_call 46
  refine (put_l B b l (joinL ls) _ hta (by omega) hsa).mono ?_
  rintro e wb ⟨rfl, htb, hbb, hkb⟩
  have hsb : B ≤ wb.heap.size := Nat.le_trans hsa hbb.size
  refine hK.out _ _ ⟨hHeld.1.trans hbb, hHeld.2.trans hkb⟩ (fun hHeld => ?_)
  clear hK K
  (try simp only [Act.put, List.getElem_toArray, List.getElem_cons_zero, List.getElem_cons_succ, Array.getInternal_eq_getElem, List.setIfInBounds_toArray, List.set_cons_zero, List.set_cons_succ])
  refine wpAnyH_done (by kernel_rfl) ?_ _
  go_wp2_with fail
  refine (put_l B b (l ++ joinL ls) [10] _ htb (by rw [List.length_append]; simp only [List.length_cons, List.length_nil]; omega) hsb).mono ?_
  rintro e wc ⟨rfl, htc, hbc, hkc⟩
  rw [List.append_assoc] at htc
  go_wp2
  go_end0
  exact ⟨rfl, htc, hHeld.1.trans hbc, hHeld.2.trans hkc⟩
end Go.Proofs.YtkkjodjachbifaaGreatDoor
