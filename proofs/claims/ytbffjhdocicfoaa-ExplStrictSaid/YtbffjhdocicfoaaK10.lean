/-
  A STATE'S NUMBERS, as mathematics: what they are, and what is got from numbers. (Ahead of layer 12.)
  A STATE'S KEY, as mathematics: its numbers' texts, with one blank between, and what is got from a text. (Ahead of layer 12.)
  A strings.Builder of its own: what is written to it, and what is read.
  num.Text and num.Get, over any world.
  A STABLE SORT, mathematics: ends with their places in the row; order by the end, then by the place; what is put in, what is merged, what is turned. Of no program.
  A STABLE SORT, mathematics, on: what is found by halving; a step up, a step down; the cut of two sorted rows; blocks. Of no program.
  A STABLE SORT, mathematics, the blocks: how parts that are sorted grow. Of no program.
  LAYER 11: Buffering as a code, in memory.
-/
import Derived.Test.YtbffjhdocicfoaaK04
import Derived.Test.YtbffjhdocicfoaaK00
import Derived.Shelf.Strings.BuilderF
import Derived.Test.YtbffjhdocicfoaaK01
import Derived.Test.YtbffjhdocicfoaaScP
import Derived.Deep.RegionHeld3
set_option linter.unusedVariables false
set_option linter.unusedSimpArgs false
namespace Go.Proofs.Ytbffjhdocicfoaa
set_option linter.unusedVariables false
set_option linter.unusedSimpArgs false
namespace EnM
open ScM (Th Sta)
open BfM (Wr)

/-- A count, and so many numbers. -/
def rowN (l : List Int) : List Int := (l.length : Int) :: l
/-- A buffer's numbers. -/
def wrN (b : List Wr) : List Int := b.flatMap fun w => [w.loc, w.n]
/-- A thread's. -/
def thN (t : Th) : List Int := t.at' :: (if t.eq then 1 else 0) :: (rowN t.regs ++ ((t.buf.length : Int) :: wrN t.buf))
/-- A state's. -/
def numsS (s : Sta) : List Int := rowN s.mem ++ ((s.ths.length : Int) :: s.ths.flatMap thN)

/-- A row is taken. -/
def tkRow : List Int → Option (List Int × List Int)
  | [] => none
  | n :: l => if 0 ≤ n ∧ n.toNat ≤ l.length then some (l.take n.toNat, l.drop n.toNat) else none
/-- So many writes are taken. -/
def tkWrs : Nat → List Int → Option (List Wr × List Int)
  | 0, l => some ([], l)
  | k + 1, a :: b :: l => match tkWrs k l with
    | some (q, r) => some (⟨a, b⟩ :: q, r)
    | none => none
  | _ + 1, _ => none
/-- A count of writes, and these. -/
def tkBuf : List Int → Option (List Wr × List Int)
  | [] => none
  | n :: l => if 0 ≤ n ∧ n.toNat ≤ l.length then tkWrs n.toNat l else none
/-- A thread is taken. -/
def tkTh : List Int → Option (Th × List Int)
  | a :: e :: l => if e = 0 ∨ e = 1 then
      match tkRow l with
      | some (rg, l1) => match tkBuf l1 with
        | some (b, r) => some (⟨a, rg, decide (e = 1), b⟩, r)
        | none => none
      | none => none
    else none
  | _ => none
/-- So many threads. -/
def tkThs : Nat → List Int → Option (List Th × List Int)
  | 0, l => some ([], l)
  | k + 1, l => match tkTh l with
    | some (t, l1) => match tkThs k l1 with
      | some (q, r) => some (t :: q, r)
      | none => none
    | none => none
/-- A state. -/
def tkS (l : List Int) : Option (Sta × List Int) :=
  match tkRow l with
  | some (m, l1) => match l1 with
    | n :: l2 => if 0 ≤ n ∧ n.toNat ≤ l2.length then
        match tkThs n.toNat l2 with
        | some (ts, r) => some (⟨m, ts⟩, r)
        | none => none
      else none
    | [] => none
  | none => none
/-- The state whose numbers these are. -/
def ofN (l : List Int) : Option Sta := match tkS l with
  | some (s, []) => some s
  | _ => none

theorem tkRow_ok (l r : List Int) : tkRow (rowN l ++ r) = some (l, r) := by
  simp [tkRow, rowN]
theorem wrN_len (b : List Wr) : (wrN b).length = 2 * b.length := by
  induction b with
  | nil => rfl
  | cons w b ih => simp only [wrN, List.flatMap_cons, List.length_append, List.length_cons, List.length_nil] at ih ⊢; omega
theorem tkWrs_ok (b : List Wr) (r : List Int) : tkWrs b.length (wrN b ++ r) = some (b, r) := by
  induction b with
  | nil => rfl
  | cons w b ih =>
    show tkWrs (b.length + 1) (w.loc :: w.n :: (wrN b ++ r)) = _
    simp only [tkWrs, ih]
theorem tkBuf_ok (b : List Wr) (r : List Int) : tkBuf ((b.length : Int) :: wrN b ++ r) = some (b, r) := by
  have : b.length ≤ (wrN b ++ r).length := by rw [List.length_append, wrN_len]; omega
  simp only [tkBuf, List.cons_append, Int.toNat_natCast]
  rw [if_pos ⟨Int.natCast_nonneg _, this⟩, tkWrs_ok]
theorem tkTh_ok (t : Th) (r : List Int) : tkTh (thN t ++ r) = some (t, r) := by
  obtain ⟨a, rg, e, b⟩ := t
  have h1 : tkRow (rowN rg ++ ((b.length : Int) :: wrN b) ++ r) = some (rg, ((b.length : Int) :: wrN b) ++ r) := by rw [List.append_assoc]; exact tkRow_ok _ _
  have h2 : thN ⟨a, rg, e, b⟩ ++ r = a :: (if e then 1 else 0) :: (rowN rg ++ ((b.length : Int) :: wrN b) ++ r) := rfl
  have h3 := tkBuf_ok b r
  rw [h2]
  simp only [tkTh, h1, h3]
  cases e <;> simp
theorem thN_pos (t : Th) : 1 ≤ (thN t).length := by simp [thN]
theorem ths_len (l : List Th) : l.length ≤ (l.flatMap thN).length := by
  induction l with
  | nil => simp
  | cons t l ih => have := thN_pos t; rw [List.flatMap_cons, List.length_append, List.length_cons]; omega
theorem tkThs_ok (l : List Th) (r : List Int) : tkThs l.length (l.flatMap thN ++ r) = some (l, r) := by
  induction l with
  | nil => rfl
  | cons t l ih =>
    show tkThs (l.length + 1) _ = _
    simp only [tkThs, List.flatMap_cons, List.append_assoc, tkTh_ok, ih]
theorem tkS_ok (s : Sta) (r : List Int) : tkS (numsS s ++ r) = some (s, r) := by
  obtain ⟨m, ts⟩ := s
  have h1 : tkRow (numsS ⟨m, ts⟩ ++ r) = some (m, ((ts.length : Int) :: ts.flatMap thN) ++ r) := by
    unfold numsS; rw [List.append_assoc]; exact tkRow_ok _ _
  have h2 : ts.length ≤ (ts.flatMap thN ++ r).length := by have := ths_len ts; rw [List.length_append]; omega
  simp only [tkS, h1, List.cons_append, Int.toNat_natCast]
  rw [if_pos ⟨Int.natCast_nonneg _, h2⟩, tkThs_ok]
theorem ofN_ok (s : Sta) : ofN (numsS s) = some s := by
  have := tkS_ok s []
  rw [List.append_nil] at this
  unfold ofN; rw [this]
/-- There are at least two. -/
theorem numsS_two (s : Sta) : 2 ≤ (numsS s).length := by
  simp only [numsS, rowN, List.length_append, List.length_cons]; omega
end EnM
end Go.Proofs.Ytbffjhdocicfoaa
namespace Go.Proofs.Ytbffjhdocicfoaa
set_option linter.unusedVariables false
set_option linter.unusedSimpArgs false
namespace EnM
open ScM (Th Sta)
open BfM (Wr)
open NumM (inR text get)
open WordM (words)
local notation "Tx" => List UInt8

/-- The texts of numbers, with one blank between. -/
def keyL : List Int → Tx
  | [] => []
  | [n] => text n
  | n :: m :: r => text n ++ 32 :: keyL (m :: r)
/-- A state's key. -/
def keyS (s : Sta) : Tx := keyL (numsS s)
/-- The numbers of a text's words. -/
def numsK (k : Tx) : List Int := (words k).map fun x => (get x).1
/-- The state whose key this is. -/
def readK (k : Tx) : Option Sta := match ofN (numsK k) with
  | some s => if keyS s = k then some s else none
  | none => none

theorem text_free (n : Int) (h : inR n) : (32 : UInt8) ∉ text n ∧ text n ≠ [] := by
  have hn : n.natAbs < 10 ^ 20 := Nat.lt_trans (NumM.natAbs_lt n h) (by decide)
  have hd : (32 : UInt8) ∉ NumM.digs n.natAbs := fun e => by
    have := (NumM.digs_digit _ hn _ e).1
    exact absurd this (by decide)
  have he := NumM.digs_ne _ hn
  unfold text
  split
  · refine ⟨fun e => ?_, fun e => by cases e⟩
    rcases List.mem_cons.1 e with e | e
    · exact absurd e (by decide)
    · exact hd e
  · exact ⟨hd, he⟩
theorem words_key : ∀ (l : List Int), (∀ n ∈ l, inR n) → words (keyL l) = l.map text
  | [], _ => by rfl
  | [n], h => by
    have := text_free n (h n List.mem_cons_self)
    exact WordM.words_one _ this.1 this.2
  | n :: m :: r, h => by
    have h1 := text_free n (h n List.mem_cons_self)
    have h2 := words_key (m :: r) (fun x hx => h x (List.mem_cons_of_mem _ hx))
    show words (text n ++ 32 :: keyL (m :: r)) = _
    rw [WordM.words_cat, WordM.words_one _ h1.1 h1.2, h2]
    rfl
theorem numsK_key {l : List Int} (h : ∀ n ∈ l, inR n) : numsK (keyL l) = l := by
  unfold numsK
  rw [words_key l h, List.map_map]
  conv => rhs; rw [← List.map_id l]
  refine List.map_congr_left (fun n hn => ?_)
  show (get (text n)).1 = n
  rw [NumM.get_text n (h n hn)]
/-- Each state is got from its key. -/
theorem readK_ok {s : Sta} (h : ∀ n ∈ numsS s, inR n) : readK (keyS s) = some s := by
  have h1 : ofN (numsK (keyS s)) = some s := by unfold keyS; rw [numsK_key h]; exact ofN_ok s
  unfold readK
  rw [h1]
  exact if_pos rfl
/-- Unlike states have unlike keys. -/
theorem keyS_inj {s t : Sta} (hs : ∀ n ∈ numsS s, inR n) (ht : ∀ n ∈ numsS t, inR n) (h : keyS s = keyS t) : s = t := by
  have := readK_ok hs
  rw [h, readK_ok ht] at this
  exact (Option.some.inj this).symm
theorem wr_in {b : List Wr} (h : ∀ x ∈ b, inR x.loc ∧ inR x.n) : ∀ n ∈ wrN b, inR n := by
  intro n hn
  obtain ⟨x, hx, hn⟩ := List.mem_flatMap.1 hn
  rcases List.mem_cons.1 hn with rfl | hn
  · exact (h x hx).1
  · rcases List.mem_cons.1 hn with rfl | hn
    · exact (h x hx).2
    · cases hn
theorem len_in {n : Nat} (h : n ≤ 9223372036854775807) : inR (n : Int) := by unfold inR; omega
theorem th_in {t : Th} (ha : inR t.at') (hr : ∀ n ∈ t.regs, inR n) (hb : ∀ x ∈ t.buf, inR x.loc ∧ inR x.n) (h1 : t.regs.length ≤ 9223372036854775807) (h2 : t.buf.length ≤ 9223372036854775807) :
    ∀ n ∈ thN t, inR n := by
  intro n hn
  simp only [thN, rowN, List.mem_cons, List.mem_append] at hn
  rcases hn with rfl | rfl | ((rfl | hn) | (rfl | hn))
  · exact ha
  · unfold inR; split <;> omega
  · exact len_in h1
  · exact hr n hn
  · exact len_in h2
  · exact wr_in hb n hn
theorem nums_in {s : Sta} (hm : ∀ n ∈ s.mem, inR n) (h1 : s.mem.length ≤ 9223372036854775807) (h2 : s.ths.length ≤ 9223372036854775807) (ht : ∀ t ∈ s.ths, ∀ n ∈ thN t, inR n) : ∀ n ∈ numsS s, inR n := by
  intro n hn
  simp only [numsS, rowN, List.mem_cons, List.mem_append] at hn
  rcases hn with (rfl | hn) | (rfl | hn)
  · exact len_in h1
  · exact hm n hn
  · exact len_in h2
  · obtain ⟨t, htm, hn⟩ := List.mem_flatMap.1 hn
    exact ht t htm n hn
theorem keyL_len : ∀ (l : List Int), (∀ n ∈ l, inR n) → (keyL l).length ≤ 21 * l.length
  | [], _ => Nat.le_refl _
  | [n], h => by
    have := NumM.text_len n (h n List.mem_cons_self)
    simp only [keyL, List.length_cons, List.length_nil]; omega
  | n :: m :: r, h => by
    have h1 := NumM.text_len n (h n List.mem_cons_self)
    have h2 := keyL_len (m :: r) (fun x hx => h x (List.mem_cons_of_mem _ hx))
    simp only [keyL, List.length_append, List.length_cons] at h2 ⊢; omega
theorem thN_len (t : Th) : (thN t).length = 4 + t.regs.length + 2 * t.buf.length := by
  simp only [thN, rowN, List.length_append, List.length_cons, wrN_len]; omega
end EnM
end Go.Proofs.Ytbffjhdocicfoaa
namespace Go.Proofs.Ytbffjhdocicfoaa
open Go.RowKit Go.Shelf
set_option linter.unusedVariables false
set_option linter.unusedSimpArgs false
open WordM (L)

/-- A text in a block b of the call's own, from B on, that holds bs. -/
def TxAt (B b : Nat) (p : Value) (bs : List Value) (w : World) : Prop := Lib.BuilderAtF 106 5 B b p bs w
def IsTx (B b : Nat) (bs : List Value) (w : World) : Prop := Lib.IsBuilderF 106 5 B b bs w
/-- Blocks of another type than bytes, but the text's own, stay. -/
def KeptT (b : Nat) (w w' : World) : Prop := ∀ g cs T fr, w.heap[g]? = some (.cells cs T fr) → T ≠ 5 → g ≠ b → w'.heap[g]? = w.heap[g]?
theorem KeptT.refl (b : Nat) (w : World) : KeptT b w w := fun _ _ _ _ _ _ _ => rfl
theorem KeptT.trans {b : Nat} {w a c : World} (h : KeptT b w a) (k : KeptT b a c) : KeptT b w c := fun g cs T fr h1 h2 h3 => by
  have e := h g cs T fr h1 h2 h3
  exact (k g cs T fr (e.trans h1) h2 h3).trans e
theorem KeptT.set {b i : Nat} {u : Value} (w : World) : KeptT b w (w.setCell ⟨b, i, none⟩ u) := fun g cs T fr h1 h2 h3 => heap_setCell_other w ⟨b, i, none⟩ g u h3
theorem tx_lies : liesAt Try.prog Try.prog.depth 106 (2 / Try.prog.cellsOf 106) 0 106 1 = true := by kernel_rfl
theorem tx_size : (Try.prog.info? 106).map (·.size) = some 2 := by kernel_rfl
theorem info_byte : (Try.prog.info? 5).map (fun i => (i.zero, i.size, i.bytes)) = some (some (.int .u8 0), 1, 1) := by kernel_rfl
theorem cells_byte : Try.prog.cellsOf 5 = 1 := by kernel_rfl
set_option maxHeartbeats 1000000 in
set_option maxRecDepth 100000 in
theorem bcheck_used (b : Nat) (w : World) (h0 : w.cell? ⟨b, 0, none⟩ = some (.pointer (some ⟨b, 0, none⟩))) :
    Calls Try.prog 81 #[.pointer (some ⟨b, 0, none⟩)] w fun e w' => e = .returned (.tuple #[]) ∧ w' = w := by
  obtain ⟨j, hj, _⟩ := Option.map_eq_some_iff.1 tx_size
  go_enter Try.func81, Try.ntmps81
  go_wp2
  rw [Lib.run_neq_ptr_same w _ Try.underlying103 hj]
  go_wp2
  go_end0
  exact ⟨rfl, rfl⟩
set_option maxHeartbeats 1000000 in
set_option maxRecDepth 100000 in
theorem bcheck_fresh (b : Nat) (w : World) (h0 : w.cell? ⟨b, 0, none⟩ = some (.pointer none)) (hsh : w.shape? b = some (106, 2)) (hfz : w.frozen? ⟨b, 0, none⟩ = false) :
    Calls Try.prog 81 #[.pointer (some ⟨b, 0, none⟩)] w fun e w' => e = .returned (.tuple #[]) ∧ w' = w.setCell ⟨b, 0, none⟩ (.pointer (some ⟨b, 0, none⟩)) := by
  obtain ⟨j, hj, hjs⟩ := Option.map_eq_some_iff.1 tx_size
  go_enter Try.func81, Try.ntmps81
  go_wp2
  rw [Lib.run_to_unsafe w ⟨b, 0, none⟩ Try.underlying103 Try.underlying162 hj (by rw [hjs]; decide) hsh (Nat.zero_lt_succ 1)]
  simp only [Result.andThen]
  rw [Oper.upon_value]
  go_wp2
  rw [run_callFunc_extern Try.func98 (by kernel_rfl) (by kernel_rfl) (by kernel_rfl) (e := Extern.AbiNoEscape.same) (by kernel_rfl)]
  rw [Lib.run_noEscape]
  simp only [Result.andThen]
  rw [Oper.upon_value]
  go_wp2
  rw [Lib.run_from_unsafe w ⟨b, 0, none⟩ Try.underlying162 Try.underlying103 hj hsh tx_lies]
  simp only [Result.andThen]
  rw [Oper.upon_value]
  go_wp2
  go_end0
  exact ⟨rfl, rfl⟩
theorem bcheck_any (B b : Nat) (bs : List Value) (w : World) (h : IsTx B b bs w) :
    Calls Try.prog 81 #[.pointer (some ⟨b, 0, none⟩)] w fun e w' => e = .returned (.tuple #[]) ∧ (TxAt B b (.pointer (some ⟨b, 0, none⟩)) bs w' ∧ Below B w w' ∧ KeptT b w w') := by
  rcases h with h | h
  · refine (bcheck_fresh b w h.cell0 h.shape h.frozen0).mono ?_
    rintro e w' ⟨rfl, rfl⟩
    exact ⟨rfl, h.used _, (Below.refl B w).setCell (p := ⟨b, 0, none⟩) h.1 _, KeptT.set w⟩
  · refine (bcheck_used b w h.cell0).mono ?_
    rintro e w' ⟨rfl, rfl⟩
    exact ⟨rfl, h, Below.refl B _, KeptT.refl b _⟩
set_option maxHeartbeats 2000000 in
set_option maxRecDepth 100000 in
theorem bput_any (B b : Nat) (bs : List Value) (s : ByteArray) (w : World) (h : IsTx B b bs w) (hlen : bs.length + s.size ≤ 140737488355328) (hBw : B ≤ w.heap.size) :
    Calls Try.prog 59 #[.pointer (some ⟨b, 0, none⟩), .string s] w fun e w' => e = .returned (.tuple #[.int .i64 s.size, .nilIface]) ∧ (TxAt B b (.pointer (some ⟨b, 0, none⟩)) (bs ++ Lib.strCells s) w' ∧ Below B w w' ∧ KeptT b w w') := by
  obtain ⟨i0, hi, hz0, hz1, hz2⟩ := info_parts info_byte
  have HC := Lib.hid (bcheck_any B b bs w h)
  clear h
  go_enter Try.func59, Try.ntmps59
  go_wp2_with (go_at_call 81; refine HC.out.mono ?_)
  rintro e w1 ⟨rfl, h1, hb1, hk1⟩
  obtain ⟨hB, v, hbk, hown, hne⟩ := h1
  have c0 : w1.cell? ⟨b, 0, none⟩ = some (.pointer (some ⟨b, 0, none⟩)) := by rw [Lib.cell_of_heap hbk]; rfl
  have c1 : w1.cell? ⟨b, 1, none⟩ = some v := by rw [Lib.cell_of_heap hbk]; rfl
  have hs1 := hb1.size
  go_wp2_with (at_builtin; refine Lib.wpList_append_own_stringF _ rfl _ _ 104 9 rfl B 5 i0 Try.underlying104 Try.underlying9 hi hz0 hz1 hz2 _ _ _ rfl hown s rfl ?c3 ?c4 ?c5 ?_)
  case c3 => unfold maxLen; omega
  case c4 => omega
  case c5 => omega
  intro v' w2 hown' hgrow _
  have hlt : b < w1.heap.size := (Array.getElem?_eq_some_iff.1 hbk).1
  have hb2 : w2.heap[b]? = some (.cells #[.pointer (some ⟨b, 0, none⟩), v] 106 (0, 0)) := by
    rw [hgrow.block b hlt (fun e => hne e.symm)]
    exact hbk
  have d0 : w2.cell? ⟨b, 0, none⟩ = some (.pointer (some ⟨b, 0, none⟩)) := by rw [Lib.cell_of_heap hb2]; rfl
  have d1 : w2.cell? ⟨b, 1, none⟩ = some v := by rw [Lib.cell_of_heap hb2]; rfl
  have f1 : w2.frozen? ⟨b, 1, none⟩ = false := Lib.frozen_of_heap hb2 1
  have hk2 := Lib.hid (hk1.trans (show KeptT b w1 w2 from fun g cs T fr e1 e2 e3 => hgrow.block g (Array.getElem?_eq_some_iff.1 e1).1 (fun c => by
    rcases hown.2 with ⟨rfl, _⟩ | ⟨g', cap, cur, fz, rfl, _, hgg, _⟩
    · cases c
    · injection c with c
      have c2 : g = g' := c
      subst c2
      rw [hgg] at e1
      injection e1 with e1
      injection e1 with _ e4 _
      exact e2 e4.symm)))
  clear hk1
  obtain ⟨ao, n', cap, rfl⟩ : ∃ ao n' cap, v' = .slice ao n' cap := by
    rcases hown'.2 with ⟨hv, _⟩ | ⟨g, cap, cur, fz, hv, _⟩
    · exact ⟨_, _, _, hv⟩
    · exact ⟨_, _, _, hv⟩
  go_wp2
  go_ret2
  refine ⟨rfl, ?_, ?_, hk2.out.trans (KeptT.set w2)⟩
  · exact Lib.BuilderAtF.put (T := 106) (e := 5) hB hb2 (bs' := bs ++ Lib.strCells s) (by simpa [Lib.strCells_length] using hown') (by decide)
  · exact (hb1.grown hgrow (by omega) (fun k hk => (hown.lt k hk).1)).setCell (p := ⟨b, 1, none⟩) hB _
set_option maxHeartbeats 2000000 in
set_option maxRecDepth 100000 in
/-- What is read of a text that holds at least one byte. -/
theorem bread_any (B b : Nat) (l : L) (w : World) (h : IsTx B b (Lib.byteCells l) w) (h0 : l ≠ []) :
    Calls Try.prog 61 #[.pointer (some ⟨b, 0, none⟩)] w fun e w' => e = .returned (.string ⟨l.toArray⟩) ∧ Below B w w' := by
  obtain ⟨p, hAt⟩ : ∃ p, TxAt B b p (Lib.byteCells l) w := by
    rcases h with h | h
    · exact ⟨_, h⟩
    · exact ⟨_, h⟩
  obtain ⟨hB, v, hbk, hown, hne⟩ := hAt
  have hl0 : l.length ≠ 0 := by simpa using h0
  rw [Lib.byteCells_length] at hown
  obtain ⟨g, cap, cur, fz, rfl, hbg, hg, hfz, hnc, hcm, hcs, htake⟩ : ∃ g cap cur fz, v = .slice (some ⟨g, 0, none⟩) l.length cap ∧ B ≤ g ∧ w.heap[g]? = some (.cells cur 5 fz) ∧ fz.2 ≤ l.length * 1 ∧ l.length ≤ cap ∧ cap ≤ maxLen ∧ cur.size = cap * 1 ∧ cur.toList.take (l.length * 1) = Lib.byteCells l := by
    rcases hown.2 with ⟨_, hz⟩ | ⟨g, cap, cur, fz, hv, r⟩
    · exact absurd hz hl0
    · exact ⟨g, cap, cur, fz, hv, r⟩
  have c1 : w.drew.cell? ⟨b, 1, none⟩ = some (.slice (some ⟨g, 0, none⟩) l.length cap) := by
    have : w.drew.heap[b]? = some (.cells #[p, .slice (some ⟨g, 0, none⟩) l.length cap] 106 (0, 0)) := hbk
    rw [Lib.cell_of_heap this]; rfl
  have hSD : (Builtin.unsafeSliceData_ #[104] 143 #[.slice (some ⟨g, 0, none⟩) l.length cap]).run Try.prog w.drew = .ok (.pointer (some ⟨g, 0, none⟩)) w.drew :=
    Lib.run_unsafeSliceData_row _ _ _ _ _ _ (by omega)
  have hUS : (Builtin.unsafeString_ #[143, 3] 9 #[.pointer (some ⟨g, 0, none⟩), .int .i64 l.length]).run Try.prog w.drew = .ok (.string ⟨l.toArray⟩) (w.drew.freeze ⟨g, 0, none⟩ l.length) := by
    refine Lib.run_unsafeString_row w.drew 143 3 9 5 Try.underlying143 cells_byte g cur.size (by have hg' : w.drew.heap[g]? = some (.cells cur 5 fz) := hg; simp [World.shape?, hg']) l h0 (by omega) (by unfold maxLen at hcm; omega) ?_
    intro j x hx
    exact hown.cells (g := g) rfl j (.int .u8 x.toNat) (by simp [Lib.byteCells, hx])
  have mixed : Try.prog.follows .mixedOrders = true := by kernel_rfl
  clear h h0 hl0
  go_enter Try.func61, Try.ntmps61
  go_wp2
  go_region_o
  all_goals (go_wp2; go_ret; exact ⟨rfl, Lib.below_freeze (Below.drew (Below.refl B w)) (p := ⟨g, 0, none⟩) hbg _⟩)
end Go.Proofs.Ytbffjhdocicfoaa
namespace Go.Proofs.Ytbffjhdocicfoaa
open Go.RowKit
set_option linter.unusedVariables false
set_option maxHeartbeats 1000000 in
set_option maxRecDepth 100000 in
theorem ndigit_any (n : Int) (w : World) (h0 : 0 ≤ n) (h1 : n ≤ 9) :
    Calls Try.prog 82 #[.int .u64 n] w fun e w' => e = .returned (.int .u8 (48 + n)) ∧ w = w' := by
  go_enter Try.func82, Try.ntmps82
  go_wp2
  go_ret
  exact ⟨rfl, rfl⟩
/-- The array of the digits as they stand. -/
def NRow (w : World) (b : Nat) (xs : List UInt8) : Prop := ∀ i, i < 19 → w.cell? ⟨b, i, none⟩ = some (.int .u8 ((xs.getD i 0).toNat : Int)) ∧ w.frozen? ⟨b, i, none⟩ = false
def NTRel (w : World) (R : Nat) (a r : Nat) (xs : List UInt8) (wr : World) : Prop :=
  r < 10 ^ (a + 1) ∧ xs.length = 19 ∧ NumM.digs r ++ xs.drop (a + 1) = NumM.digs R ∧ NRow wr w.heap.size xs ∧ Below w.heap.size w wr ∧ w.heap.size < wr.heap.size
theorem pow_step (r a : Nat) (h : r < 10 ^ (a + 1)) (h9 : 9 < r) : 1 ≤ a ∧ r / 10 < 10 ^ (a - 1 + 1) := by
  have ha : a ≠ 0 := by intro e; subst e; simp at h; omega
  refine ⟨by omega, ?_⟩
  rw [show a - 1 + 1 = a by omega, Nat.div_lt_iff_lt_mul (by omega)]
  rwa [Nat.pow_succ] at h
theorem row_set {w : World} {b a : Nat} {xs : List UInt8} (h : NRow w b xs) (ha : a ≤ 18) (hl : xs.length = 19) (r : Nat) (hr : r ≤ 9) :
    NRow (w.setCell ⟨b, a, none⟩ (.int .u8 (48 + (r : Int)))) b (xs.set a (UInt8.ofNat (48 + r))) := by
  intro i hi
  refine ⟨?_, by rw [World.frozen?_setCell]; exact (h i hi).2⟩
  by_cases e : i = a
  · subst e
    rw [World.cell?_setCell_same _ _ _ (h i hi).1]
    simp only [List.getD, List.getElem?_set_self (show i < xs.length by omega), Option.getD_some]
    rw [NumM.u8_toNat_small r hr]; rfl
  · rw [World.cell?_setCell_other _ _ _ _ (by intro k; injection k with _ k2; exact e k2.symm), (h i hi).1]
    simp only [List.getD, List.getElem?_set_ne (Ne.symm e)]
theorem trel_set {w wr : World} {R a r : Nat} {xs : List UInt8} (h : NTRel w R a r xs wr) (ha : a ≤ 18) (d : Nat) (hd : d ≤ 9) (r' a' : Nat) (h1 : r' < 10 ^ (a' + 1))
    (h2 : NumM.digs r' ++ (xs.set a (UInt8.ofNat (48 + d))).drop (a' + 1) = NumM.digs R) :
    NTRel w R a' r' (xs.set a (UInt8.ofNat (48 + d))) (wr.setCell ⟨w.heap.size, a, none⟩ (.int .u8 (48 + (d : Int)))) := by
  obtain ⟨g1, g2, g3, g4, g5, g6⟩ := h
  refine ⟨h1, by simp [g2], h2, row_set g4 ha g2 d hd, g5.setCell (Nat.le_refl _) _, by simpa [World.setCell] using g6⟩
theorem trel_step {w wr : World} {R a r : Nat} {xs : List UInt8} (h : NTRel w R a r xs wr) (ha : a ≤ 18) (h9 : 9 < r) (hr : r < 10 ^ 20) :
    NTRel w R (a - 1) (r / 10) (xs.set a (UInt8.ofNat (48 + r % 10))) (wr.setCell ⟨w.heap.size, a, none⟩ (.int .u8 (48 + (r : Int) % 10))) := by
  have hp := pow_step r a h.1 h9
  have := trel_set h ha (r % 10) (by omega) (r / 10) (a - 1) hp.2 (by
    rw [← h.2.2.1, NumM.digs_big r (by omega) hr, List.append_assoc, show a - 1 + 1 = a by omega]
    congr 1
    rw [List.drop_set]
    rw [if_neg (by omega), Nat.sub_self]
    have hl := h.2.1
    rw [List.drop_eq_getElem_cons (show a < xs.length by omega)]
    rfl)
  exact this
/-- The digits are all there: what the array has from the last place on. -/
theorem trel_last {w wr : World} {R a r : Nat} {xs : List UInt8} (h : NTRel w R a r xs wr) (ha : a ≤ 18) (h9 : r ≤ 9) :
    (xs.set a (UInt8.ofNat (48 + r))).drop a = NumM.digs R := by
  rw [← h.2.2.1, NumM.digs_small r h9, List.drop_set, if_neg (by omega), Nat.sub_self]
  have hl := h.2.1
  rw [List.drop_eq_getElem_cons (show a < xs.length by omega)]
  rfl
theorem row_bytes {w : World} {b a : Nat} {xs : List UInt8} (h : NRow w b xs) (ha : a ≤ 18) (hl : xs.length = 19) (P : Program) (src e dst : TypeId)
    (hs : P.underlying src = some (.slice e)) (he : P.underlying e = some (.int .u8)) (hd : P.underlying dst = some .string) (cap : Nat) :
    (convert src dst (.slice (some ⟨b, a, none⟩) (19 - a) cap)).run P w = .ok (.string ⟨(xs.drop a).toArray⟩) w := by
  have := run_convert_bytes_arg (P := P) w src e hs he b a (19 - a) cap ((xs.drop a).map fun x => (x.toNat : Int)) (by simp [hl]) (fun i hi => by
    rw [(h (a + i) (by omega)).1]
    congr 2
    simp only [List.getD, List.getElem?_map, List.getElem?_drop]
    rw [List.getElem?_eq_getElem (show a + i < xs.length by omega)]
    simp) dst hd
  rw [this]
  congr 2
  unfold strOfNums
  congr 1
  rw [List.map_map]
  congr 1
  conv => rhs; rw [← List.map_id (xs.drop a)]
  apply List.map_congr_left
  intro x _
  simp
theorem slice_row (w : World) (b a : Nat) (h : a ≤ 18) :
    (Instr.sliceAt 140 (.pointer (some ⟨b, 0, none⟩)) (some (.int .i64 (a : Int))) none none).run Try.prog w = .ok (.slice (some ⟨b, a, none⟩) (19 - a) (19 - a)) w := by
  have hl : Try.prog.arrayLen 140 = 19 := by kernel_rfl
  have hz : ∀ w, (Go.sizeOf (Try.prog.elem 140)).run Try.prog w = .ok 1 w := fun w => by kernel_rfl
  rw [run_sliceAt_array_l w 140 _ (by kernel_rfl) .i64 (a : Int) (by omega) (by rw [hl]; omega), hz, hl]
  simp only [Result.andThen, slicedAt, Addr.add, Int.toNat_natCast]
  rw [if_neg (by omega)]
  have e : (if ((⟨b, 0, none⟩ : Addr).spot.isSome) = true then (⟨b, 0, none⟩ : Addr) else ⟨b, 0 + a * 1, none⟩) = ⟨b, a, none⟩ := by simp
  first | exact congrArg (fun x => Result.ok (Value.slice (some x) (19 - a) (19 - a)) w) e | (simp; omega)
set_option maxHeartbeats 1000000 in
set_option maxRecDepth 100000 in
theorem text_neg (n : Int) (w : World) (h0 : n < 0) (h1 : -9223372036854775808 ≤ n) :
    Calls Try.prog 60 #[.int .i64 n] w fun e w' => e = .returned (.string ⟨(NumM.text n).toArray⟩) ∧ Below w.heap.size w w' := by
  go_enter Try.func60, Try.ntmps60
  go_wp2
  have hE : IntKind.u64.wrap (-IntKind.u64.wrap n) = (n.natAbs : Int) := by
    simp [IntKind.wrap, IntKind.bits, IntKind.signed]; omega
  have hR : n.natAbs ≤ 9223372036854775808 := by omega
  have hX := Lib.hid (show NumM.text n = 45 :: NumM.digs n.natAbs by unfold NumM.text; rw [if_pos h0])
  rw [hE]
  clear hE
  generalize n.natAbs = R at *
  go_loopw [4, 5] (fun at_ rest wr => ∃ (a r : Nat) (xs : List UInt8), a ≤ 18 ∧ r ≤ R ∧ at_ = .int .i64 a ∧ rest = .int .u64 r ∧ NTRel w R a r xs wr) (fun at_ _ _ => (intOf at_).toNat)
  case atStart =>
    refine ⟨18, R, List.replicate 19 0, by omega, by omega, rfl, rfl, by omega, rfl, by simp, ?_, (Below.refl _ _).alloc (Nat.le_refl _) _, by simp⟩
    intro i hi
    rw [World.cell?_alloc_at _ _ _ _ rfl, World.frozen?_alloc_at _ _ _ _ rfl]
    refine ⟨?_, rfl⟩
    have h1 : ((List.replicate 19 (Value.int IntKind.u8 0)).toArray)[i]? = some (.int .u8 0) := by
      rw [List.getElem?_toArray, List.getElem?_replicate, if_pos hi]
    have h2 : (List.replicate 19 (0 : UInt8)).getD i 0 = 0 := by
      rw [List.getD_eq_getElem?_getD, List.getElem?_replicate, if_pos hi]; rfl
    rw [h2]
    exact h1
  case round =>
    obtain ⟨a, r, xs, ha, hrR, rfl, rfl, hT⟩ := hrel
    have hc := (hT.2.2.2.1 a (by omega)).1
    have hf := (hT.2.2.2.1 a (by omega)).2
    by_cases h9 : 9 < r
    · have hp := (pow_step r a hT.1 h9).1
      go_wp2_with (go_at_call 82; refine (ndigit_any _ _ (by omega) (by omega)).mono ?_; rintro e w' ⟨rfl, rfl⟩)
      go_roundw
      case rel => exact ⟨a - 1, r / 10, _, by omega, by omega, by go_num, by go_num, trel_step hT ha h9 (by omega)⟩
      case measure => simp [intOf]; omega
    · have hS := row_set hT.2.2.2.1 ha hT.2.1 r (by omega)
      have hl := hT.2.1
      have hY := Lib.hid (trel_last hT ha (by omega))
      have hsl := fun W => slice_row W w.heap.size a ha
      have hB := (hT.2.2.2.2.1.setCell (p := ⟨w.heap.size, a, none⟩) (Nat.le_refl _) (.int .u8 (48 + (r : Int))))
      have hcv := row_bytes hS ha (by simp [hl]) Try.prog 104 5 9 (by kernel_rfl) (by kernel_rfl) (by kernel_rfl) (19 - a)
      rw [hY.out] at hcv
      have hdl := NumM.digs_len R (by omega)
      have hcat := fun W => run_string_add_sum (P := Try.prog) (w := W) ⟨#[45]⟩ ⟨(NumM.digs R).toArray⟩ (by simp [ByteArray.size]; omega)
      clear hT hS hl hdl
      go_wp2_with (go_at_call 82; refine (ndigit_any _ _ (by omega) (by omega)).mono ?_; rintro e w' ⟨rfl, rfl⟩)
      go_ret
      exact ⟨by rw [hX.out]; rfl, hB⟩
set_option maxHeartbeats 1000000 in
set_option maxRecDepth 100000 in
theorem text_pos (R : Nat) (w : World) (hR : R ≤ 9223372036854775807) :
    Calls Try.prog 60 #[.int .i64 R] w fun e w' => e = .returned (.string ⟨(NumM.text R).toArray⟩) ∧ Below w.heap.size w w' := by
  go_enter Try.func60, Try.ntmps60
  go_wp2
  have hX := Lib.hid (show NumM.text R = NumM.digs R by unfold NumM.text; rw [if_neg (by omega), Int.natAbs_natCast])
  go_loopw [4, 5] (fun at_ rest wr => ∃ (a r : Nat) (xs : List UInt8), a ≤ 18 ∧ r ≤ R ∧ at_ = .int .i64 a ∧ rest = .int .u64 r ∧ NTRel w R a r xs wr) (fun at_ _ _ => (intOf at_).toNat)
  case atStart =>
    refine ⟨18, R, List.replicate 19 0, by omega, by omega, rfl, rfl, by omega, rfl, by simp, ?_, (Below.refl _ _).alloc (Nat.le_refl _) _, by simp⟩
    intro i hi
    rw [World.cell?_alloc_at _ _ _ _ rfl, World.frozen?_alloc_at _ _ _ _ rfl]
    refine ⟨?_, rfl⟩
    have h1 : ((List.replicate 19 (Value.int IntKind.u8 0)).toArray)[i]? = some (.int .u8 0) := by
      rw [List.getElem?_toArray, List.getElem?_replicate, if_pos hi]
    have h2 : (List.replicate 19 (0 : UInt8)).getD i 0 = 0 := by
      rw [List.getD_eq_getElem?_getD, List.getElem?_replicate, if_pos hi]; rfl
    rw [h2]
    exact h1
  case round =>
    obtain ⟨a, r, xs, ha, hrR, rfl, rfl, hT⟩ := hrel
    have hc := (hT.2.2.2.1 a (by omega)).1
    have hf := (hT.2.2.2.1 a (by omega)).2
    by_cases h9 : 9 < r
    · have hp := (pow_step r a hT.1 h9).1
      go_wp2_with (go_at_call 82; refine (ndigit_any _ _ (by omega) (by omega)).mono ?_; rintro e w' ⟨rfl, rfl⟩)
      go_roundw
      case rel => exact ⟨a - 1, r / 10, _, by omega, by omega, by go_num, by go_num, trel_step hT ha h9 (by omega)⟩
      case measure => simp [intOf]; omega
    · have hS := row_set hT.2.2.2.1 ha hT.2.1 r (by omega)
      have hl := hT.2.1
      have hY := Lib.hid (trel_last hT ha (by omega))
      have hsl := fun W => slice_row W w.heap.size a ha
      have hB := (hT.2.2.2.2.1.setCell (p := ⟨w.heap.size, a, none⟩) (Nat.le_refl _) (.int .u8 (48 + (r : Int))))
      have hcv := row_bytes hS ha (by simp [hl]) Try.prog 104 5 9 (by kernel_rfl) (by kernel_rfl) (by kernel_rfl) (19 - a)
      rw [hY.out] at hcv
      have hdl := NumM.digs_len R (by omega)
      have hcat := fun W => run_string_add_sum (P := Try.prog) (w := W) ⟨#[]⟩ ⟨(NumM.digs R).toArray⟩ (by simp [ByteArray.size]; omega)
      clear hT hS hl hdl
      go_wp2_with (go_at_call 82; refine (ndigit_any _ _ (by omega) (by omega)).mono ?_; rintro e w' ⟨rfl, rfl⟩)
      go_ret
      exact ⟨by rw [hX.out]; first | rfl | exact congrArg (fun x => Ending.returned (Value.string x)) (nil_cat _), hB⟩
theorem text_any (n : Int) (w : World) (h : NumM.inR n) :
    Calls Try.prog 60 #[.int .i64 n] w fun e w' => e = .returned (.string ⟨(NumM.text n).toArray⟩) ∧ Below w.heap.size w w' := by
  unfold NumM.inR at h
  by_cases h0 : n < 0
  · exact text_neg n w h0 h.1
  · obtain ⟨R, rfl⟩ := Int.eq_ofNat_of_zero_le (show 0 ≤ n by omega)
    exact text_pos R w (by omega)
end Go.Proofs.Ytbffjhdocicfoaa
namespace Go.Proofs.Ytbffjhdocicfoaa
set_option linter.unusedVariables false
set_option linter.unusedSimpArgs false
open OtM
/-- An end as two values that read as it, and a number. -/
structure EV where
  m : Value
  r : Value
  o : Ot
  i : Nat
namespace EyM
/-- By the end, then by the number. -/
def Lx (x y : EV) : Prop := Lt x.o y.o ∨ (x.o = y.o ∧ x.i < y.i)
theorem Lx.trans {x y z : EV} (h : Lx x y) (g : Lx y z) : Lx x z := by
  rcases h with h | ⟨h, h2⟩
  · rcases g with g | ⟨g, g2⟩
    · exact .inl (h.trans g)
    · exact .inl (g ▸ h)
  · rcases g with g | ⟨g, g2⟩
    · exact .inl (h.symm ▸ g)
    · exact .inr ⟨h.trans g, Nat.lt_trans h2 g2⟩
theorem lx_of {x y : EV} (h : ¬ Lt y.o x.o) (hi : x.i < y.i) : Lx x y := by
  rcases tri x.o y.o with k | k | k
  · exact .inl k
  · exact .inr ⟨k, hi⟩
  · exact absurd k h
abbrev Sx (l : List EV) : Prop := l.Pairwise Lx
abbrev Bl (A B : List EV) : Prop := ∀ x ∈ A, ∀ y ∈ B, x.i < y.i
/-- Of a sorted row: what is ahead of one of them is ahead of whatever that is ahead of. -/
theorem sx_head {B : List EV} {y z : EV} (h : Sx (y :: B)) (hz : z ∈ y :: B) : z = y ∨ Lx y z := by
  rcases List.mem_cons.1 hz with e | e
  · exact .inl e
  · exact .inr ((List.pairwise_cons.1 h).1 z e)
theorem sx_last {A : List EV} {y z : EV} (h : Sx (A ++ [y])) (hz : z ∈ A ++ [y]) : z = y ∨ Lx z y := by
  rcases List.mem_append.1 hz with e | e
  · exact .inr ((List.pairwise_append.1 h).2.2 z e y (List.mem_singleton_self y))
  · exact .inl (List.mem_singleton.1 e)
/-- All of A are ahead of all of B, if the last one is not behind the first one. -/
theorem ahead_all {A B : List EV} (ha : Sx A) (hb : Sx B) (hl : Bl A B) (h : A = [] ∨ B = [] ∨ ∃ A' x y B', A = A' ++ [x] ∧ B = y :: B' ∧ ¬ Lt y.o x.o) : ∀ x ∈ A, ∀ y ∈ B, Lx x y := by
  intro u hu v hv
  rcases h with rfl | rfl | ⟨A', x, y, B', rfl, rfl, h⟩
  · cases hu
  · cases hv
  · have h1 := lx_of h (hl x (by simp) y (by simp))
    have h2 : Lx x v := by
      rcases sx_head hb hv with e | e
      · rw [e]; exact h1
      · exact h1.trans e
    rcases sx_last ha hu with e | e
    · rw [e]; exact h2
    · exact e.trans h2
theorem behind_all {A B : List EV} (ha : Sx A) (hb : Sx B) (h : A = [] ∨ B = [] ∨ ∃ A' x y B', A = x :: A' ∧ B = B' ++ [y] ∧ Lt y.o x.o) : ∀ y ∈ B, ∀ x ∈ A, Lx y x := by
  intro v hv u hu
  rcases h with rfl | rfl | ⟨A', x, y, B', rfl, rfl, h⟩
  · cases hu
  · cases hv
  · have h1 : Lx y x := .inl h
    have h2 : Lx v x := by
      rcases sx_last hb hv with e | e
      · rw [e]; exact h1
      · exact e.trans h1
    rcases sx_head ha hu with e | e
    · rw [e]; exact h2
    · exact h2.trans e
/-- One ahead of a sorted row is put into it. -/
theorem ins_first {x : EV} {B1 B2 : List EV} (hb : Sx (B1 ++ B2)) (hl : Bl [x] (B1 ++ B2)) (h1 : B1 = [] ∨ ∃ B' y, B1 = B' ++ [y] ∧ Lt y.o x.o) (h2 : B2 = [] ∨ ∃ y B', B2 = y :: B' ∧ ¬ Lt y.o x.o) : Sx (B1 ++ x :: B2) := by
  obtain ⟨s1, s2, s3⟩ := List.pairwise_append.1 hb
  have a1 : ∀ y ∈ B1, ∀ z ∈ [x], Lx y z := behind_all (A := [x]) (List.pairwise_singleton _ _) s1 (by
    rcases h1 with rfl | ⟨B', y, rfl, h⟩
    · exact .inr (.inl rfl)
    · exact .inr (.inr ⟨[], x, y, B', rfl, rfl, h⟩))
  have a2 : ∀ z ∈ [x], ∀ y ∈ B2, Lx z y := ahead_all (A := [x]) (List.pairwise_singleton _ _) s2 (fun u hu v hv => hl u hu v (List.mem_append_right _ hv)) (by
    rcases h2 with rfl | ⟨y, B', rfl, h⟩
    · exact .inr (.inl rfl)
    · exact .inr (.inr ⟨[], x, y, B', rfl, rfl, h⟩))
  refine List.pairwise_append.2 ⟨s1, List.pairwise_cons.2 ⟨fun y hy => a2 x (List.mem_singleton_self x) y hy, s2⟩, fun u hu v hv => ?_⟩
  rcases List.mem_cons.1 hv with rfl | hv
  · exact a1 u hu v (List.mem_singleton_self v)
  · exact s3 u hu v hv
/-- One behind a sorted row is put into it. -/
theorem ins_last {y : EV} {A1 A2 : List EV} (ha : Sx (A1 ++ A2)) (hl : Bl (A1 ++ A2) [y]) (h1 : A1 = [] ∨ ∃ A' x, A1 = A' ++ [x] ∧ ¬ Lt y.o x.o) (h2 : A2 = [] ∨ ∃ x A', A2 = x :: A' ∧ Lt y.o x.o) : Sx (A1 ++ y :: A2) := by
  obtain ⟨s1, s2, s3⟩ := List.pairwise_append.1 ha
  have a1 : ∀ x ∈ A1, ∀ z ∈ [y], Lx x z := ahead_all (B := [y]) s1 (List.pairwise_singleton _ _) (fun u hu v hv => hl u (List.mem_append_left _ hu) v hv) (by
    rcases h1 with rfl | ⟨A', x, rfl, h⟩
    · exact .inl rfl
    · exact .inr (.inr ⟨A', x, y, [], rfl, rfl, h⟩))
  have a2 : ∀ z ∈ [y], ∀ x ∈ A2, Lx z x := behind_all (B := [y]) s2 (List.pairwise_singleton _ _) (by
    rcases h2 with rfl | ⟨x, A', rfl, h⟩
    · exact .inl rfl
    · exact .inr (.inr ⟨A', x, y, [], rfl, rfl, h⟩))
  refine List.pairwise_append.2 ⟨s1, List.pairwise_cons.2 ⟨fun x hx => a2 y (List.mem_singleton_self y) x hx, s2⟩, fun u hu v hv => ?_⟩
  rcases List.mem_cons.1 hv with rfl | hv
  · exact a1 u hu v (List.mem_singleton_self v)
  · exact s3 u hu v hv
/-- Two sorted rows, cut, their heads and their tails merged. -/
theorem merge_two {A1 A2 B1 B2 C1 C2 : List EV} (ha : Sx (A1 ++ A2)) (hb : Sx (B1 ++ B2)) (hl : Bl (A1 ++ A2) (B1 ++ B2)) (p1 : C1.Perm (A1 ++ B1)) (s1 : Sx C1) (p2 : C2.Perm (A2 ++ B2)) (s2 : Sx C2)
    (h1 : A1 = [] ∨ B2 = [] ∨ ∃ A' x y B', A1 = A' ++ [x] ∧ B2 = y :: B' ∧ ¬ Lt y.o x.o) (h2 : A2 = [] ∨ B1 = [] ∨ ∃ A' x y B', A2 = x :: A' ∧ B1 = B' ++ [y] ∧ Lt y.o x.o) : Sx (C1 ++ C2) ∧ (C1 ++ C2).Perm ((A1 ++ A2) ++ (B1 ++ B2)) := by
  obtain ⟨a1, a2, a3⟩ := List.pairwise_append.1 ha
  obtain ⟨b1, b2, b3⟩ := List.pairwise_append.1 hb
  have k1 := ahead_all a1 b2 (fun u hu v hv => hl u (List.mem_append_left _ hu) v (List.mem_append_right _ hv)) h1
  have k2 := behind_all a2 b1 h2
  refine ⟨List.pairwise_append.2 ⟨s1, s2, fun u hu v hv => ?_⟩, ?_⟩
  · rcases List.mem_append.1 (p1.mem_iff.1 hu) with hu | hu
    · rcases List.mem_append.1 (p2.mem_iff.1 hv) with hv | hv
      · exact a3 u hu v hv
      · exact k1 u hu v hv
    · rcases List.mem_append.1 (p2.mem_iff.1 hv) with hv | hv
      · exact k2 u hu v hv
      · exact b3 u hu v hv
  · refine (p1.append p2).trans ?_
    rw [List.append_assoc, List.append_assoc]
    refine List.Perm.append_left A1 ?_
    rw [← List.append_assoc, ← List.append_assoc]
    exact List.Perm.append_right B2 List.perm_append_comm
/-! Parts of a row. -/
def seg (q l : Nat) (z : List EV) : List EV := (z.drop q).take l
/-- The part from q on, of l, is sorted, and has what zs has there. -/
def SegOk (zs : List EV) (q l : Nat) (cur : List EV) : Prop := Sx (seg q l cur) ∧ (seg q l cur).Perm (seg q l zs)
theorem seg_app {X C Y : List EV} {q l : Nat} (h : q + l ≤ X.length ∨ X.length + C.length ≤ q) {C' : List EV} (hc : C'.length = C.length) : seg q l (X ++ C' ++ Y) = seg q l (X ++ C ++ Y) := by
  unfold seg
  rcases h with h | h
  · rw [List.append_assoc, List.append_assoc, List.drop_append_of_le_length (by omega), List.drop_append_of_le_length (by omega), List.take_append_of_le_length (by rw [List.length_drop]; omega), List.take_append_of_le_length (by rw [List.length_drop]; omega)]
  · congr 1
    have e1 : (X ++ C' ++ Y).drop q = Y.drop (q - (X ++ C').length) := by rw [List.drop_append, List.drop_of_length_le (by rw [List.length_append]; omega), List.nil_append]
    have e2 : (X ++ C ++ Y).drop q = Y.drop (q - (X ++ C).length) := by rw [List.drop_append, List.drop_of_length_le (by rw [List.length_append]; omega), List.nil_append]
    rw [e1, e2, List.length_append, List.length_append, hc]
theorem seg_mid {X C Y : List EV} {l : Nat} (h : C.length = l ∨ (C.length ≤ l ∧ Y = [])) : seg X.length l (X ++ C ++ Y) = C := by
  unfold seg
  rw [List.append_assoc, List.drop_left]
  rcases h with h | ⟨h, rfl⟩
  · rw [← h, List.take_left]
  · rw [List.append_nil, List.take_of_length_le h]
/-! Two change places. -/
def swap1 (z : List EV) (i j : Nat) : List EV := match z[i]?, z[j]? with
  | some x, some y => (z.set i y).set j x
  | _, _ => z
theorem swap1_at {z : List EV} {i j : Nat} (hi : i < z.length) (hj : j < z.length) : swap1 z i j = (z.set i z[j]).set j z[i] := by
  unfold swap1; rw [List.getElem?_eq_getElem hi, List.getElem?_eq_getElem hj]
theorem swap1_len (z : List EV) (i j : Nat) : (swap1 z i j).length = z.length := by
  unfold swap1; split <;> simp
theorem swap1_mid (A M Y : List EV) (u v : EV) {i j : Nat} (hi : i = A.length) (hj : j = A.length + 1 + M.length) : swap1 (A ++ u :: (M ++ v :: Y)) i j = A ++ v :: (M ++ u :: Y) := by
  subst hi hj
  have e1 : (A ++ u :: (M ++ v :: Y))[A.length]? = some u := by simp
  have e2 : (A ++ u :: (M ++ v :: Y))[A.length + 1 + M.length]? = some v := by
    rw [List.getElem?_append_right (by omega), show A.length + 1 + M.length - A.length = M.length + 1 by omega, List.getElem?_cons_succ]; simp
  unfold swap1
  rw [e1, e2]
  show ((A ++ u :: (M ++ v :: Y)).set A.length v).set (A.length + 1 + M.length) u = _
  rw [List.set_append_right _ _ (Nat.le_refl _), Nat.sub_self, List.set_cons_zero, List.set_append_right _ _ (by omega), show A.length + 1 + M.length - A.length = M.length + 1 by omega, List.set_cons_succ, List.set_append_right _ _ (Nat.le_refl _), Nat.sub_self, List.set_cons_zero]
theorem swap1_comm {z : List EV} {i j : Nat} (h : i ≠ j) : swap1 z i j = swap1 z j i := by
  unfold swap1
  cases z[i]? <;> cases z[j]? <;> try rfl
  exact List.set_comm _ _ h
theorem swap1_mem {z : List EV} {i j : Nat} {x : EV} (h : x ∈ swap1 z i j) : x ∈ z := by
  unfold swap1 at h
  cases e1 : z[i]? with
  | none => rw [e1] at h; exact h
  | some a =>
    cases e2 : z[j]? with
    | none => rw [e1, e2] at h; exact h
    | some b =>
      rw [e1, e2] at h
      rcases List.mem_or_eq_of_mem_set h with h | h
      · rcases List.mem_or_eq_of_mem_set h with h | h
        · exact h
        · rw [h]; exact List.mem_of_getElem? e2
      · rw [h]; exact List.mem_of_getElem? e1
/-- k of them, from a on, change places with those from q on. -/
def swapN (z : List EV) (a q : Nat) : Nat → List EV
  | 0 => z
  | k + 1 => swap1 (swapN z a q k) (a + k) (q + k)
theorem swapN_is : ∀ (k : Nat) (X U M V Y : List EV) {a q : Nat}, U.length = k → V.length = k → a = X.length → q = X.length + k + M.length → swapN (X ++ U ++ M ++ V ++ Y) a q k = X ++ V ++ M ++ U ++ Y
  | 0, X, U, M, V, Y, a, q, hu, hv, _, _ => by
    rw [List.length_eq_zero_iff.1 hu, List.length_eq_zero_iff.1 hv]; rfl
  | k + 1, X, U, M, V, Y, a, q, hu, hv, ha, hq => by
    obtain ⟨U', u, rfl⟩ : ∃ U' u, U = U' ++ [u] := by
      rcases List.eq_nil_or_concat U with rfl | ⟨b, c, e⟩
      · cases hu
      · exact ⟨b, c, by rw [e]; simp⟩
    obtain ⟨V', v, rfl⟩ : ∃ V' v, V = V' ++ [v] := by
      rcases List.eq_nil_or_concat V with rfl | ⟨b, c, e⟩
      · cases hv
      · exact ⟨b, c, by rw [e]; simp⟩
    have hu' : U'.length = k := by simpa using hu
    have hv' : V'.length = k := by simpa using hv
    have ih := swapN_is k X U' (u :: M) V' (v :: Y) (a := a) (q := q) hu' hv' ha (by rw [List.length_cons]; omega)
    rw [swapN]
    have e : X ++ (U' ++ [u]) ++ M ++ (V' ++ [v]) ++ Y = X ++ U' ++ (u :: M) ++ V' ++ (v :: Y) := by simp
    rw [e, ih]
    have e2 : X ++ V' ++ (u :: M) ++ U' ++ (v :: Y) = (X ++ V') ++ u :: ((M ++ U') ++ v :: Y) := by simp
    rw [e2, swap1_mid (X ++ V') (M ++ U') Y u v (by rw [List.length_append]; omega) (by rw [List.length_append, List.length_append]; omega)]
    simp
end EyM
end Go.Proofs.Ytbffjhdocicfoaa
namespace Go.Proofs.Ytbffjhdocicfoaa
set_option linter.unusedVariables false
set_option linter.unusedSimpArgs false
open OtM
namespace EyM
/-- What stands at i is less than what stands at k. -/
def LtA (z : List EV) (i k : Nat) : Prop := ∀ x y, z[i]? = some x → z[k]? = some y → Lt x.o y.o
def NltA (z : List EV) (i k : Nat) : Prop := ∀ x y, z[i]? = some x → z[k]? = some y → ¬ Lt x.o y.o
theorem ltA_of {z : List EV} {i k : Nat} (hi : i < z.length) (hk : k < z.length) (h : Lt z[i].o z[k].o) : LtA z i k := fun x y hx hy => by
  rw [List.getElem?_eq_getElem hi] at hx; rw [List.getElem?_eq_getElem hk] at hy
  rw [← Option.some.inj hx, ← Option.some.inj hy]; exact h
theorem nltA_of {z : List EV} {i k : Nat} (hi : i < z.length) (hk : k < z.length) (h : ¬ Lt z[i].o z[k].o) : NltA z i k := fun x y hx hy => by
  rw [List.getElem?_eq_getElem hi] at hx; rw [List.getElem?_eq_getElem hk] at hy
  rw [← Option.some.inj hx, ← Option.some.inj hy]; exact h
theorem step_up (X C Y : List EV) (x : EV) {t k : Nat} (ht : t < C.length) (hk : k = X.length + t) : swap1 (X ++ C.take t ++ x :: (C.drop t ++ Y)) k (k + 1) = X ++ C.take (t + 1) ++ x :: (C.drop (t + 1) ++ Y) := by
  have e := swap1_mid (X ++ C.take t) [] (C.drop (t + 1) ++ Y) x C[t] (i := k) (j := k + 1) (by rw [List.length_append, List.length_take]; omega) (by rw [List.length_append, List.length_take, List.length_nil]; omega)
  rw [List.drop_eq_getElem_cons ht, List.take_succ_eq_append_getElem ht]
  simp only [List.nil_append, List.cons_append, List.append_assoc] at e ⊢
  exact e
theorem step_down (X A Y : List EV) (y : EV) {t k : Nat} (ht : t < A.length) (hk : k = X.length + t) : swap1 (X ++ A.take (t + 1) ++ y :: (A.drop (t + 1) ++ Y)) (k + 1) k = X ++ A.take t ++ y :: (A.drop t ++ Y) := by
  rw [← step_up X A Y y ht hk]
  rw [swap1_comm (by omega)]
  have h1 : k < (X ++ A.take t ++ y :: (A.drop t ++ Y)).length := by simp only [List.length_append, List.length_cons, List.length_take, List.length_drop]; omega
  have h2 : k + 1 < (X ++ A.take t ++ y :: (A.drop t ++ Y)).length := by simp only [List.length_append, List.length_cons, List.length_take, List.length_drop]; omega
  generalize X ++ A.take t ++ y :: (A.drop t ++ Y) = z at *
  rw [swap1_at h1 h2, swap1_at (by simpa using h1) (by simpa using h2)]
  apply List.ext_getElem?
  intro j
  simp only [List.getElem?_set, List.length_set, List.getElem_set]
  by_cases e1 : k + 1 = j
  · subst e1; simp [h2]
  · by_cases e2 : k = j
    · subst e2; simp [h1]
    · simp [e1, e2]
theorem up_first (X C Y : List EV) (x : EV) : X ++ C.take 0 ++ x :: (C.drop 0 ++ Y) = X ++ [x] ++ C ++ Y := by simp
theorem down_first (X A Y : List EV) (y : EV) : X ++ A.take A.length ++ y :: (A.drop A.length ++ Y) = X ++ A ++ [y] ++ Y := by simp
theorem at_mid {X C Y : List EV} {i m : Nat} (hm : X.length = m) (h1 : m ≤ i) (h2 : i < m + C.length) : (X ++ C ++ Y)[i]? = C[i - m]? := by
  rw [List.append_assoc, List.getElem?_append_right (by omega), List.getElem?_append_left (by omega), hm]
theorem split_at {C : List EV} {t : Nat} (ht : t ≤ C.length) : (C.take t = [] ∨ ∃ B' y, C.take t = B' ++ [y] ∧ C[t - 1]? = some y ∧ 0 < t) ∧ (C.drop t = [] ∨ ∃ y B', C.drop t = y :: B' ∧ C[t]? = some y ∧ t < C.length) := by
  constructor
  · rcases Nat.eq_zero_or_pos t with h | h
    · left; rw [h]; rfl
    · right
      obtain ⟨s, rfl⟩ : ∃ s, t = s + 1 := ⟨t - 1, by omega⟩
      exact ⟨C.take s, C[s]'(by omega), List.take_succ_eq_append_getElem (by omega), by rw [Nat.add_sub_cancel, List.getElem?_eq_getElem], h⟩
  · rcases Nat.lt_or_ge t C.length with h | h
    · right; exact ⟨C[t], C.drop (t + 1), List.drop_eq_getElem_cons h, List.getElem?_eq_getElem h, h⟩
    · left; exact List.drop_of_length_le h
/-- One ahead of a sorted row: where it was found to stand. -/
theorem first_done {X C Y : List EV} {x : EV} {a m q i : Nat} (ha : X.length = a) (hm : m = a + 1) (hq : q = m + C.length) (hc : Sx C) (hl : Bl [x] C) (h1 : m ≤ i) (h2 : i ≤ q)
    (hlo : i = m ∨ LtA (X ++ [x] ++ C ++ Y) (i - 1) a) (hhi : i = q ∨ NltA (X ++ [x] ++ C ++ Y) i a) : Sx (C.take (i - m) ++ x :: C.drop (i - m)) ∧ (C.take (i - m) ++ x :: C.drop (i - m)).Perm ([x] ++ C) := by
  have ex : (X ++ [x] ++ C ++ Y)[a]? = some x := by
    rw [List.append_assoc (X ++ [x]), at_mid (C := [x]) ha (Nat.le_refl _) (by simp), Nat.sub_self]; rfl
  have hd : C.take (i - m) ++ C.drop (i - m) = C := List.take_append_drop _ _
  obtain ⟨s1, s2⟩ := split_at (C := C) (t := i - m) (by omega)
  constructor
  · refine ins_first (by rw [hd]; exact hc) (by rw [hd]; exact hl) ?_ ?_
    · rcases s1 with s1 | ⟨B', y, s1, s3, s4⟩
      · exact .inl s1
      · refine .inr ⟨B', y, s1, ?_⟩
        rcases hlo with e | hlo
        · omega
        · refine hlo y x ?_ ex
          rw [at_mid (X := X ++ [x]) (m := m) (by rw [List.length_append]; simp; omega) (by omega) (by omega), show i - 1 - m = i - m - 1 by omega]; exact s3
    · rcases s2 with s2 | ⟨y, B', s2, s3, s4⟩
      · exact .inl s2
      · refine .inr ⟨y, B', s2, ?_⟩
        rcases hhi with e | hhi
        · omega
        · refine hhi y x ?_ ex
          rw [at_mid (X := X ++ [x]) (m := m) (by rw [List.length_append]; simp; omega) (by omega) (by omega)]; exact s3
  · have := List.perm_middle (a := x) (l₁ := C.take (i - m)) (l₂ := C.drop (i - m))
    rw [hd] at this; exact this
/-- One behind a sorted row: where it was found to stand. -/
theorem last_done {X A Y : List EV} {y : EV} {a m i : Nat} (ha : X.length = a) (hm : m = a + A.length) (hc : Sx A) (hl : Bl A [y]) (h1 : a ≤ i) (h2 : i ≤ m)
    (hlo : i = a ∨ NltA (X ++ A ++ [y] ++ Y) m (i - 1)) (hhi : i = m ∨ LtA (X ++ A ++ [y] ++ Y) m i) : Sx (A.take (i - a) ++ y :: A.drop (i - a)) ∧ (A.take (i - a) ++ y :: A.drop (i - a)).Perm (A ++ [y]) := by
  have ey : (X ++ A ++ [y] ++ Y)[m]? = some y := by
    rw [at_mid (X := X ++ A) (C := [y]) (m := m) (by rw [List.length_append]; omega) (Nat.le_refl _) (by simp), Nat.sub_self]; rfl
  have e0 : ∀ k, a ≤ k → k < m → (X ++ A ++ [y] ++ Y)[k]? = A[k - a]? := fun k k1 k2 => by
    rw [List.append_assoc (X ++ A), at_mid ha k1 (by omega)]
  have hd : A.take (i - a) ++ A.drop (i - a) = A := List.take_append_drop _ _
  obtain ⟨s1, s2⟩ := split_at (C := A) (t := i - a) (by omega)
  constructor
  · refine ins_last (by rw [hd]; exact hc) (by rw [hd]; exact hl) ?_ ?_
    · rcases s1 with s1 | ⟨B', x, s1, s3, s4⟩
      · exact .inl s1
      · refine .inr ⟨B', x, s1, ?_⟩
        rcases hlo with e | hlo
        · omega
        · refine hlo y x ey ?_
          rw [e0 _ (by omega) (by omega), show i - 1 - a = i - a - 1 by omega]; exact s3
    · rcases s2 with s2 | ⟨x, B', s2, s3, s4⟩
      · exact .inl s2
      · refine .inr ⟨x, B', s2, ?_⟩
        rcases hhi with e | hhi
        · omega
        · refine hhi y x ey ?_
          rw [e0 _ (by omega) (by omega)]; exact s3
  · have h3 := List.perm_middle (a := y) (l₁ := A.take (i - a)) (l₂ := A.drop (i - a))
    rw [hd] at h3
    exact h3.trans (by simpa using (List.perm_append_comm (l₁ := [y]) (l₂ := A)))
theorem bl_take {A C : List EV} (h : Bl A C) (s t : Nat) : Bl (A.take s) (C.take t) ∧ Bl (A.drop s) (C.drop t) :=
  ⟨fun x hx y hy => h x (List.mem_of_mem_take hx) y (List.mem_of_mem_take hy), fun x hx y hy => h x (List.mem_of_mem_drop hx) y (List.mem_of_mem_drop hy)⟩
/-- The cut of two sorted rows that was found: heads and tails, merged, make the whole. -/
theorem cut_done {X A C Y : List EV} {a m q s e : Nat} (ha : X.length = a) (hm : m = a + A.length) (hq : q = m + C.length) (hA : Sx A) (hC : Sx C) (hl : Bl A C) (h1 : a ≤ s) (h2 : s ≤ m) (h3 : m ≤ e) (h4 : e ≤ q)
    (hlo : s = a ∨ e = q ∨ NltA (X ++ A ++ C ++ Y) e (s - 1)) (hhi : s = m ∨ e = m ∨ LtA (X ++ A ++ C ++ Y) (e - 1) s) {D1 D2 : List EV}
    (p1 : D1.Perm (A.take (s - a) ++ C.take (e - m))) (k1 : Sx D1) (p2 : D2.Perm (A.drop (s - a) ++ C.drop (e - m))) (k2 : Sx D2) : Sx (D1 ++ D2) ∧ (D1 ++ D2).Perm (A ++ C) := by
  have e0 : ∀ k, a ≤ k → k < m → (X ++ A ++ C ++ Y)[k]? = A[k - a]? := fun k k1 k2 => by
    rw [List.append_assoc (X ++ A), at_mid ha k1 (by omega)]
  have e1 : ∀ k, m ≤ k → k < q → (X ++ A ++ C ++ Y)[k]? = C[k - m]? := fun k k1 k2 => by
    rw [at_mid (X := X ++ A) (m := m) (by rw [List.length_append]; omega) k1 (by omega)]
  have da : A.take (s - a) ++ A.drop (s - a) = A := List.take_append_drop _ _
  have dc : C.take (e - m) ++ C.drop (e - m) = C := List.take_append_drop _ _
  obtain ⟨a1, a2⟩ := split_at (C := A) (t := s - a) (by omega)
  obtain ⟨c1, c2⟩ := split_at (C := C) (t := e - m) (by omega)
  have := merge_two (A1 := A.take (s - a)) (A2 := A.drop (s - a)) (B1 := C.take (e - m)) (B2 := C.drop (e - m)) (by rw [da]; exact hA) (by rw [dc]; exact hC) (by rw [da, dc]; exact hl) p1 k1 p2 k2 ?_ ?_
  · rwa [da, dc] at this
  · rcases a1 with a1 | ⟨A', x, a1, a3, a4⟩
    · exact .inl a1
    · rcases c2 with c2 | ⟨y, B', c2, c3, c4⟩
      · exact .inr (.inl c2)
      · refine .inr (.inr ⟨A', x, y, B', a1, c2, ?_⟩)
        rcases hlo with h | h | h
        · omega
        · omega
        · refine h y x ?_ ?_
          · rw [e1 _ (by omega) (by omega)]; exact c3
          · rw [e0 _ (by omega) (by omega), show s - 1 - a = s - a - 1 by omega]; exact a3
  · rcases a2 with a2 | ⟨x, A', a2, a3, a4⟩
    · exact .inl a2
    · rcases c1 with c1 | ⟨B', y, c1, c3, c4⟩
      · exact .inr (.inl c1)
      · refine .inr (.inr ⟨A', x, y, B', a2, c1, ?_⟩)
        rcases hhi with h | h | h
        · omega
        · omega
        · refine h y x ?_ ?_
          · rw [e1 _ (by omega) (by omega), show e - 1 - m = e - m - 1 by omega]; exact c3
          · rw [e0 _ (by omega) (by omega)]; exact a3
end EyM
end Go.Proofs.Ytbffjhdocicfoaa
namespace Go.Proofs.Ytbffjhdocicfoaa
set_option linter.unusedVariables false
set_option linter.unusedSimpArgs false
open OtM
namespace EyM
theorem seg_len {z : List EV} {q l : Nat} : (seg q l z).length = min l (z.length - q) := by unfold seg; rw [List.length_take, List.length_drop]
theorem seg_split (z : List EV) (q l : Nat) : z = z.take q ++ seg q l z ++ z.drop (q + l) := by
  unfold seg
  rw [List.append_assoc]
  conv => lhs; rw [← List.take_append_drop q z]
  congr 1
  rw [show z.drop (q + l) = (z.drop q).drop l by rw [List.drop_drop], List.take_append_drop]
theorem seg_two (z : List EV) (q l r : Nat) : seg q (l + r) z = seg q l z ++ seg (q + l) r z := by
  unfold seg
  rw [List.take_add, List.drop_drop]
theorem seg_mem {z : List EV} {q l : Nat} {x : EV} (h : x ∈ seg q l z) : ∃ k, ∃ hk : k < z.length, q ≤ k ∧ k < q + l ∧ x = z[k] := by
  unfold seg at h
  obtain ⟨k, hk, e⟩ := List.mem_iff_getElem.1 h
  rw [List.length_take, List.length_drop] at hk
  rw [List.getElem_take, List.getElem_drop] at e
  exact ⟨q + k, by omega, by omega, by omega, e.symm⟩
/-- The numbers rise. -/
abbrev Ix (z : List EV) : Prop := z.Pairwise fun x y => x.i < y.i
theorem bl_seg {zs A C : List EV} (hx : Ix zs) {q l r s : Nat} (h : q + l ≤ r) (ha : A.Perm (seg q l zs)) (hc : C.Perm (seg r s zs)) : Bl A C := by
  intro x h1 y h2
  obtain ⟨i, hi, i1, i2, rfl⟩ := seg_mem (ha.mem_iff.1 h1)
  obtain ⟨j, hj, j1, j2, rfl⟩ := seg_mem (hc.mem_iff.1 h2)
  exact List.pairwise_iff_getElem.1 hx i j hi hj (by omega)
theorem ix_seg {zs : List EV} (hx : Ix zs) (q l : Nat) : Ix (seg q l zs) := (hx.drop).take
/-- A part was changed for another of the same length: the others stay. -/
theorem seg_other {z z' D : List EV} {a l q r : Nat} (hz : z' = z.take a ++ D ++ z.drop (a + l)) (hd : D.length = (seg a l z).length) (hq : q + r ≤ a ∨ a + l ≤ q) (ha : a ≤ z.length) : seg q r z' = seg q r z := by
  have e := seg_split z a l
  rw [hz]
  conv => rhs; rw [e]
  by_cases c : a + l ≤ z.length
  · refine seg_app ?_ hd
    rw [List.length_take, seg_len]
    omega
  · rcases hq with hq | hq
    · refine seg_app ?_ hd
      rw [List.length_take]; left; omega
    · have h1 : ∀ w : List EV, w.length ≤ q → seg q r w = [] := fun w hw => by unfold seg; rw [List.drop_of_length_le hw]; simp
      rw [h1, h1]
      · simp only [List.length_append, List.length_take, List.length_drop, seg_len]; omega
      · simp only [List.length_append, List.length_take, List.length_drop, hd, seg_len]; omega
theorem seg_new {z z' D : List EV} {a l : Nat} (hz : z' = z.take a ++ D ++ z.drop (a + l)) (hd : D.length = (seg a l z).length) (ha : a ≤ z.length) : seg a l z' = D := by
  rw [hz]
  have e : (z.take a).length = a := by rw [List.length_take]; omega
  have h2 := seg_mid (X := z.take a) (C := D) (Y := z.drop (a + l)) (l := l) (by
    by_cases c : a + l ≤ z.length
    · left; rw [hd, seg_len]; omega
    · right; exact ⟨by rw [hd, seg_len]; omega, List.drop_of_length_le (by omega)⟩)
  rw [e] at h2; exact h2
/-- When parts of 20 ahead of a are sorted. -/
structure Ph1 (zs : List EV) (n a : Nat) (z : List EV) : Prop where
  len : z.length = n
  mul : a % 20 = 0
  le : a ≤ n
  done : ∀ k, k < a → k % 20 = 0 → SegOk zs k 20 z
  rest : z.drop a = zs.drop a
theorem Ph1.start (zs : List EV) : Ph1 zs zs.length 0 zs := ⟨rfl, rfl, Nat.zero_le _, fun k hk => absurd hk (Nat.not_lt_zero _), rfl⟩
theorem Ph1.seg {zs z : List EV} {n a : Nat} (h : Ph1 zs n a z) (l : Nat) : seg a l z = seg a l zs := by unfold EyM.seg; rw [h.rest]
theorem Ph1.next {zs z z' D : List EV} {n a : Nat} (h : Ph1 zs n a z) (hz : z' = z.take a ++ D ++ z.drop (a + 20)) (hp : D.Perm (EyM.seg a 20 z)) (hs : Sx D) :
    z'.length = n ∧ (∀ k, k ≤ a → k % 20 = 0 → SegOk zs k 20 z') ∧ (a + 20 ≤ n → z'.drop (a + 20) = zs.drop (a + 20)) := by
  have hl := h.len
  have hle := h.le
  have hd := hp.length_eq
  refine ⟨?_, fun k hk hm => ?_, fun hb => ?_⟩
  · rw [hz, List.length_append, List.length_append, List.length_take, List.length_drop, hd, seg_len]; omega
  · rcases Nat.lt_or_ge k a with c | c
    · have hma := h.mul
      have e := seg_other hz hd (q := k) (r := 20) (.inl (by omega)) (by omega)
      obtain ⟨s1, s2⟩ := h.done k c hm
      exact ⟨by rw [e]; exact s1, by rw [e]; exact s2⟩
    · obtain rfl : k = a := by omega
      have e := seg_new hz hd (by omega)
      exact ⟨by rw [e]; exact hs, by rw [e, ← h.seg]; exact hp⟩
  · have e2 : (z.take a ++ D).length = a + 20 := by rw [List.length_append, List.length_take, hd, seg_len]; omega
    rw [hz, ← e2, List.drop_left, e2]
    have := congrArg (List.drop 20) h.rest
    rwa [List.drop_drop, List.drop_drop] at this
/-- When parts of twice s ahead of a are sorted, of s behind. -/
structure Ph2 (zs : List EV) (n s a : Nat) (z : List EV) : Prop where
  len : z.length = n
  pos : 0 < s
  mul : a % (2 * s) = 0
  done : ∀ k, k < a → k % (2 * s) = 0 → SegOk zs k (2 * s) z
  rest : ∀ k, a ≤ k → k % s = 0 → SegOk zs k s z
theorem mod_two {a s : Nat} (h : a % (2 * s) = 0) : a % s = 0 := by
  rw [← Nat.mod_mod_of_dvd a (Nat.dvd_mul_left s 2), h, Nat.zero_mod]
theorem Ph1.ph2 {zs z z' D : List EV} {n a : Nat} (h : Ph1 zs n a z) (hz : z' = z.take a ++ D ++ z.drop (a + 20)) (hp : D.Perm (EyM.seg a 20 z)) (hs : Sx D) (hb : n < a + 20) (hzn : zs.length = n) : Ph2 zs n 20 0 z' := by
  obtain ⟨h1, h2, -⟩ := h.next hz hp hs
  refine ⟨h1, by decide, rfl, fun k hk => absurd hk (Nat.not_lt_zero _), fun k _ hm => ?_⟩
  rcases Nat.lt_or_ge a k with c | c
  · have hma := h.mul
    have e1 : EyM.seg k 20 z' = [] := by unfold EyM.seg; rw [List.drop_of_length_le (by omega)]; rfl
    have e2 : EyM.seg k 20 zs = [] := by unfold EyM.seg; rw [List.drop_of_length_le (by omega)]; rfl
    exact ⟨by rw [e1]; exact .nil, by rw [e1, e2]⟩
  · exact h2 k c hm
theorem Ph2.two {zs z : List EV} {n s a : Nat} (h : Ph2 zs n s a z) (hx : Ix zs) : Sx (EyM.seg a s z) ∧ Sx (EyM.seg (a + s) s z) ∧ Bl (EyM.seg a s z) (EyM.seg (a + s) s z) ∧ EyM.seg a (2 * s) z = EyM.seg a s z ++ EyM.seg (a + s) s z := by
  have hm := mod_two h.mul
  obtain ⟨a1, a2⟩ := h.rest a (Nat.le_refl _) hm
  obtain ⟨b1, b2⟩ := h.rest (a + s) (by omega) (by rw [Nat.add_mod_right]; exact hm)
  refine ⟨a1, b1, bl_seg hx (Nat.le_refl _) a2 b2, ?_⟩
  rw [show 2 * s = s + s by omega]; exact seg_two z a s s
theorem Ph2.next {zs z z' D : List EV} {n s a : Nat} (h : Ph2 zs n s a z) (hz : z' = z.take a ++ D ++ z.drop (a + 2 * s)) (hp : D.Perm (EyM.seg a s z ++ EyM.seg (a + s) s z)) (hs : Sx D) (ha : a ≤ n) : Ph2 zs n s (a + 2 * s) z' := by
  have hl := h.len
  have h0 := h.pos
  have hm := mod_two h.mul
  have e2 : EyM.seg a (2 * s) z = EyM.seg a s z ++ EyM.seg (a + s) s z := by rw [show 2 * s = s + s by omega]; exact seg_two z a s s
  have e3 : EyM.seg a (2 * s) zs = EyM.seg a s zs ++ EyM.seg (a + s) s zs := by rw [show 2 * s = s + s by omega]; exact seg_two zs a s s
  have hd : D.length = (EyM.seg a (2 * s) z).length := by rw [e2]; exact hp.length_eq
  refine ⟨?_, h0, by rw [Nat.add_mod_right]; exact h.mul, fun k hk hmk => ?_, fun k hk hmk => ?_⟩
  · rw [hz, List.length_append, List.length_append, List.length_take, List.length_drop, hd, seg_len]; omega
  · rcases Nat.lt_trichotomy k a with c | c | c
    · have e := seg_other hz hd (q := k) (r := 2 * s) (.inl (by
        have hq : k / (2 * s) < a / (2 * s) := by
          apply Nat.lt_of_mul_lt_mul_left (a := 2 * s)
          rw [Nat.mul_div_cancel' (Nat.dvd_of_mod_eq_zero hmk), Nat.mul_div_cancel' (Nat.dvd_of_mod_eq_zero h.mul)]; exact c
        have h1 := Nat.mul_div_cancel' (Nat.dvd_of_mod_eq_zero hmk)
        have h2 := Nat.mul_div_cancel' (Nat.dvd_of_mod_eq_zero h.mul)
        have h3 : 2 * s * (k / (2 * s) + 1) ≤ 2 * s * (a / (2 * s)) := Nat.mul_le_mul_left _ hq
        rw [Nat.mul_add, h1, h2] at h3; omega)) (by omega)
      obtain ⟨s1, s2⟩ := h.done k c hmk
      exact ⟨by rw [e]; exact s1, by rw [e]; exact s2⟩
    · subst c
      have e := seg_new hz hd (by omega)
      refine ⟨by rw [e]; exact hs, ?_⟩
      rw [e, e3]
      exact hp.trans (List.Perm.append (h.rest k (Nat.le_refl _) hm).2 (h.rest (k + s) (by omega) (by rw [Nat.add_mod_right]; exact hm)).2)
    · exfalso
      have h1 := Nat.mul_div_cancel' (Nat.dvd_of_mod_eq_zero hmk)
      have h2 := Nat.mul_div_cancel' (Nat.dvd_of_mod_eq_zero h.mul)
      have q1 : a / (2 * s) < k / (2 * s) := by
        apply Nat.lt_of_mul_lt_mul_left (a := 2 * s); rw [h1, h2]; exact c
      have q2 : k / (2 * s) < a / (2 * s) + 1 := by
        apply Nat.lt_of_mul_lt_mul_left (a := 2 * s); rw [h1, Nat.mul_add, h2]; omega
      omega
  · have e := seg_other hz hd (q := k) (r := s) (.inr (by omega)) (by omega)
    obtain ⟨s1, s2⟩ := h.rest k (by omega) hmk
    exact ⟨by rw [e]; exact s1, by rw [e]; exact s2⟩
/-- The last part has no neighbour. -/
theorem Ph2.over {zs z : List EV} {n s a : Nat} (h : Ph2 zs n s a z) (hb : n ≤ a + s) (hzn : zs.length = n) : Ph2 zs n (2 * s) 0 z := by
  have h0 := h.pos
  have hl := h.len
  refine ⟨hl, by omega, Nat.zero_mod _, fun k hk => absurd hk (Nat.not_lt_zero _), fun k _ hm => ?_⟩
  rcases Nat.lt_trichotomy k a with c | c | c
  · exact h.done k c hm
  · subst c
    have e : ∀ w : List EV, w.length = n → EyM.seg k (2 * s) w = EyM.seg k s w := fun w hw => by
      unfold EyM.seg
      rw [List.take_of_length_le (by rw [List.length_drop]; omega), List.take_of_length_le (by rw [List.length_drop]; omega)]
    obtain ⟨s1, s2⟩ := h.rest k (Nat.le_refl _) (mod_two h.mul)
    exact ⟨by rw [e z hl]; exact s1, by rw [e z hl, e zs hzn]; exact s2⟩
  · obtain ⟨s1, s2⟩ := h.rest k (by omega) (mod_two hm)
    have h1 := Nat.mul_div_cancel' (Nat.dvd_of_mod_eq_zero hm)
    have h2 := Nat.mul_div_cancel' (Nat.dvd_of_mod_eq_zero h.mul)
    have q1 : a / (2 * s) < k / (2 * s) := by
      apply Nat.lt_of_mul_lt_mul_left (a := 2 * s); rw [h1, h2]; exact c
    have h3 : 2 * s * (a / (2 * s) + 1) ≤ 2 * s * (k / (2 * s)) := Nat.mul_le_mul_left _ q1
    rw [Nat.mul_add, h1, h2] at h3
    have e : ∀ w : List EV, w.length = n → EyM.seg k (2 * s) w = [] := fun w hw => by
      unfold EyM.seg; rw [List.drop_of_length_le (by omega)]; simp
    exact ⟨by rw [e z hl]; exact .nil, by rw [e z hl, e zs hzn]⟩
theorem Ph2.end2 {zs z : List EV} {n s a : Nat} (h : Ph2 zs n s a z) (hb : n ≤ a) (hzn : zs.length = n) : Ph2 zs n (2 * s) 0 z := h.over (by omega) hzn
theorem Ph2.all {zs z : List EV} {n s : Nat} (h : Ph2 zs n s 0 z) (hb : n ≤ s) (hzn : zs.length = n) : Sx z ∧ z.Perm zs := by
  obtain ⟨s1, s2⟩ := h.rest 0 (Nat.le_refl _) (Nat.zero_mod _)
  have e : ∀ w : List EV, w.length = n → EyM.seg 0 s w = w := fun w hw => by unfold EyM.seg; rw [List.drop_zero, List.take_of_length_le (by omega)]
  rw [e z h.len] at s1
  rw [e z h.len, e zs hzn] at s2
  exact ⟨s1, s2⟩
end EyM
end Go.Proofs.Ytbffjhdocicfoaa
namespace Go.Proofs.Ytbffjhdocicfoaa
open Go.RowKit
set_option linter.unusedVariables false
set_option linter.unusedSimpArgs false
open CodM (St Pg rightP)
open ScM

theorem allocs_cell : ∀ (l : List Obj) (w : World) (j : Nat) (cs : Array Value) (T : TypeId) (i : Nat) (v : Value), l[j]? = some (.cells cs T) → cs[i]? = some v →
    (l.foldl World.alloc w).cell? ⟨w.heap.size + j, i, none⟩ = some v ∧ (l.foldl World.alloc w).frozen? ⟨w.heap.size + j, i, none⟩ = false
  | [], w, j, cs, T, i, v, h, _ => by simp at h
  | o :: r, w, 0, cs, T, i, v, h, hi => by
    obtain rfl : o = .cells cs T := by simpa using h
    have hb : ∀ (r : List Obj) (W : World), Below W.heap.size W (r.foldl World.alloc W) := by
      intro r
      induction r with
      | nil => exact fun W => Below.refl _ _
      | cons o r ih => exact fun W => (below_al (Below.refl W.heap.size W) o).trans ((ih _).mono (by simp))
    exact kept_box (hb r _) i hi
  | o :: r, w, j + 1, cs, T, i, v, h, hi => by
    have := allocs_cell r (w.alloc o) j cs T i v (by simpa using h) hi
    rw [World.size_alloc, show w.heap.size + 1 + j = w.heap.size + (j + 1) by omega] at this
    exact this
def bufP : Pg := ⟨[0, 0], [[⟨4, 0, 0, 1, 0⟩, ⟨2, 0, 1, 0, 0⟩], [⟨4, 0, 1, 1, 0⟩, ⟨2, 0, 0, 0, 0⟩]]⟩
theorem sts_lit {B b : Nat} {W : World} {ss : List St} (hb : b < B) (hn : ss.length ≤ 1000) (h : ∀ j (hj : j < ss.length), StAt W b (j * 5) ss[j]) : Sts B W (.slice (some ⟨b, 0, none⟩) ss.length ss.length) ss :=
  ⟨_, ss.length, rfl, Nat.le_refl _, by unfold maxLen; omega, fun _ => ⟨b, 0, rfl, hb, fun j hj => by rw [Nat.zero_add]; exact h j hj⟩⟩
theorem sss_lit {B b : Nat} {W : World} {ts : List (List St)} (hb : b < B) (hn : ts.length ≤ 1000) (h : ∀ j (hj : j < ts.length), SsAt B W b j ts[j]) : Sss B W (.slice (some ⟨b, 0, none⟩) ts.length ts.length) ts :=
  ⟨_, ts.length, rfl, Nat.le_refl _, by unfold maxLen; omega, fun _ => ⟨b, 0, rfl, hb, fun j hj => by rw [Nat.zero_add]; exact h j hj⟩⟩
theorem ints_lit {B b : Nat} {W : World} {ns : List Int} (hb : b < B) (hn : ns.length ≤ 1000) (h : ∀ j (hj : j < ns.length), IntAt W b j ns[j]) : Ints B W (.slice (some ⟨b, 0, none⟩) ns.length ns.length) ns :=
  ⟨_, ns.length, rfl, Nat.le_refl _, by unfold maxLen; omega, fun _ => ⟨b, 0, rfl, hb, fun j hj => by rw [Nat.zero_add]; exact h j hj⟩⟩
set_option maxHeartbeats 8000000 in
set_option maxRecDepth 100000 in
theorem buf7_any (w : World) : Calls Try.prog 19 #[] w fun e w' => ∃ vi vt, e = .returned (.agg #[vi, vt]) ∧ PgM w'.heap.size w' vi vt bufP ∧ NilZ vi ∧ Below w.heap.size w w' := by
  have hz : Try.prog.cellsOf 25 = 2 := by kernel_rfl
  go_enter Try.func19, Try.ntmps19
  go_wp2
  have hB := (below_al (below_al (below_al (below_al (below_al (Below.refl w.heap.size w) (.cells #[.slice (some ⟨w.heap.size + 1, 0, none⟩) 2 2, .slice (some ⟨w.heap.size + 1 + 1 + 1 + 1, 0, none⟩) 2 2] 25)) (.cells #[.int .i64 0, .int .i64 0] 3)) (.cells #[.int .i64 4, .int .i64 0, .int .i64 0, .int .i64 1, .int .i64 0, .int .i64 2, .int .i64 0, .int .i64 1, .int .i64 0, .int .i64 0] 70)) (.cells #[.int .i64 4, .int .i64 0, .int .i64 1, .int .i64 1, .int .i64 0, .int .i64 2, .int .i64 0, .int .i64 0, .int .i64 0, .int .i64 0] 70)) (.cells #[.slice (some ⟨w.heap.size + 1 + 1, 0, none⟩) 2 2, .slice (some ⟨w.heap.size + 1 + 1 + 1, 0, none⟩) 2 2] 50))
  have HC : ∀ (j i : Nat) (cs : Array Value) (T : TypeId) (v : Value), ([.cells #[.slice (some ⟨w.heap.size + 1, 0, none⟩) 2 2, .slice (some ⟨w.heap.size + 1 + 1 + 1 + 1, 0, none⟩) 2 2] 25, .cells #[.int .i64 0, .int .i64 0] 3, .cells #[.int .i64 4, .int .i64 0, .int .i64 0, .int .i64 1, .int .i64 0, .int .i64 2, .int .i64 0, .int .i64 1, .int .i64 0, .int .i64 0] 70, .cells #[.int .i64 4, .int .i64 0, .int .i64 1, .int .i64 1, .int .i64 0, .int .i64 2, .int .i64 0, .int .i64 0, .int .i64 0, .int .i64 0] 70, .cells #[.slice (some ⟨w.heap.size + 1 + 1, 0, none⟩) 2 2, .slice (some ⟨w.heap.size + 1 + 1 + 1, 0, none⟩) 2 2] 50] : List Obj)[j]? = some (.cells cs T) → cs[i]? = some v → ((World.alloc (World.alloc (World.alloc (World.alloc (World.alloc w (.cells #[.slice (some ⟨w.heap.size + 1, 0, none⟩) 2 2, .slice (some ⟨w.heap.size + 1 + 1 + 1 + 1, 0, none⟩) 2 2] 25)) (.cells #[.int .i64 0, .int .i64 0] 3)) (.cells #[.int .i64 4, .int .i64 0, .int .i64 0, .int .i64 1, .int .i64 0, .int .i64 2, .int .i64 0, .int .i64 1, .int .i64 0, .int .i64 0] 70)) (.cells #[.int .i64 4, .int .i64 0, .int .i64 1, .int .i64 1, .int .i64 0, .int .i64 2, .int .i64 0, .int .i64 0, .int .i64 0, .int .i64 0] 70)) (.cells #[.slice (some ⟨w.heap.size + 1 + 1, 0, none⟩) 2 2, .slice (some ⟨w.heap.size + 1 + 1 + 1, 0, none⟩) 2 2] 50))).cell? ⟨w.heap.size + j, i, none⟩ = some v := fun j i cs T v h1 h2 => (allocs_cell [.cells #[.slice (some ⟨w.heap.size + 1, 0, none⟩) 2 2, .slice (some ⟨w.heap.size + 1 + 1 + 1 + 1, 0, none⟩) 2 2] 25, .cells #[.int .i64 0, .int .i64 0] 3, .cells #[.int .i64 4, .int .i64 0, .int .i64 0, .int .i64 1, .int .i64 0, .int .i64 2, .int .i64 0, .int .i64 1, .int .i64 0, .int .i64 0] 70, .cells #[.int .i64 4, .int .i64 0, .int .i64 1, .int .i64 1, .int .i64 0, .int .i64 2, .int .i64 0, .int .i64 0, .int .i64 0, .int .i64 0] 70, .cells #[.slice (some ⟨w.heap.size + 1 + 1, 0, none⟩) 2 2, .slice (some ⟨w.heap.size + 1 + 1 + 1, 0, none⟩) 2 2] 50] w j cs T i v h1 h2).1
  obtain ⟨W, hW⟩ : ∃ W, W = (World.alloc (World.alloc (World.alloc (World.alloc (World.alloc w (.cells #[.slice (some ⟨w.heap.size + 1, 0, none⟩) 2 2, .slice (some ⟨w.heap.size + 1 + 1 + 1 + 1, 0, none⟩) 2 2] 25)) (.cells #[.int .i64 0, .int .i64 0] 3)) (.cells #[.int .i64 4, .int .i64 0, .int .i64 0, .int .i64 1, .int .i64 0, .int .i64 2, .int .i64 0, .int .i64 1, .int .i64 0, .int .i64 0] 70)) (.cells #[.int .i64 4, .int .i64 0, .int .i64 1, .int .i64 1, .int .i64 0, .int .i64 2, .int .i64 0, .int .i64 0, .int .i64 0, .int .i64 0] 70)) (.cells #[.slice (some ⟨w.heap.size + 1 + 1, 0, none⟩) 2 2, .slice (some ⟨w.heap.size + 1 + 1 + 1, 0, none⟩) 2 2] 50)) := ⟨_, rfl⟩
  rw [← hW] at hB HC ⊢
  have hsz : W.heap.size = w.heap.size + 5 := by rw [hW]; simp only [World.size_alloc]
  clear hW
  have c0 : W.cell? ⟨w.heap.size, 0, none⟩ = some (.slice (some ⟨w.heap.size + 1, 0, none⟩) 2 2) := HC 0 0 _ _ _ rfl rfl
  have c1 : W.cell? ⟨w.heap.size, 1, none⟩ = some (.slice (some ⟨w.heap.size + 1 + 1 + 1 + 1, 0, none⟩) 2 2) := HC 0 1 _ _ _ rfl rfl
  refine bodyPost_ret (v := .agg #[.slice (some ⟨w.heap.size + 1, 0, none⟩) 2 2, .slice (some ⟨w.heap.size + 1 + 1 + 1 + 1, 0, none⟩) 2 2]) (by simp [results, Try.results19, go_sem, c0, c1, hz]) rfl ⟨_, _, rfl, ⟨?_, ?_⟩, (fun n c e => by cases e), hB⟩
  · refine ints_lit (ns := [0, 0]) (by omega) (by decide) (fun j hj => ?_)
    match j, hj with
    | 0, _ => exact HC 1 0 _ _ _ rfl rfl
    | 1, _ => exact HC 1 1 _ _ _ rfl rfl
  · refine sss_lit (ts := bufP.ths) (by omega) (by decide) (fun j hj => ?_)
    match j, hj with
    | 0, _ =>
      refine ⟨_, HC 4 0 _ _ _ rfl rfl, sts_lit (ss := [⟨4, 0, 0, 1, 0⟩, ⟨2, 0, 1, 0, 0⟩]) (by omega) (by decide) (fun j hj => ?_)⟩
      match j, hj with
      | 0, _ => exact ⟨HC 2 0 _ _ _ rfl rfl, HC 2 1 _ _ _ rfl rfl, HC 2 2 _ _ _ rfl rfl, HC 2 3 _ _ _ rfl rfl, HC 2 4 _ _ _ rfl rfl⟩
      | 1, _ => exact ⟨HC 2 5 _ _ _ rfl rfl, HC 2 6 _ _ _ rfl rfl, HC 2 7 _ _ _ rfl rfl, HC 2 8 _ _ _ rfl rfl, HC 2 9 _ _ _ rfl rfl⟩
    | 1, _ =>
      refine ⟨_, HC 4 1 _ _ _ rfl rfl, sts_lit (ss := [⟨4, 0, 1, 1, 0⟩, ⟨2, 0, 0, 0, 0⟩]) (by omega) (by decide) (fun j hj => ?_)⟩
      match j, hj with
      | 0, _ => exact ⟨HC 3 0 _ _ _ rfl rfl, HC 3 1 _ _ _ rfl rfl, HC 3 2 _ _ _ rfl rfl, HC 3 3 _ _ _ rfl rfl, HC 3 4 _ _ _ rfl rfl⟩
      | 1, _ => exact ⟨HC 3 5 _ _ _ rfl rfl, HC 3 6 _ _ _ rfl rfl, HC 3 7 _ _ _ rfl rfl, HC 3 8 _ _ _ rfl rfl, HC 3 9 _ _ _ rfl rfl⟩
end Go.Proofs.Ytbffjhdocicfoaa
