/-
  enc.Key: the numbers' texts, with one blank between.
  ROWS OF PICKS; the document's SamePicks, of alike ones.
  THE DOCUMENT's Drain and All.
-/
import Derived.Test.YtbffjhdocicfoaaK10
import Derived.Test.YtbffjhdocicfoaaEnW
import Derived.Test.YtbffjhdocicfoaaK03
import Derived.Test.YtbffjhdocicfoaaK16
import Derived.Deep.RegionHeld3
import Derived.Deep.DeepCutAuto
import Derived.Test.YtbffjhdocicfoaaK15
set_option linter.unusedVariables false
set_option linter.unusedSimpArgs false
namespace Go.Proofs.Ytbffjhdocicfoaa
open Go.RowKit Go.Shelf
set_option linter.unusedVariables false
set_option linter.unusedSimpArgs false
open WordM (L)
open BfM (Wr)
open ScM
open EnM

theorem TxAt.below {B b : Nat} {p : Value} {bs : List Value} {w w' : World} (h : TxAt B b p bs w) (hb : Below w.heap.size w w') : TxAt B b p bs w' := by
  obtain ⟨hB, v, hbk, hown, hne⟩ := h
  have hlt : b < w.heap.size := (Array.getElem?_eq_some_iff.1 hbk).1
  exact ⟨hB, v, (hb.block b hlt).trans hbk, hown.kept (row := none) ⟨hb.os, hb.tape, hb.output, hb.size, fun k hk _ => hb.block k hk⟩ (by
    rcases hown.2 with ⟨rfl, _⟩ | ⟨g, cap, cur, fz, rfl, _⟩
    · exact .inl rfl
    · right; simp [Value.ownBlock]), hne⟩
theorem IsTx.below {B b : Nat} {bs : List Value} {w w' : World} (h : IsTx B b bs w) (hb : Below w.heap.size w w') : IsTx B b bs w' :=
  h.elim (fun x => Or.inl (TxAt.below x hb)) (fun x => Or.inr (TxAt.below x hb))
theorem bytes_app (a b : L) : Lib.byteCells a ++ Lib.strCells ⟨b.toArray⟩ = Lib.byteCells (a ++ b) := by
  rw [Lib.strCells_eq]; simp [Lib.byteCells]
theorem put_l (B b : Nat) (l m : L) (w : World) (h : IsTx B b (Lib.byteCells l) w) (hlen : l.length + m.length ≤ 140737488355328) (hBw : B ≤ w.heap.size) :
    Calls Try.prog 59 #[.pointer (some ⟨b, 0, none⟩), .string ⟨m.toArray⟩] w fun e w' => e = .returned (.tuple #[.int .i64 (m.length : Nat), .nilIface]) ∧ IsTx B b (Lib.byteCells (l ++ m)) w' ∧ Below B w w' ∧ KeptT b w w' := by
  refine (bput_any B b (Lib.byteCells l) ⟨m.toArray⟩ w h (by rw [Lib.byteCells_length, Lib.size_eq]; exact hlen) hBw).mono fun e w' ⟨he, ht, hb, hk⟩ => ⟨?_, ?_, hb, hk⟩
  · rw [he, Lib.size_eq]
  · rw [bytes_app] at ht
    exact Or.inr ht
theorem tx_fresh {B : Nat} (w : World) (h : B ≤ w.heap.size) : IsTx B w.heap.size (Lib.byteCells []) (w.alloc (.cells #[.pointer none, .slice none 0 0] 106)) :=
  Or.inl ⟨h, _, heap_alloc_new w _, World.ownsRowF_of (World.ownsRow_nil _ _ _ _), by simp [Value.ownBlock]⟩
/-- A row of numbers stays, whatever is written to a text. -/
theorem own_tx {base g b n : Nat} {W W' : World} {v : Value} {xs : List Value} (h : W.ownsRow base 3 1 v n xs) (hb : Below g W W') (hne : v.ownBlock ≠ some b) (hk : KeptT b W W') : W'.ownsRow base 3 1 v n xs := by
  refine ⟨h.1, ?_⟩
  rcases h.2 with hn | ⟨g1, cap, cur, rfl, hg, hgg, rest⟩
  · exact .inl hn
  · exact .inr ⟨g1, cap, cur, rfl, hg, (hk g1 cur _ _ hgg (by decide) (fun e => hne (by simp [Value.ownBlock, e]))).trans hgg, rest⟩
theorem keyL_take {l : List Int} {k : Nat} (h : k < l.length) : keyL (l.take (k + 1)) = if k = 0 then NumM.text l[k] else keyL (l.take k) ++ 32 :: NumM.text l[k] := by
  rw [List.take_succ_eq_append_getElem h]
  have hg : ∀ (m : List Int) (x : Int), keyL (m ++ [x]) = if m = [] then NumM.text x else keyL m ++ 32 :: NumM.text x := by
    intro m x
    induction m with
    | nil => rfl
    | cons a r ih =>
      rw [if_neg (by simp)]
      cases r with
      | nil => rfl
      | cons b q =>
        rw [if_neg (by simp)] at ih
        show NumM.text a ++ 32 :: keyL ((b :: q) ++ [x]) = (NumM.text a ++ 32 :: keyL (b :: q)) ++ 32 :: NumM.text x
        rw [ih]
        simp
  rw [hg]
  by_cases h0 : k = 0
  · subst h0; simp
  · rw [if_neg h0, if_neg (by
      intro e
      rcases List.take_eq_nil_iff.1 e with e | e
      · exact h0 e
      · subst e; simp at h)]
def KyRel (l : List Int) (v : Value) (b base : Nat) (w : World) (i : Value) (wr : World) : Prop :=
  ∃ k : Nat, k ≤ l.length ∧ i = .int .i64 k ∧ IsTx w.heap.size b (Lib.byteCells (keyL (l.take k))) wr ∧ wr.ownsRow base 3 1 v l.length (l.flatMap nuC) ∧ Below w.heap.size w wr
theorem keyL_ne {l : List Int} (h : l ≠ []) (hi : ∀ n ∈ l, NumM.inR n) : keyL l ≠ [] := by
  cases l with
  | nil => exact absurd rfl h
  | cons a r =>
    have := (text_free a (hi a List.mem_cons_self)).2
    cases r with
    | nil => exact this
    | cons b q => simp [keyL]
theorem keyL_take_len {l : List Int} (hi : ∀ n ∈ l, NumM.inR n) (k : Nat) : (keyL (l.take k)).length ≤ 21 * l.length := by
  have := keyL_len (l.take k) (fun n hn => hi n (List.mem_of_mem_take hn))
  rw [List.length_take] at this
  omega
set_option maxHeartbeats 8000000 in
set_option maxRecDepth 100000 in
theorem key_any {B : Nat} {s : Sta} {v : Value} (w : World) (hv : StaV B w v s) (hBB : B ≤ w.heap.size) (hi : ∀ n ∈ numsS s, NumM.inR n) (hl : (numsS s).length ≤ 1000000) :
    Calls Try.prog 47 #[v] w fun e w' => e = .returned (.string ⟨(keyS s).toArray⟩) ∧ Below w.heap.size w w' := by
  obtain ⟨vm, vt, rfl, hm, ht⟩ := hv
  have hA := below_al (Below.refl w.heap.size w) (.cells #[vm, vt] 62)
  have hA2 := below_al hA (.cells #[.pointer none, .slice none 0 0] 106)
  have hs1 : (w.alloc (.cells #[vm, vt] 62)).heap.size = w.heap.size + 1 := by simp
  have htx := tx_fresh (B := w.heap.size) (w.alloc (.cells #[vm, vt] 62)) (by rw [hs1]; omega)
  rw [hs1] at htx
  have hbx := (BoxC.new w 62 #[vm, vt]).alloc (.cells #[.pointer none, .slice none 0 0] 106)
  have HN := Lib.hid (nums_any _ (⟨vm, vt, rfl, StaM.below ⟨hm, ht⟩ (hA2.mono hBB)⟩ : StaV B _ (.agg #[vm, vt]) s) (Nat.le_trans hBB hA2.size) (by omega))
  have HKS := Lib.hid (show keyS s = keyL (numsS s) from rfl)
  have HTW := Lib.hid (numsS_two s)
  obtain ⟨A1, c1, rfl, -⟩ := hm
  obtain ⟨A2, c2, rfl, -⟩ := ht
  generalize keyS s = ks at *
  generalize numsS s = l at *
  have HTX := Lib.hid htx
  have HIN := Lib.hid hi
  have d0 := hbx.cell 0 _ rfl
  have d1 := hbx.cell 1 _ rfl
  clear hA htx hbx hs1 hi
  go_enter Try.func47, Try.ntmps47
  go_wp2_with (go_at_call 58; refine HN.out.mono ?_)
  rintro e w2 ⟨u, rfl, hou, hb2⟩
  have hT2 := HTX.out.below hb2
  have hB2 := hA2.trans (hb2.mono hA2.size)
  have hnb : u.ownBlock ≠ some (w.heap.size + 1) := fun e => by have := (hou.lt _ e).1; simp at this; omega
  have HNB := Lib.hid hnb
  have HST := Lib.hid (show KyRel l u (w.heap.size + 1) ((w.alloc (.cells #[.slice A1 s.mem.length c1, .slice A2 s.ths.length c2] 62)).alloc (.cells #[.pointer none, .slice none 0 0] 106)).heap.size w (.int .i64 0) w2 from ⟨0, Nat.zero_le _, rfl, hT2, hou, hB2⟩)
  obtain ⟨Au, cu, rfl⟩ := own_slice hou
  obtain ⟨bs, hbs⟩ : ∃ x, x = ((w.alloc (.cells #[.slice A1 s.mem.length c1, .slice A2 s.ths.length c2] 62)).alloc (.cells #[.pointer none, .slice none 0 0] 106)).heap.size := ⟨_, rfl⟩
  rw [← hbs] at HST
  clear hbs hou hb2 hT2 hB2 hnb HN HTX d0 d1 hA2
  go_wp2
  go_loopw [9] (fun i wr => KyRel l (.slice Au l.length cu) (w.heap.size + 1) bs w i wr) (fun i _ => l.length - (intOf i).toNat)
  case atStart => exact HST.out
  case round =>
    obtain ⟨k, hk, rfl, htx, hown, hB⟩ := hrel
    clear HST
    by_cases hlt : k < l.length
    · have HT := Lib.hid (keyL_take hlt)
      have HLN := Lib.hid (keyL_take_len HIN.out k)
      have HIX := Lib.hid (HIN.out _ (List.getElem_mem hlt))
      obtain ⟨b1, f1, hA1, hl1, hc1⟩ : ∃ b f, Au = some ⟨b, f, none⟩ ∧ b < wr.heap.size ∧ wr.cell? ⟨b, f + k, none⟩ = some (.int .i64 l[k]) := by
        obtain ⟨A9, c9, e9, h1, h2, h0, h3⟩ := (Rw.own hown (Nat.le_refl _) : Rw nuC 1 wr.heap.size wr (.slice Au l.length cu) l)
        injection e9 with e9 _ e8
        subst e9
        obtain ⟨b, f, e, hb, hc⟩ := nu_at (c := cu) h3 (by omega)
        exact ⟨b, f, e, hb, hc k hlt⟩
      subst hA1
      obtain ⟨x, hx⟩ : ∃ x, x = l[k] := ⟨_, rfl⟩
      rw [← hx] at hc1 HT HIX
      clear hx
      have HTX := Lib.hid htx
      have HOW := Lib.hid hown
      have HXL := Lib.hid (NumM.text_len x HIX.out)
      have hBs := hB.size
      have HTE := Lib.hid (text_any x wr HIX.out)
      have HK0 := Lib.hid (fun W v1 (h : IsTx w.heap.size (w.heap.size + 1) (Lib.byteCells (keyL (l.take (k + 1)))) W) (h2 : W.ownsRow bs 3 1 (.slice (some ⟨b1, f1, none⟩) l.length cu) l.length (l.flatMap nuC)) (h3 : Below w.heap.size w W) (e : v1 = .int .i64 ((k : Int) + 1)) => show KyRel l (.slice (some ⟨b1, f1, none⟩) l.length cu) (w.heap.size + 1) bs w v1 W from ⟨k + 1, by omega, by rw [e]; go_num, h, h2, h3⟩)
      by_cases h0 : k = 0
      · have q1 : decide ((k : Int) > 0) = false := decide_eq_false (by omega)
        have q2 : decide (0 < (k : Int)) = false := decide_eq_false (by omega)
        have q3 : decide (0 < k) = false := decide_eq_false (by omega)
        have HT0 := Lib.hid (HT.out.trans (if_pos h0))
        have HP := Lib.hid (fun W (hW : Below wr.heap.size wr W) => put_l w.heap.size (w.heap.size + 1) [] (NumM.text x) W (show IsTx w.heap.size (w.heap.size + 1) (Lib.byteCells []) W from by have h := HTX.out.below hW; rw [h0] at h; exact h) (by simp; have := HXL.out; omega) (Nat.le_trans hBs hW.size))
        clear HT htx hown h0 HTX
        go_wp2_with (go_at_call 60; refine HTE.out.mono ?_)
        rintro e w3 ⟨rfl, hb3⟩
        have hP3 := HP.out w3 hb3
        have HO3 := Lib.hid (own_below HOW.out hb3)
        have hB3 := hB.trans (hb3.mono hBs)
        clear HP hb3 hc1
        go_wp2_with (go_at_call 59; refine hP3.mono ?_)
        rintro e w4 ⟨rfl, ht4, hb4, hk4⟩
        have HO4 := Lib.hid (own_tx HO3.out hb4 HNB.out hk4)
        have hB4 := hB3.trans hb4
        clear hP3 HO3 hb4 hk4 hB3
        go_wp2
        go_roundw
        case rel => exact HK0.out _ _ (by rw [HT0.out]; exact ht4) HO4.out hB4 rfl
        case measure => simp [intOf]; omega
      · have q1 : decide ((k : Int) > 0) = true := decide_eq_true (by omega)
        have q2 : decide (0 < (k : Int)) = true := decide_eq_true (by omega)
        have q3 : decide (0 < k) = true := decide_eq_true (by omega)
        have HT0 := Lib.hid (HT.out.trans (if_neg h0))
        have HP0 := Lib.hid (put_l w.heap.size (w.heap.size + 1) (keyL (l.take k)) [32] wr HTX.out (by simp; have := HLN.out; omega) hBs)
        have HP := Lib.hid (fun W (h : IsTx w.heap.size (w.heap.size + 1) (Lib.byteCells (keyL (l.take k) ++ [32])) W) (hs : w.heap.size ≤ W.heap.size) => put_l w.heap.size (w.heap.size + 1) (keyL (l.take k) ++ [32]) (NumM.text x) W h (by simp; have := HLN.out; have := HXL.out; omega) hs)
        have HTE := Lib.hid (fun W => text_any x W HIX.out)
        clear HT htx hown h0 HTX
        go_wp2_with (go_at_call 59; refine HP0.out.mono ?_)
        rintro e w5 ⟨rfl, ht5, hb5, hk5⟩
        have HO5 := Lib.hid (own_tx HOW.out hb5 HNB.out hk5)
        have hB5 := hB.trans hb5
        have HX5 := Lib.hid ht5
        clear HP0 hb5 hk5 HOW hc1 ht5
        go_wp2_with (go_at_call 60; refine (HTE.out w5).mono ?_)
        rintro e w3 ⟨rfl, hb3⟩
        have HO3 := Lib.hid (own_below HO5.out hb3)
        have hB3 := hB5.trans (hb3.mono hB5.size)
        have hP3 := HP.out w3 (HX5.out.below hb3) hB3.size
        clear HP hb3 HX5 HO5 hB5
        go_wp2_with (go_at_call 59; refine hP3.mono ?_)
        rintro e w4 ⟨rfl, ht4, hb4, hk4⟩
        have HO4 := Lib.hid (own_tx HO3.out hb4 HNB.out hk4)
        have hB4 := hB3.trans hb4
        clear hP3 HO3 hb4 hk4 hB3
        go_wp2
        go_roundw
        case rel => exact HK0.out _ _ (by rw [HT0.out]; simpa using ht4) HO4.out hB4 rfl
        case measure => simp [intOf]; omega
    · obtain rfl : l.length = k := by omega
      rw [List.take_length] at htx
      have HRD := Lib.hid (bread_any w.heap.size (w.heap.size + 1) (keyL l) wr htx (keyL_ne (by intro e; have := HTW.out; rw [e] at this; simp at this) HIN.out))
      have HBS := Lib.hid hB
      clear htx hown hB
      go_wp2_with (go_at_call 61; refine HRD.out.mono ?_)
      rintro e w3 ⟨rfl, hb3⟩
      have hB3 := HBS.out.trans hb3
      go_wp2
      go_ret
      exact ⟨by rw [HKS.out]; rfl, hB3⟩
end Go.Proofs.Ytbffjhdocicfoaa
namespace Go.Proofs.Ytbffjhdocicfoaa
open Go.RowKit
set_option linter.unusedVariables false
set_option linter.unusedSimpArgs false

def pkC (p : Nat × Bool) : List Value := [.int .i64 (p.1 : Int), .bool p.2]
theorem pkC_len (p : Nat × Bool) : (pkC p).length = 2 := rfl
abbrev OwnK (base : Nat) (w : World) (v : Value) (b : List (Nat × Bool)) : Prop := w.ownsRow base 76 2 v b.length (b.flatMap pkC)
theorem info_pk : (Try.prog.info? 76).map (fun i => (i.zero, i.size, i.bytes)) = some (some (.agg #[.int .i64 0, .bool false]), 2, 16) := by kernel_rfl
end Go.Proofs.Ytbffjhdocicfoaa
namespace Go.Proofs.Ytbffjhdocicfoaa
open Go.RowKit
set_option linter.unusedVariables false
set_option linter.unusedSimpArgs false
open BfM

end Go.Proofs.Ytbffjhdocicfoaa
