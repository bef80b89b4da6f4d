/-
  THE DOCUMENT's Key of layer 12: the numbers' texts, with one blank between.
-/
import Derived.Test.YtmpjcfehabnhgaaDoorEnD
import Derived.Test.YtmpjcfehabnhgaaDoorK13
import Derived.Test.YtmpjcfehabnhgaaDoorNumR
namespace Go.Proofs.YtmpjcfehabnhgaaDoor
open Go.RowKit Go.Shelf
set_option linter.unusedVariables false
set_option linter.unusedSimpArgs false
open WordM (L)
open BfM (Wr)
open ScM
open EnM

theorem add_k {P : Program} (W : World) (a b : L) (h : a.length + b.length ≤ 9223372036854775807) : (Op.stringOp BinOp.add ⟨a.toArray⟩ ⟨b.toArray⟩).run P W = .ok (.string ⟨(a ++ b).toArray⟩) W := by
  have := run_string_add_sum (P := P) (w := W) ⟨a.toArray⟩ ⟨b.toArray⟩ (by rw [Lib.size_eq, Lib.size_eq]; exact h)
  rw [this, show (⟨a.toArray⟩ : ByteArray) ++ ⟨b.toArray⟩ = ⟨(a ++ b).toArray⟩ from by
    apply ByteArray.ext
    rw [ByteArray.data_append]
    simp]
/-- Where the loop over the numbers stands. -/
def RyRel (l : List Int) (v : Value) (base : Nat) (w : World) (sv i : Value) (wr : World) : Prop :=
  ∃ k : Nat, k ≤ l.length ∧ i = .int .i64 k ∧ sv = .string ⟨(keyL (l.take k)).toArray⟩ ∧ wr.ownsRow base 3 1 v l.length (l.flatMap nuC) ∧ Below w.heap.size w wr
set_option maxHeartbeats 8000000 in
set_option maxRecDepth 100000 in
theorem rkey_any {B : Nat} {s : Sta} {v : Value} (w : World) (hv : StaV B w v s) (hBB : B ≤ w.heap.size) (hi : ∀ n ∈ numsS s, NumM.inR n) (hl : (numsS s).length ≤ 1000000) :
    Calls Tryd.prog 19 #[v] w fun e w' => e = .returned (.string ⟨(keyS s).toArray⟩) ∧ Below w.heap.size w w' := by
  obtain ⟨vm, vt, rfl, hm, ht⟩ := hv
  have hA := below_al (Below.refl w.heap.size w) (.cells #[vm, vt] 25)
  have hbx := BoxC.new w 25 #[vm, vt]
  have HN := Lib.hid (rnums_any _ (⟨vm, vt, rfl, StaM.below ⟨hm, ht⟩ (hA.mono hBB)⟩ : StaV B _ (.agg #[vm, vt]) s) (Nat.le_trans hBB hA.size) (by omega))
  have HKS := Lib.hid (show keyS s = keyL (numsS s) from rfl)
  obtain ⟨A1, c1, rfl, -⟩ := hm
  obtain ⟨A2, c2, rfl, -⟩ := ht
  generalize keyS s = ks at *
  generalize numsS s = l at *
  have HIN := Lib.hid hi
  have HA := Lib.hid hA
  have d0 := hbx.cell 0 _ rfl
  have d1 := hbx.cell 1 _ rfl
  clear hA hbx hi
  go_enter Tryd.func19, Tryd.ntmps19
  go_wp2_with (go_at_call 17; refine HN.out.mono ?_)
  rintro e w3 ⟨u, rfl, hou, hb⟩
  have hB3 := HA.out.trans (hb.mono HA.out.size)
  obtain ⟨Au, cu, rfl⟩ := own_slice hou
  obtain ⟨bs, hbs⟩ : ∃ x, x = (w.alloc (.cells #[.slice A1 s.mem.length c1, .slice A2 s.ths.length c2] 25)).heap.size := ⟨_, rfl⟩
  rw [← hbs] at hou
  have HST := Lib.hid (show RyRel l (.slice Au l.length cu) bs w (.string ⟨#[]⟩) (.int .i64 0) w3 from ⟨0, Nat.zero_le _, rfl, rfl, hou, hB3⟩)
  clear hbs d0 d1 hb hou hB3 HN HA
  go_wp2
  go_loopw [4, 5] (fun sv i wr => RyRel l (.slice Au l.length cu) bs w sv i wr) (fun _ i _ => l.length - (intOf i).toNat)
  case atStart => exact HST.out
  case round =>
    clear HST
    obtain ⟨k, hk, rfl, rfl, hown, hB⟩ := hrel
    by_cases hlt : k < l.length
    · obtain ⟨b1, f1, hA1, hl1, hc1⟩ : ∃ b f, Au = some ⟨b, f, none⟩ ∧ b < wr.heap.size ∧ wr.cell? ⟨b, f + k, none⟩ = some (.int .i64 l[k]) := by
        obtain ⟨A9, c9, e9, h1, h2, h0, h3⟩ := (Rw.own hown (Nat.le_refl _) : Rw nuC 1 wr.heap.size wr (.slice Au l.length cu) l)
        injection e9 with e9 _ e8
        subst e9
        obtain ⟨b, f, e, hb, hc⟩ := nu_at (c := cu) h3 (by omega)
        exact ⟨b, f, e, hb, hc k hlt⟩
      subst hA1
      have HIX := Lib.hid (HIN.out _ (List.getElem_mem hlt))
      have HT := Lib.hid (keyL_take hlt)
      obtain ⟨x, hx⟩ : ∃ x, x = l[k] := ⟨_, rfl⟩
      rw [← hx] at hc1 HT HIX
      have HPL := Lib.hid (keyL_take_len HIN.out k)
      have HP0 := Lib.hid (show k = 0 → keyL (l.take k) = [] from fun h => by subst h; rfl)
      obtain ⟨p, hp⟩ : ∃ p, p = keyL (l.take k) := ⟨_, rfl⟩
      rw [← hp] at HT HPL HP0 ⊢
      have HXL := Lib.hid (NumM.text_len x HIX.out)
      have HTE := Lib.hid (fun W => rtext_any x W HIX.out)
      obtain ⟨tx, htx⟩ : ∃ t, t = NumM.text x := ⟨_, rfl⟩
      rw [← htx] at HT HXL HTE
      have HOW := Lib.hid hown
      have HLT := Lib.hid hlt
      by_cases h0 : k = 0
      · have q1 : decide ((k : Int) > 0) = false := decide_eq_false (by omega)
        have q2 : decide (0 < (k : Int)) = false := decide_eq_false (by omega)
        have q3 : decide (0 < k) = false := decide_eq_false (by omega)
        have c2' : ∀ W, (Op.stringOp BinOp.add ⟨p.toArray⟩ ⟨tx.toArray⟩).run Tryd.prog W = .ok (.string ⟨(p ++ tx).toArray⟩) W := fun W => add_k W p tx (by have := HPL.out; have := HXL.out; omega)
        obtain ⟨p3, hp3⟩ : ∃ q, q = p ++ tx := ⟨_, rfl⟩
        have HT2 := Lib.hid (show keyL (l.take (k + 1)) = p3 from by rw [HT.out, if_pos h0, hp3, HP0.out h0]; rfl)
        rw [← hp3] at c2'
        clear hx hp htx hp3 hown h0 HT
        go_wp2_with (go_at_call 21; refine (HTE.out _).mono ?_)
        rintro e w4 ⟨rfl, hb4⟩
        have HO4 := Lib.hid (own_below HOW.out hb4)
        have HB4 := Lib.hid (hB.trans (hb4.mono hB.size))
        clear hb4 hB HTE HOW hc1
        go_wp2
        go_roundw
        case rel => exact ⟨k + 1, by have := HLT.out; omega, by go_num, by rw [HT2.out], HO4.out, HB4.out⟩
        case measure => have := HLT.out; simp [intOf]; omega
      · have q1 : decide ((k : Int) > 0) = true := decide_eq_true (by omega)
        have q2 : decide (0 < (k : Int)) = true := decide_eq_true (by omega)
        have q3 : decide (0 < k) = true := decide_eq_true (by omega)
        have c1' : ∀ W, (Op.stringOp BinOp.add ⟨p.toArray⟩ ⟨#[32]⟩).run Tryd.prog W = .ok (.string ⟨(p ++ [32]).toArray⟩) W := fun W => add_k W p [32] (by have := HPL.out; simp; omega)
        obtain ⟨p2, hp2⟩ : ∃ q, q = p ++ [32] := ⟨_, rfl⟩
        have HP2 := Lib.hid hp2
        rw [← hp2] at c1'
        have c2' : ∀ W, (Op.stringOp BinOp.add ⟨p2.toArray⟩ ⟨tx.toArray⟩).run Tryd.prog W = .ok (.string ⟨(p2 ++ tx).toArray⟩) W := fun W => add_k W p2 tx (by have := HPL.out; have := HXL.out; rw [HP2.out, List.length_append]; simp; omega)
        obtain ⟨p3, hp3⟩ : ∃ q, q = p2 ++ tx := ⟨_, rfl⟩
        have HT2 := Lib.hid (show keyL (l.take (k + 1)) = p3 from by rw [HT.out, if_neg h0, hp3, hp2]; simp)
        rw [← hp3] at c2'
        clear hx hp htx hp2 hp3 hown h0 HT
        go_wp2_with (go_at_call 21; refine (HTE.out _).mono ?_)
        rintro e w4 ⟨rfl, hb4⟩
        have HO4 := Lib.hid (own_below HOW.out hb4)
        have HB4 := Lib.hid (hB.trans (hb4.mono hB.size))
        clear hb4 hB HTE HOW hc1
        go_wp2
        go_roundw
        case rel => exact ⟨k + 1, by have := HLT.out; omega, by go_num, by rw [HT2.out], HO4.out, HB4.out⟩
        case measure => have := HLT.out; simp [intOf]; omega
    · obtain rfl : l.length = k := by omega
      rw [List.take_length]
      have HQ := Lib.hid (show keyL l = ks from HKS.out.symm)
      obtain ⟨q, hq⟩ : ∃ q, q = keyL l := ⟨_, rfl⟩
      rw [← hq] at HQ ⊢
      clear hown hq
      go_wp2
      go_ret
      exact ⟨by rw [HQ.out]; rfl, hB⟩
end Go.Proofs.YtmpjcfehabnhgaaDoor
