/-
  EncKey, over any world: a key is its numbers' texts, with one blank between.
-/
import Derived.Test.YtmpjcfehabnhgaaDoorEnH
import Derived.Test.YtmpjcfehabnhgaaDoorScW
import Derived.Test.YtmpjcfehabnhgaaDoorNumR
namespace Go.Proofs.YtmpjcfehabnhgaaDoor
open Go.RowKit Go.Shelf
set_option linter.unusedVariables false
set_option linter.unusedSimpArgs false
open WordM (L)
open BfM (Wr)
open ScM
open EnM

theorem add_e {P : Program} (W : World) (a b : L) (h : a.length + b.length ≤ 9223372036854775807) : (Op.stringOp BinOp.add ⟨a.toArray⟩ ⟨b.toArray⟩).run P W = .ok (.string ⟨(a ++ b).toArray⟩) W := by
  have := run_string_add_sum (P := P) (w := W) ⟨a.toArray⟩ ⟨b.toArray⟩ (by rw [Lib.size_eq, Lib.size_eq]; exact h)
  rw [this, show (⟨a.toArray⟩ : ByteArray) ++ ⟨b.toArray⟩ = ⟨(a ++ b).toArray⟩ from by
    apply ByteArray.ext
    rw [ByteArray.data_append]
    simp]
/-- What is in range, of a state that is not too wide. -/
theorem wide_in {s : Sta} (hi : StaIn s) (hw : WideN 300 s) : ∀ n ∈ numsS s, NumM.inR n := by
  have h1 := hw.mem
  have h2 := hw.ths
  refine nums_in hi.mem (by omega) (by omega) (fun t ht => ?_)
  have h3 := hw.regs t ht
  have h4 := hi.ths t ht
  exact th_in h4.at' h4.regs h4.buf (by omega) (by omega)
theorem wide_len {s : Sta} (hw : WideN 300 s) : (numsS s).length ≤ 8438 := by
  have := numsS_len (a := 300) (b := 9) (c := 300) (d := 300) hw.mem hw.ths hw.regs
  omega
def EkRel (l : List Int) (v : Value) (base : Nat) (w : World) (sv i : Value) (wr : World) : Prop :=
  ∃ k : Nat, k ≤ l.length ∧ i = .int .i64 k ∧ sv = .string ⟨((l.take k).flatMap fun n => 32 :: NumM.text n).toArray⟩ ∧ wr.ownsRow base 3 1 v l.length (l.flatMap nuC) ∧ Below w.heap.size w wr
theorem flat_text_len {l : List Int} (h : ∀ n ∈ l, NumM.inR n) : (l.flatMap fun n => 32 :: NumM.text n).length ≤ 21 * l.length := by
  induction l with
  | nil => simp
  | cons a r ih =>
    have h1 := NumM.text_len a (h a List.mem_cons_self)
    have h2 := ih (fun n hn => h n (List.mem_cons_of_mem _ hn))
    rw [List.flatMap_cons, List.length_append, List.length_cons, List.length_cons]
    omega
set_option maxHeartbeats 8000000 in
set_option maxRecDepth 100000 in
theorem enckey_any {a0 : Addr} {v : Value} {s : Sta} (w : World) (hE : ErG w.heap.size a0 w) (hv : StaV w.heap.size w v s) (hi : StaIn s) :
    Calls Tryd.prog 8 #[v] w fun e w' => e = .returned (.bool true) ∧ Below w.heap.size w w' := by
  obtain ⟨vm, vt, rfl, hm, ht⟩ := hv
  have hA := below_al (Below.refl w.heap.size w) (.cells #[vm, vt] 25)
  have HB := Lib.hid (BoxC.new w 25 #[vm, vt])
  have HV := Lib.hid (fun W (hW : Below w.heap.size w W) => show StaV W.heap.size W (.agg #[vm, vt]) s from StaV.more (StaV.below ⟨vm, vt, rfl, hm, ht⟩ hW) hW.size)
  have HH := Lib.hid (ehead_any _ ((hE.below hA).more hA.size))
  have HA := Lib.hid hA
  obtain ⟨A1, c1, rfl, -⟩ := hm
  obtain ⟨A2, c2, rfl, -⟩ := ht
  have HII := Lib.hid hi
  clear hA hE hi
  go_enter Tryd.func8, Tryd.ntmps8
  go_wp2_with (go_at_call 9; refine HH.out.mono ?_)
  rintro e w1 ⟨rfl, hb⟩
  have hB1 := HA.out.trans (hb.mono HA.out.size)
  have HX1 := Lib.hid (HB.out.below hb HB.out.lt)
  have HWD := Lib.hid (wide_any w1 (HV.out w1 hB1) (Nat.le_refl _))
  clear hb HB HH HA
  have y0 := HX1.out.cell 0 _ rfl
  have y1 := HX1.out.cell 1 _ rfl
  go_wp2_with (go_at_call 10; refine HWD.out.mono ?_)
  rintro e w2 ⟨b, rfl, hwd, hb⟩
  have hB2 := hB1.trans (hb.mono hB1.size)
  have HX2 := Lib.hid (HX1.out.below hb HX1.out.lt)
  clear y0 y1 hb hB1 HX1 HWD
  have y0 := HX2.out.cell 0 _ rfl
  have y1 := HX2.out.cell 1 _ rfl
  cases b with
  | true =>
    clear hwd
    go_wp2
    go_ret
    exact ⟨rfl, hB2⟩
  | false =>
    have hws := hwd rfl
    have HIN := Lib.hid (wide_in HII.out hws)
    have HLN := Lib.hid (wide_len hws)
    have HN := Lib.hid (nums_any w2 (HV.out w2 hB2) (Nat.le_refl _) (by have := HLN.out; omega))
    have HKY := Lib.hid (fun W (hW : Below w.heap.size w W) => key_any W (HV.out W hW) (Nat.le_refl _) HIN.out (by have := HLN.out; omega))
    have HKB := Lib.hid (keyL_blank (numsS s) (fun e => by have := numsS_two s; rw [e] at this; simp at this))
    have HTW := Lib.hid (numsS_two s)
    have HKS := Lib.hid (show keyS s = keyL (numsS s) from rfl)
    generalize keyS s = ks at *
    generalize numsS s = l at *
    have hl8 := HLN.out
    clear hwd hws HII HV
    go_wp2_with (go_at_call 16; refine HN.out.mono ?_)
    rintro e w3 ⟨u, rfl, hou, hb⟩
    have hB3 := hB2.trans (hb.mono hB2.size)
    have HX3 := Lib.hid (HX2.out.below hb HX2.out.lt)
    obtain ⟨Au, cu, rfl⟩ := own_slice hou
    have HST := Lib.hid (show EkRel l (.slice Au l.length cu) w2.heap.size w3 (.string ⟨#[]⟩) (.int .i64 0) w3 from ⟨0, Nat.zero_le _, rfl, rfl, hou, Below.refl _ _⟩)
    clear y0 y1 hb hB2 HX2 HN hou
    go_wp2
    go_loopw [5, 6] (fun sv i wr => EkRel l (.slice Au l.length cu) w2.heap.size w3 sv i wr) (fun _ i _ => l.length - (intOf i).toNat)
    case atStart => exact HST.out
    case round =>
      clear HST
      obtain ⟨k, hk, rfl, rfl, hown, hB⟩ := hrel
      by_cases hlt : k < l.length
      · obtain ⟨b1, f1, hA1, hl1, hc1⟩ : ∃ b f, Au = some ⟨b, f, none⟩ ∧ b < wr.heap.size ∧ wr.cell? ⟨b, f + k, none⟩ = some (.int .i64 l[k]) := by
          obtain ⟨A9, c9, e9, h1, h2, h0, h3⟩ := (Rw.own hown (Nat.le_refl _) : Rw nuC 1 wr.heap.size wr (.slice Au l.length cu) l)
          injection e9 with e9 _ e8
          subst e9
          obtain ⟨b, f, e, hb, hc⟩ := nu_at (c := cu) h3 (by omega)
          exact ⟨b, f, e, hb, hc k hlt⟩
        subst hA1
        have HIX := Lib.hid (HIN.out _ (List.getElem_mem hlt))
        have HT := Lib.hid (show (l.take (k + 1)).flatMap (fun n => 32 :: NumM.text n) = (l.take k).flatMap (fun n => 32 :: NumM.text n) ++ ([32] ++ NumM.text l[k]) by
          rw [List.take_succ_eq_append_getElem hlt, List.flatMap_append]; simp)
        obtain ⟨x, hx⟩ : ∃ x, x = l[k] := ⟨_, rfl⟩
        rw [← hx] at hc1 HT HIX
        obtain ⟨p, hp⟩ : ∃ p, p = (l.take k).flatMap (fun n => 32 :: NumM.text n) := ⟨_, rfl⟩
        have HPL := Lib.hid (show p.length ≤ 21 * l.length from by
          rw [hp]
          have := flat_text_len (l := l.take k) (fun n hn => HIN.out n (List.mem_of_mem_take hn))
          rw [List.length_take] at this
          omega)
        rw [← hp] at HT ⊢
        have HXL := Lib.hid (NumM.text_len x HIX.out)
        have HTE := Lib.hid (fun W => rtext_any x W HIX.out)
        obtain ⟨tx, htx⟩ : ∃ t, t = NumM.text x := ⟨_, rfl⟩
        rw [← htx] at HT HXL HTE
        have c1' : ∀ W, (Op.stringOp BinOp.add ⟨p.toArray⟩ ⟨#[32]⟩).run Tryd.prog W = .ok (.string ⟨(p ++ [32]).toArray⟩) W := fun W => add_e W p [32] (by have := HPL.out; have := HLN.out; simp; omega)
        obtain ⟨p2, hp2⟩ : ∃ q, q = p ++ [32] := ⟨_, rfl⟩
        have HP2 := Lib.hid hp2
        rw [← hp2] at c1'
        have c2' : ∀ W, (Op.stringOp BinOp.add ⟨p2.toArray⟩ ⟨tx.toArray⟩).run Tryd.prog W = .ok (.string ⟨(p2 ++ tx).toArray⟩) W := fun W => add_e W p2 tx (by have := HPL.out; have := HLN.out; have := HXL.out; rw [HP2.out, List.length_append]; simp; omega)
        obtain ⟨p3, hp3⟩ : ∃ q, q = p2 ++ tx := ⟨_, rfl⟩
        have HP3 := Lib.hid hp3
        rw [← hp3] at c2'
        have HOW := Lib.hid hown
        have HLT := Lib.hid hlt
        clear hx hp htx hp2 hp3 hown
        go_wp2_with (go_at_call 21; refine (HTE.out _).mono ?_)
        rintro e w4 ⟨rfl, hb4⟩
        have HO4 := Lib.hid (own_below HOW.out hb4)
        have HB4 := Lib.hid (hB.trans (hb4.mono hB.size))
        clear hb4 hB HTE HOW hc1
        go_wp2
        go_roundw
        case rel => exact ⟨k + 1, by have := HLT.out; omega, by go_num, by rw [HT.out, HP3.out, HP2.out]; simp, HO4.out, HB4.out⟩
        case measure => have := HLT.out; simp [intOf]; omega
      · obtain rfl : l.length = k := by omega
        rw [List.take_length]
        have HX4 := Lib.hid (HX3.out.below hB HX3.out.lt)
        have HB4 := Lib.hid (hB3.trans (hB.mono hB3.size))
        have HK4 := Lib.hid (HKY.out wr HB4.out)
        have HPL := Lib.hid (flat_text_len HIN.out)
        obtain ⟨q, hq⟩ : ∃ q, q = l.flatMap fun n => 32 :: NumM.text n := ⟨_, rfl⟩
        rw [← hq] at HKB HPL ⊢
        have HQ := Lib.hid (show [32] ++ ks = q from by rw [HKS.out]; exact HKB.out)
        have hc : ∀ W, (Op.stringOp BinOp.add ⟨#[32]⟩ ⟨ks.toArray⟩).run Tryd.prog W = .ok (.string ⟨q.toArray⟩) W := fun W => by
          have := add_e (P := Tryd.prog) W [32] ks (by have h1 := HPL.out; have h2 := HLN.out; have h3 := congrArg List.length HQ.out; rw [List.length_append] at h3; omega)
          rw [HQ.out] at this; exact this
        have hgt : decide ((l.length : Int) > 0) = true := decide_eq_true (by have := HTW.out; omega)
        have hgt2 : decide (0 < (l.length : Int)) = true := decide_eq_true (by have := HTW.out; omega)
        have hgt3 : decide (0 < l.length) = true := decide_eq_true (by have := HTW.out; omega)
        clear hq hown hB hB3 HX3 HKY HKB
        have y0 := HX4.out.cell 0 _ rfl
        have y1 := HX4.out.cell 1 _ rfl
        go_wp2_with (go_at_call 18; refine HK4.out.mono ?_)
        rintro e w4 ⟨rfl, hb4⟩
        have HB5 := Lib.hid (HB4.out.trans (hb4.mono HB4.out.size))
        clear hb4 HB4 HK4 y0 y1 HX4
        go_wp2
        go_ret
        exact ⟨rfl, HB5.out⟩
end Go.Proofs.YtmpjcfehabnhgaaDoor
