/-
  THE LAW WordNames, AS A WALK OVER ANY WORLD that holds the registers: it returns true.
-/
import Derived.Test.YtmdheolmefkbaaaDoorWordT
namespace Go.Proofs.YtmdheolmefkbaaaDoor
open Go.RowKit
set_option linter.unusedVariables false
open WordM (L)

theorem spelt_snoc (l : L) (c : UInt8) (h : WordM.speltB l = true) : WordM.speltB (l ++ [c]) = (WordM.alnum c && decide (l.length + 1 ≤ 8)) := by
  rw [WordM.speltB_iff] at h
  obtain ⟨h0, h8, hh, ha⟩ := h
  have e : (l ++ [c]).headD 0 = l.headD 0 := by
    cases l with
    | nil => exact absurd rfl h0
    | cons x r => rfl
  have ea : l.all WordM.alnum = true := by
    rw [List.all_eq_true]
    intro x hx
    obtain ⟨k, hk, rfl⟩ := List.mem_iff_getElem.1 hx
    exact ha k hk
  unfold WordM.speltB
  rw [e, hh, List.all_append, ea]
  have : decide (l ++ [c] ≠ []) = true := by simp
  rw [this, List.length_append]
  simp [Bool.and_comm]
theorem name_snoc (l : L) (c : UInt8) (h : WordM.nameB l = true) : WordM.nameB (l ++ [c]) = (WordM.alnum c && decide (l.length + 1 ≤ 8) && !WordM.keyB (l ++ [c]) && decide (WordM.regNo (l ++ [c]) < 0)) ∧ l.length ≤ 8 ∧ 0 < l.length := by
  have hs : WordM.speltB l = true := by
    unfold WordM.nameB at h
    simp only [Bool.and_eq_true] at h
    exact h.1.1
  have h2 := (WordM.speltB_iff l).1 hs
  refine ⟨?_, h2.2.1, List.length_pos_iff.2 h2.1⟩
  rw [show WordM.nameB (l ++ [c]) = (WordM.speltB (l ++ [c]) && decide (WordM.regNo (l ++ [c]) < 0) && !WordM.keyB (l ++ [c])) from rfl, spelt_snoc l c hs]
  generalize decide (WordM.regNo (l ++ [c]) < 0) = a
  generalize WordM.keyB (l ++ [c]) = b
  generalize (WordM.alnum c && decide (l.length + 1 ≤ 8)) = d
  cases a <;> cases b <;> cases d <;> rfl
theorem name_blank (l : L) : WordM.nameB (l ++ [32]) = false := by
  have : WordM.speltB (l ++ [32]) = false := WordM.speltB_at _ l.length (by simp) (by simp [WordM.alnum, WordM.letterB, WordM.digitB])
  unfold WordM.nameB; rw [this]; rfl
theorem cat_data (a b : ByteArray) : (a ++ b).data.toList = a.data.toList ++ b.data.toList := by
  rw [ByteArray.data_append]; simp
theorem cat_size (a b : ByteArray) : (a ++ b).size = a.size + b.size := by
  rw [Lib.size_eq, cat_data, Lib.size_eq a, Lib.size_eq b]; simp

theorem conv_next {P : Program} {src dst te : TypeId} {b : UInt8} (h : ∀ W : World, (convert src dst (.slice (some ⟨W.heap.size, 0, none⟩) 1 1)).run P (W.alloc (.cells #[.int .u8 (b.toNat : Int)] te)) = .ok (.string ⟨#[b]⟩) (W.alloc (.cells #[.int .u8 (b.toNat : Int)] te))) (W : World) (o : Obj) :
    (convert src dst (.slice (some ⟨W.heap.size + 1, 0, none⟩) 1 1)).run P ((W.alloc o).alloc (.cells #[.int .u8 (b.toNat : Int)] te)) = .ok (.string ⟨#[b]⟩) ((W.alloc o).alloc (.cells #[.int .u8 (b.toNat : Int)] te)) := by
  have := h (W.alloc o)
  rwa [World.size_alloc] at this

set_option maxHeartbeats 4000000 in
set_option maxRecDepth 100000 in
theorem names_up (s : ByteArray) (c : UInt8) (w : World) (hr : Regs w) (h : (1000 : Int) < (s.size : Int) ∨ WordM.nameB s.data.toList = false) :
    Calls Tryd.prog 8 #[.string s, .int .u8 c.toNat] w fun e w' => e = .returned (.bool true) ∧ Below w.heap.size w w' := by
  by_cases hlen : (1000 : Int) < (s.size : Int)
  · have g1 : decide ((1000 : Int) < (s.size : Int)) = true := decide_eq_true hlen
    clear h
    go_enter Tryd.func8, Tryd.ntmps8
    go_wp2_with fail
    refine (head_any _ hr).mono ?_
    rintro e wv1 ⟨rfl, hB⟩
    go_wp2_with fail
    go_ret
    exact ⟨rfl, hB⟩
  · have g1 : decide ((1000 : Int) < (s.size : Int)) = false := decide_eq_false hlen
    have hn : WordM.nameB s.data.toList = false := by
      rcases h with h | h
      · exact absurd h hlen
      · exact h
    have HN := Lib.hid (fun W h => show Calls Tryd.prog 15 #[.string s] W fun e w' => e = .returned (.bool false) ∧ W = w' by rw [← hn]; exact name_any s W h)
    clear h hn
    go_enter Tryd.func8, Tryd.ntmps8
    go_wp2_with fail
    refine (head_any _ hr).mono ?_
    rintro e wv2 ⟨rfl, hB⟩
    go_wp2_with fail
    refine (HN.out _ (hr.below hB)).mono ?_
    rintro e wv3 ⟨rfl, rfl⟩
    go_wp2_with fail
    go_ret
    exact ⟨rfl, hB⟩

set_option maxHeartbeats 4000000 in
set_option maxRecDepth 100000 in
theorem names_name (s : ByteArray) (c : UInt8) (w : World) (hr : Regs w) (hlen : (s.size : Int) ≤ 8) (hpos : 1 ≤ (s.size : Int)) (nt : Bool) (kb : Bool) (rn : Int)
    (HN : Hid (∀ W, Regs W → Calls Tryd.prog 15 #[.string s] W fun e w' => e = .returned (.bool true) ∧ W = w'))
    (HT : Hid (∀ W, Regs W → Calls Tryd.prog 15 #[.string (s ++ ⟨#[c]⟩)] W fun e w' => e = .returned (.bool nt) ∧ W = w'))
    (HK : Hid (∀ W, Calls Tryd.prog 21 #[.string (s ++ ⟨#[c]⟩)] W fun e w' => e = .returned (.bool kb) ∧ W = w'))
    (HR : Hid (∀ W, Calls Tryd.prog 18 #[.string (s ++ ⟨#[c]⟩)] W fun e w' => e = .returned (.int .i64 rn) ∧ Below W.heap.size W w'))
    (HL : Hid (∀ W, Regs W → Calls Tryd.prog 15 #[.string (⟨#[c]⟩ ++ s ++ ⟨#[32]⟩)] W fun e w' => e = .returned (.bool false) ∧ W = w'))
    (hnt : nt = (WordM.alnum c && decide (s.size + 1 ≤ 8) && !kb && decide (rn < 0))) :
    Calls Tryd.prog 8 #[.string s, .int .u8 c.toNat] w fun e w' => e = .returned (.bool true) ∧ Below w.heap.size w w' := by
  have g1 : decide ((1000 : Int) < (s.size : Int)) = false := decide_eq_false (by omega)
  have g8 : decide ((s.size : Int) ≤ 8) = true := decide_eq_true hlen
  have hcl := c.toNat_lt
  have hcv := conv_one Tryd.prog 32 5 9 (by kernel_rfl) (by kernel_rfl) (by kernel_rfl) c
  have hcv2 := fun (W : World) (o : Obj) => conv_next (fun W => hcv W 5) W o
  have e1 : (⟨#[c]⟩ : ByteArray).size = 1 := rfl
  have e2 : (⟨#[32]⟩ : ByteArray).size = 1 := rfl
  have e3 : (⟨#[c]⟩ ++ s : ByteArray).size = s.size + 1 := by rw [cat_size, e1]; omega
  have hcat1 := fun W => run_string_add_sum (P := Tryd.prog) (w := W) s ⟨#[c]⟩ (by rw [e1]; omega)
  have hcat2 := fun W => run_string_add_sum (P := Tryd.prog) (w := W) ⟨#[c]⟩ s (by rw [e1]; omega)
  have hcat3 := fun W => run_string_add_sum (P := Tryd.prog) (w := W) (⟨#[c]⟩ ++ s) ⟨#[32]⟩ (by rw [e3, e2]; omega)
  have hts : ((s ++ ⟨#[c]⟩ : ByteArray).size : Int) = (s.size : Int) + 1 := by rw [cat_size, e1]; omega
  clear e1 e2 e3
  generalize hT : (s ++ ⟨#[c]⟩ : ByteArray) = T at *
  generalize hU : (⟨#[c]⟩ ++ s : ByteArray) = U at *
  clear hT hU
  by_cases h1 : (97 : Int) ≤ (c.toNat : Int)
  · have q1 : decide ((97 : Int) ≤ (c.toNat : Int)) = true := decide_eq_true h1
    by_cases h2 : (c.toNat : Int) ≤ 122
    · have q2 : decide ((c.toNat : Int) ≤ 122) = true := decide_eq_true h2
      have ha : WordM.alnum c = true := by simp [WordM.alnum, WordM.letterB, WordM.digitB]; omega
      rw [ha] at hnt
      clear ha
      by_cases h8 : (s.size : Int) + 1 ≤ 8
      · have q8 : decide ((s.size : Int) + 1 ≤ 8) = true := decide_eq_true h8
        rw [show decide (s.size + 1 ≤ 8) = true from decide_eq_true (by omega)] at hnt
        cases kb with
        | true =>
          simp only [Bool.true_and, Bool.not_true, Bool.false_and] at hnt
          subst hnt
          go_enter Tryd.func8, Tryd.ntmps8
          go_wp2_with fail
          refine (head_any _ hr).mono ?_
          rintro e wv4 ⟨rfl, hB⟩
          go_wp2_with fail
          refine (HN.out _ (hr.below hB)).mono ?_
          rintro e wv5 ⟨rfl, rfl⟩
          have hB2 := hB.alloc hB.size (.cells #[.int .u8 (c.toNat : Int)] 5)
          go_wp2_with fail
          refine (HT.out _ (hr.below hB2)).mono ?_
          rintro e wv6 ⟨rfl, rfl⟩
          go_wp2_with fail
          refine (HK.out _).mono ?_
          rintro e wv7 ⟨rfl, rfl⟩
          have hB3 := hB2.alloc hB2.size (.cells #[.int .u8 (c.toNat : Int)] 5)
          go_wp2_with fail
          refine (HL.out _ (hr.below hB3)).mono ?_
          rintro e wv8 ⟨rfl, rfl⟩
          go_wp2_with fail
          go_ret
          exact ⟨rfl, hB3⟩
        | false =>
          simp only [Bool.true_and, Bool.not_false] at hnt
          subst hnt
          go_enter Tryd.func8, Tryd.ntmps8
          go_wp2_with fail
          refine (head_any _ hr).mono ?_
          rintro e wv9 ⟨rfl, hB⟩
          go_wp2_with fail
          refine (HN.out _ (hr.below hB)).mono ?_
          rintro e wv10 ⟨rfl, rfl⟩
          have hB2 := hB.alloc hB.size (.cells #[.int .u8 (c.toNat : Int)] 5)
          go_wp2_with fail
          refine (HT.out _ (hr.below hB2)).mono ?_
          rintro e wv11 ⟨rfl, rfl⟩
          go_wp2_with fail
          refine (HK.out _).mono ?_
          rintro e wv12 ⟨rfl, rfl⟩
          have hB := hB2
          go_wp2_with fail
          refine (HR.out _).mono ?_
          rintro e wv13 ⟨rfl, hB'⟩
          replace hB := chain hB hB'
          clear hB'
          have hB3 := hB.alloc hB.size (.cells #[.int .u8 (c.toNat : Int)] 5)
          go_wp2_with fail
          refine (HL.out _ (hr.below hB3)).mono ?_
          rintro e wv14 ⟨rfl, rfl⟩
          go_wp2_with fail
          go_ret
          exact ⟨rfl, hB3⟩
      · have q8 : decide ((s.size : Int) + 1 ≤ 8) = false := decide_eq_false h8
        rw [show decide (s.size + 1 ≤ 8) = false from decide_eq_false (by omega)] at hnt
        simp only [Bool.and_false, Bool.false_and] at hnt
        subst hnt
        go_enter Tryd.func8, Tryd.ntmps8
        go_wp2_with fail
        refine (head_any _ hr).mono ?_
        rintro e wv15 ⟨rfl, hB⟩
        go_wp2_with fail
        refine (HN.out _ (hr.below hB)).mono ?_
        rintro e wv16 ⟨rfl, rfl⟩
        have hB2 := hB.alloc hB.size (.cells #[.int .u8 (c.toNat : Int)] 5)
        go_wp2_with fail
        refine (HT.out _ (hr.below hB2)).mono ?_
        rintro e wv17 ⟨rfl, rfl⟩
        have hB3 := hB2.alloc hB2.size (.cells #[.int .u8 (c.toNat : Int)] 5)
        go_wp2_with fail
        refine (HL.out _ (hr.below hB3)).mono ?_
        rintro e wv18 ⟨rfl, rfl⟩
        go_wp2_with fail
        go_ret
        exact ⟨rfl, hB3⟩
    · have q2 : decide ((c.toNat : Int) ≤ 122) = false := decide_eq_false h2
      have q3 : decide ((48 : Int) ≤ (c.toNat : Int)) = true := decide_eq_true (by omega)
      have q4 : decide ((c.toNat : Int) ≤ 57) = false := decide_eq_false (by omega)
      have ha : WordM.alnum c = false := by simp [WordM.alnum, WordM.letterB, WordM.digitB]; omega
      rw [ha] at hnt
      simp only [Bool.false_and] at hnt
      subst hnt
      clear ha
      go_enter Tryd.func8, Tryd.ntmps8
      go_wp2_with fail
      refine (head_any _ hr).mono ?_
      rintro e wv19 ⟨rfl, hB⟩
      go_wp2_with fail
      refine (HN.out _ (hr.below hB)).mono ?_
      rintro e wv20 ⟨rfl, rfl⟩
      have hB2 := hB.alloc hB.size (.cells #[.int .u8 (c.toNat : Int)] 5)
      go_wp2_with fail
      refine (HT.out _ (hr.below hB2)).mono ?_
      rintro e wv21 ⟨rfl, rfl⟩
      have hB3 := hB2.alloc hB2.size (.cells #[.int .u8 (c.toNat : Int)] 5)
      go_wp2_with fail
      refine (HL.out _ (hr.below hB3)).mono ?_
      rintro e wv22 ⟨rfl, rfl⟩
      go_wp2_with fail
      go_ret
      exact ⟨rfl, hB3⟩
  · have q1 : decide ((97 : Int) ≤ (c.toNat : Int)) = false := decide_eq_false h1
    by_cases h3 : (48 : Int) ≤ (c.toNat : Int)
    · have q3 : decide ((48 : Int) ≤ (c.toNat : Int)) = true := decide_eq_true h3
      by_cases h4 : (c.toNat : Int) ≤ 57
      · have q4 : decide ((c.toNat : Int) ≤ 57) = true := decide_eq_true h4
        have ha : WordM.alnum c = true := by simp [WordM.alnum, WordM.letterB, WordM.digitB]; omega
        rw [ha] at hnt
        clear ha
        by_cases h8 : (s.size : Int) + 1 ≤ 8
        · have q8 : decide ((s.size : Int) + 1 ≤ 8) = true := decide_eq_true h8
          rw [show decide (s.size + 1 ≤ 8) = true from decide_eq_true (by omega)] at hnt
          cases kb with
          | true =>
            simp only [Bool.true_and, Bool.not_true, Bool.false_and] at hnt
            subst hnt
            go_enter Tryd.func8, Tryd.ntmps8
            go_wp2_with fail
            refine (head_any _ hr).mono ?_
            rintro e wv23 ⟨rfl, hB⟩
            go_wp2_with fail
            refine (HN.out _ (hr.below hB)).mono ?_
            rintro e wv24 ⟨rfl, rfl⟩
            have hB2 := hB.alloc hB.size (.cells #[.int .u8 (c.toNat : Int)] 5)
            go_wp2_with fail
            refine (HT.out _ (hr.below hB2)).mono ?_
            rintro e wv25 ⟨rfl, rfl⟩
            go_wp2_with fail
            refine (HK.out _).mono ?_
            rintro e wv26 ⟨rfl, rfl⟩
            have hB3 := hB2.alloc hB2.size (.cells #[.int .u8 (c.toNat : Int)] 5)
            go_wp2_with fail
            refine (HL.out _ (hr.below hB3)).mono ?_
            rintro e wv27 ⟨rfl, rfl⟩
            go_wp2_with fail
            go_ret
            exact ⟨rfl, hB3⟩
          | false =>
            simp only [Bool.true_and, Bool.not_false] at hnt
            subst hnt
            go_enter Tryd.func8, Tryd.ntmps8
            go_wp2_with fail
            refine (head_any _ hr).mono ?_
            rintro e wv28 ⟨rfl, hB⟩
            go_wp2_with fail
            refine (HN.out _ (hr.below hB)).mono ?_
            rintro e wv29 ⟨rfl, rfl⟩
            have hB2 := hB.alloc hB.size (.cells #[.int .u8 (c.toNat : Int)] 5)
            go_wp2_with fail
            refine (HT.out _ (hr.below hB2)).mono ?_
            rintro e wv30 ⟨rfl, rfl⟩
            go_wp2_with fail
            refine (HK.out _).mono ?_
            rintro e wv31 ⟨rfl, rfl⟩
            have hB := hB2
            go_wp2_with fail
            refine (HR.out _).mono ?_
            rintro e wv32 ⟨rfl, hB'⟩
            replace hB := chain hB hB'
            clear hB'
            have hB3 := hB.alloc hB.size (.cells #[.int .u8 (c.toNat : Int)] 5)
            go_wp2_with fail
            refine (HL.out _ (hr.below hB3)).mono ?_
            rintro e wv33 ⟨rfl, rfl⟩
            go_wp2_with fail
            go_ret
            exact ⟨rfl, hB3⟩
        · have q8 : decide ((s.size : Int) + 1 ≤ 8) = false := decide_eq_false h8
          rw [show decide (s.size + 1 ≤ 8) = false from decide_eq_false (by omega)] at hnt
          simp only [Bool.and_false, Bool.false_and] at hnt
          subst hnt
          go_enter Tryd.func8, Tryd.ntmps8
          go_wp2_with fail
          refine (head_any _ hr).mono ?_
          rintro e wv34 ⟨rfl, hB⟩
          go_wp2_with fail
          refine (HN.out _ (hr.below hB)).mono ?_
          rintro e wv35 ⟨rfl, rfl⟩
          have hB2 := hB.alloc hB.size (.cells #[.int .u8 (c.toNat : Int)] 5)
          go_wp2_with fail
          refine (HT.out _ (hr.below hB2)).mono ?_
          rintro e wv36 ⟨rfl, rfl⟩
          have hB3 := hB2.alloc hB2.size (.cells #[.int .u8 (c.toNat : Int)] 5)
          go_wp2_with fail
          refine (HL.out _ (hr.below hB3)).mono ?_
          rintro e wv37 ⟨rfl, rfl⟩
          go_wp2_with fail
          go_ret
          exact ⟨rfl, hB3⟩
      · have q4 : decide ((c.toNat : Int) ≤ 57) = false := decide_eq_false h4
        have ha : WordM.alnum c = false := by simp [WordM.alnum, WordM.letterB, WordM.digitB]; omega
        rw [ha] at hnt
        simp only [Bool.false_and] at hnt
        subst hnt
        clear ha
        go_enter Tryd.func8, Tryd.ntmps8
        go_wp2_with fail
        refine (head_any _ hr).mono ?_
        rintro e wv38 ⟨rfl, hB⟩
        go_wp2_with fail
        refine (HN.out _ (hr.below hB)).mono ?_
        rintro e wv39 ⟨rfl, rfl⟩
        have hB2 := hB.alloc hB.size (.cells #[.int .u8 (c.toNat : Int)] 5)
        go_wp2_with fail
        refine (HT.out _ (hr.below hB2)).mono ?_
        rintro e wv40 ⟨rfl, rfl⟩
        have hB3 := hB2.alloc hB2.size (.cells #[.int .u8 (c.toNat : Int)] 5)
        go_wp2_with fail
        refine (HL.out _ (hr.below hB3)).mono ?_
        rintro e wv41 ⟨rfl, rfl⟩
        go_wp2_with fail
        go_ret
        exact ⟨rfl, hB3⟩
    · have q3 : decide ((48 : Int) ≤ (c.toNat : Int)) = false := decide_eq_false h3
      have ha : WordM.alnum c = false := by simp [WordM.alnum, WordM.letterB, WordM.digitB]; omega
      rw [ha] at hnt
      simp only [Bool.false_and] at hnt
      subst hnt
      clear ha
      go_enter Tryd.func8, Tryd.ntmps8
      go_wp2_with fail
      refine (head_any _ hr).mono ?_
      rintro e wv42 ⟨rfl, hB⟩
      go_wp2_with fail
      refine (HN.out _ (hr.below hB)).mono ?_
      rintro e wv43 ⟨rfl, rfl⟩
      have hB2 := hB.alloc hB.size (.cells #[.int .u8 (c.toNat : Int)] 5)
      go_wp2_with fail
      refine (HT.out _ (hr.below hB2)).mono ?_
      rintro e wv44 ⟨rfl, rfl⟩
      have hB3 := hB2.alloc hB2.size (.cells #[.int .u8 (c.toNat : Int)] 5)
      go_wp2_with fail
      refine (HL.out _ (hr.below hB3)).mono ?_
      rintro e wv45 ⟨rfl, rfl⟩
      go_wp2_with fail
      go_ret
      exact ⟨rfl, hB3⟩

theorem names_any (s : ByteArray) (c : UInt8) (w : World) (hs : s.size ≤ maxLen) (hr : Regs w) :
    Calls Tryd.prog 8 #[.string s, .int .u8 c.toNat] w fun e w' => e = .returned (.bool true) ∧ Below w.heap.size w w' := by
  cases hn : WordM.nameB s.data.toList with
  | false => exact names_up s c w hr (.inr hn)
  | true =>
    obtain ⟨h1, h2, h3⟩ := name_snoc _ c hn
    rw [← Lib.size_eq] at h2 h3
    refine names_name s c w hr (by omega) (by omega) _ _ _ (fun W h => by rw [← hn]; exact name_any s W h) (fun W h => name_any _ W h) (fun W => rkey_any _ W) (fun W => rreg_any _ W) (fun W h => ?_) ?_
    · have := name_any (⟨#[c]⟩ ++ s ++ ⟨#[32]⟩) W h
      rw [cat_data] at this
      rw [show (⟨#[32]⟩ : ByteArray).data.toList = [32] from rfl, name_blank] at this
      exact this
    · rw [cat_data, show (⟨#[c]⟩ : ByteArray).data.toList = [c] from rfl, h1, Lib.size_eq s]
end Go.Proofs.YtmdheolmefkbaaaDoor
