/-
  THE LAWS WordTells, WordRegs AND WordNames, AS WALKS OVER ANY WORLD that holds the registers: each returns true.
-/
import Derived.Test.YtmdheolmefkbaaaDoorWordK
namespace Go.Proofs.YtmdheolmefkbaaaDoor
open Go.RowKit
set_option linter.unusedVariables false
open WordM (L)

theorem same_two {B1 B2 : Nat} {w1 w2 : World} {v1 v2 : Value} {ls : List L} (h1 : w1.ownsRow B1 9 1 v1 ls.length (svs ls)) (hb : Below w1.heap.size w1 w2) (h2 : w2.ownsRow B2 9 1 v2 ls.length (svs ls)) :
    Calls Tryd.prog 10 #[v1, v2] w2 fun e w' => e = .returned (.bool true) ∧ ∃ n, w' = w2.drewN n :=
  same_yes w2.heap.size _ _ ls _ (strs_more (strs_below (strs_own h1) hb) hb.size) (strs_own h2)

set_option maxHeartbeats 4000000 in
set_option maxRecDepth 100000 in
theorem tells_any (s : ByteArray) (n : Int) (w : World) (hs : s.size ≤ maxLen) (hr : Regs w) :
    Calls Tryd.prog 3 #[.string s, .int .i64 n] w fun e w' => e = .returned (.bool true) ∧ Below w.heap.size w w' := by
  unfold maxLen at hs
  by_cases hlen : (2000 : Int) < (s.size : Int)
  · go_enter Tryd.func3, Tryd.ntmps3
    go_wp2_with fail
    refine (head_any _ hr).mono ?_
    rintro e wv1 ⟨rfl, hB⟩
    go_wp2_with fail
    go_ret
    exact ⟨rfl, hB⟩
  · have hs2 : s.size ≤ 100000 := by omega
    go_enter Tryd.func3, Tryd.ntmps3
    go_wp2_with fail
    refine (head_any _ hr).mono ?_
    rintro e wv2 ⟨rfl, hB⟩
    go_wp2_with fail
    refine (lines_any s _ hs2).mono ?_
    rintro e wA ⟨vA, rfl, hoA, hbA⟩
    replace hB := chain hB hbA
    go_wp2_with fail
    refine (rlines_any s _ hs2).mono ?_
    rintro e wB ⟨vB, rfl, hoB, hbB⟩
    replace hB := chain hB hbB
    go_wp2_with fail
    refine (same_two hoA hbB hoB).mono ?_
    rintro e wv5 ⟨rfl, nd5, rfl⟩
    replace hB := below_drewN hB nd5
    clear hoA hbA hoB hbB
    go_wp2_with fail
    refine (words_any s _ hs2).mono ?_
    rintro e wC ⟨vC, rfl, hoC, hbC⟩
    replace hB := chain hB hbC
    go_wp2_with fail
    refine (rwords_any s _ hs2).mono ?_
    rintro e wD ⟨vD, rfl, hoD, hbD⟩
    replace hB := chain hB hbD
    go_wp2_with fail
    refine (same_two hoC hbD hoD).mono ?_
    rintro e wv8 ⟨rfl, nd8, rfl⟩
    replace hB := below_drewN hB nd8
    clear hoC hbC hoD hbD
    go_wp2_with fail
    refine (name_any s _ (hr.below hB)).mono ?_
    rintro e wv9 ⟨rfl, rfl⟩
    go_wp2_with fail
    refine (rname_any s _ hs2).mono ?_
    rintro e wv10 ⟨rfl, hB'⟩
    replace hB := chain hB hB'
    clear hB'
    go_wp2_with fail
    refine (reg_any s _ (hr.below hB)).mono ?_
    rintro e wv11 ⟨rfl, rfl⟩
    go_wp2_with fail
    refine (rreg_any s _).mono ?_
    rintro e wv12 ⟨rfl, hB'⟩
    replace hB := chain hB hB'
    clear hB'
    go_wp2_with fail
    refine (regname_any n _ (hr.below hB)).mono ?_
    rintro e wv13 ⟨rfl, rfl⟩
    go_wp2_with fail
    refine (rregname_any n _).mono ?_
    rintro e wv14 ⟨rfl, hB'⟩
    replace hB := chain hB hB'
    clear hB'
    go_wp2_with fail
    go_ret
    exact ⟨rfl, hB⟩

theorem name_reg (k : Nat) (hk : k < 4) : WordM.nameB (WordM.regL k) = false := by
  unfold WordM.nameB
  rw [WordM.regNo_name k hk]
  have : decide ((k : Int) < 0) = false := decide_eq_false (by omega)
  rw [this]; simp
def rs (k : Nat) : ByteArray := ⟨(WordM.regL k).toArray⟩
theorem rs_list (k : Nat) : (rs k).toList = WordM.regL k := Lib.toList_data _
theorem rs_ne (k : Nat) (hk : k < 4) : WordM.regL k ≠ [] := by
  match k, hk with
  | 0, _ => decide
  | 1, _ => decide
  | 2, _ => decide
  | 3, _ => decide
theorem regname_rs (k : Nat) (hk : k < 4) (w : World) (hr : Regs w) :
    Calls Tryd.prog 19 #[.int .i64 k] w fun e w' => e = .returned (.string (rs k)) ∧ w = w' := regname_in k hk w hr
theorem reg_rs (k : Nat) (hk : k < 4) (w : World) (hr : Regs w) :
    Calls Tryd.prog 17 #[.string (rs k)] w fun e w' => e = .returned (.int .i64 k) ∧ w = w' := by
  have := reg_any (rs k) w hr
  rw [show WordM.regNo (rs k).data.toList = k from WordM.regNo_name k hk] at this
  exact this
theorem name_rs (k : Nat) (hk : k < 4) (w : World) (hr : Regs w) :
    Calls Tryd.prog 15 #[.string (rs k)] w fun e w' => e = .returned (.bool false) ∧ w = w' := by
  have := name_any (rs k) w hr
  rw [show WordM.nameB (rs k).data.toList = false from name_reg k hk] at this
  exact this

set_option maxHeartbeats 4000000 in
set_option maxRecDepth 100000 in
theorem regs_any (n : Int) (s : ByteArray) (w : World) (hs : s.size ≤ maxLen) (hr : Regs w) :
    Calls Tryd.prog 7 #[.int .i64 n, .string s] w fun e w' => e = .returned (.bool true) ∧ Below w.heap.size w w' := by
  unfold maxLen at hs
  by_cases hlen : (1000 : Int) < (s.size : Int)
  · go_enter Tryd.func7, Tryd.ntmps7
    go_wp2_with fail
    refine (head_any _ hr).mono ?_
    rintro e wv15 ⟨rfl, hB⟩
    go_wp2_with fail
    go_ret
    exact ⟨rfl, hB⟩
  · by_cases hn : 0 ≤ n ∧ n < 4
    · obtain ⟨k, rfl⟩ := Int.eq_ofNat_of_zero_le hn.1
      have hk : k < 4 := by omega
      have hne := rs_ne k hk
      have q1 : ((rs k).toList == []) = false := by rw [rs_list]; simpa using hne
      have q2 : ¬ (rs k).toList = [] := by rw [rs_list]; exact hne
      have q3 : (rs k).toList.isEmpty = false := by rw [rs_list]; simpa using hne
      have g1 : decide (0 ≤ (k : Int)) = true := decide_eq_true (by omega)
      have g2 : decide ((k : Int) < 4) = true := decide_eq_true (by omega)
      have g3 : ((k : Int) != (k : Int)) = false := by simp
      clear hne hn
      rcases WordM.regNo_cases s.data.toList with ⟨hm, _⟩ | ⟨j, hj, he, _⟩
      · have HM := Lib.hid (fun W h => show Calls Tryd.prog 17 #[.string s] W fun e w' => e = .returned (.int .i64 (-1)) ∧ W = w' by rw [← hm]; exact reg_any s W h)
        clear hm
        go_enter Tryd.func7, Tryd.ntmps7
        go_wp2_with fail
        refine (head_any _ hr).mono ?_
        rintro e wv16 ⟨rfl, hB⟩
        go_wp2_with fail
        refine (regname_rs k hk _ (hr.below hB)).mono ?_
        rintro e wv17 ⟨rfl, rfl⟩
        go_wp2_with fail
        refine (HM.out _ (hr.below hB)).mono ?_
        rintro e wv18 ⟨rfl, rfl⟩
        go_wp2_with fail
        refine (reg_rs k hk _ (hr.below hB)).mono ?_
        rintro e wv19 ⟨rfl, rfl⟩
        go_wp2_with fail
        refine (name_rs k hk _ (hr.below hB)).mono ?_
        rintro e wv20 ⟨rfl, rfl⟩
        go_wp2_with fail
        go_ret
        exact ⟨rfl, hB⟩
      · have hs' : s = rs j := by apply ByteArray.ext; apply Array.toList_inj.1; rw [he]; rfl
        subst hs'
        clear he
        have q4 : ((rs j).toList == (rs j).toList) = true := by simp
        go_enter Tryd.func7, Tryd.ntmps7
        go_wp2_with fail
        refine (head_any _ hr).mono ?_
        rintro e wv21 ⟨rfl, hB⟩
        go_wp2_with fail
        refine (regname_rs k hk _ (hr.below hB)).mono ?_
        rintro e wv22 ⟨rfl, rfl⟩
        go_wp2_with fail
        refine (reg_rs j hj _ (hr.below hB)).mono ?_
        rintro e wv23 ⟨rfl, rfl⟩
        go_wp2_with fail
        refine (reg_rs k hk _ (hr.below hB)).mono ?_
        rintro e wv24 ⟨rfl, rfl⟩
        go_wp2_with fail
        refine (name_rs k hk _ (hr.below hB)).mono ?_
        rintro e wv25 ⟨rfl, rfl⟩
        go_wp2_with fail
        refine (regname_rs j hj _ (hr.below hB)).mono ?_
        rintro e wv26 ⟨rfl, rfl⟩
        go_wp2_with fail
        refine (name_rs j hj _ (hr.below hB)).mono ?_
        rintro e wv27 ⟨rfl, rfl⟩
        go_wp2_with fail
        go_ret
        exact ⟨rfl, hB⟩
    · have HE := Lib.hid (fun W => regname_out n W (by omega))
      by_cases h0 : 0 ≤ n
      · have g1 : decide (0 ≤ n) = true := decide_eq_true h0
        have g2 : decide (n < 4) = false := decide_eq_false (by omega)
        rcases WordM.regNo_cases s.data.toList with ⟨hm, _⟩ | ⟨j, hj, he, _⟩
        · have HM := Lib.hid (fun W h => show Calls Tryd.prog 17 #[.string s] W fun e w' => e = .returned (.int .i64 (-1)) ∧ W = w' by rw [← hm]; exact reg_any s W h)
          clear hm
          go_enter Tryd.func7, Tryd.ntmps7
          go_wp2_with fail
          refine (head_any _ hr).mono ?_
          rintro e wv28 ⟨rfl, hB⟩
          go_wp2_with fail
          refine (HE.out _).mono ?_
          rintro e wv29 ⟨rfl, rfl⟩
          go_wp2_with fail
          refine (HM.out _ (hr.below hB)).mono ?_
          rintro e wv30 ⟨rfl, rfl⟩
          go_wp2_with fail
          go_ret
          exact ⟨rfl, hB⟩
        · have hs' : s = rs j := by apply ByteArray.ext; apply Array.toList_inj.1; rw [he]; rfl
          subst hs'
          clear he
          have q4 : ((rs j).toList == (rs j).toList) = true := by simp
          go_enter Tryd.func7, Tryd.ntmps7
          go_wp2_with fail
          refine (head_any _ hr).mono ?_
          rintro e wv31 ⟨rfl, hB⟩
          go_wp2_with fail
          refine (HE.out _).mono ?_
          rintro e wv32 ⟨rfl, rfl⟩
          go_wp2_with fail
          refine (reg_rs j hj _ (hr.below hB)).mono ?_
          rintro e wv33 ⟨rfl, rfl⟩
          go_wp2_with fail
          refine (regname_rs j hj _ (hr.below hB)).mono ?_
          rintro e wv34 ⟨rfl, rfl⟩
          go_wp2_with fail
          refine (name_rs j hj _ (hr.below hB)).mono ?_
          rintro e wv35 ⟨rfl, rfl⟩
          go_wp2_with fail
          go_ret
          exact ⟨rfl, hB⟩
      · have g1 : decide (0 ≤ n) = false := decide_eq_false h0
        rcases WordM.regNo_cases s.data.toList with ⟨hm, _⟩ | ⟨j, hj, he, _⟩
        · have HM := Lib.hid (fun W h => show Calls Tryd.prog 17 #[.string s] W fun e w' => e = .returned (.int .i64 (-1)) ∧ W = w' by rw [← hm]; exact reg_any s W h)
          clear hm
          go_enter Tryd.func7, Tryd.ntmps7
          go_wp2_with fail
          refine (head_any _ hr).mono ?_
          rintro e wv36 ⟨rfl, hB⟩
          go_wp2_with fail
          refine (HE.out _).mono ?_
          rintro e wv37 ⟨rfl, rfl⟩
          go_wp2_with fail
          refine (HM.out _ (hr.below hB)).mono ?_
          rintro e wv38 ⟨rfl, rfl⟩
          go_wp2_with fail
          go_ret
          exact ⟨rfl, hB⟩
        · have hs' : s = rs j := by apply ByteArray.ext; apply Array.toList_inj.1; rw [he]; rfl
          subst hs'
          clear he
          have q4 : ((rs j).toList == (rs j).toList) = true := by simp
          go_enter Tryd.func7, Tryd.ntmps7
          go_wp2_with fail
          refine (head_any _ hr).mono ?_
          rintro e wv39 ⟨rfl, hB⟩
          go_wp2_with fail
          refine (HE.out _).mono ?_
          rintro e wv40 ⟨rfl, rfl⟩
          go_wp2_with fail
          refine (reg_rs j hj _ (hr.below hB)).mono ?_
          rintro e wv41 ⟨rfl, rfl⟩
          go_wp2_with fail
          refine (regname_rs j hj _ (hr.below hB)).mono ?_
          rintro e wv42 ⟨rfl, rfl⟩
          go_wp2_with fail
          refine (name_rs j hj _ (hr.below hB)).mono ?_
          rintro e wv43 ⟨rfl, rfl⟩
          go_wp2_with fail
          go_ret
          exact ⟨rfl, hB⟩
end Go.Proofs.YtmdheolmefkbaaaDoor
