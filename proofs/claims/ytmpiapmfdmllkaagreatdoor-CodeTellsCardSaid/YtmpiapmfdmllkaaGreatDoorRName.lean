/-
  the document's names and registers, over any world.
-/
import Derived.Test.YtmpiapmfdmllkaaGreatDoorNamOp
namespace Go.Proofs.YtmpiapmfdmllkaaGreatDoor
open Go.RowKit
open WordM (L)
set_option linter.unusedVariables false
set_option maxHeartbeats 1000000 in
set_option maxRecDepth 100000 in
theorem rregname_out (n : Int) (w : World) (h : n < 0 ∨ 3 < n) :
    Calls Tryz.prog 23 #[.int .i64 n] w fun e w' => e = .returned (.string ⟨#[]⟩) ∧ Below w.heap.size w w' := by
  by_cases h0 : n < 0
  · go_enter Tryz.func23, Tryz.ntmps23
    go_wp2
    go_ret
    exact ⟨rfl, Below.refl _ _⟩
  · have h4 : 4 ≤ n := by omega
    go_enter Tryz.func23, Tryz.ntmps23
    go_wp2
    go_ret
    exact ⟨rfl, Below.refl _ _⟩
set_option maxHeartbeats 1000000 in
set_option maxRecDepth 100000 in
theorem rregname_one (k : Nat) (b : UInt8) (hk : k < 4) (hb : (b.toNat : Int) = 97 + k) (w : World) :
    Calls Tryz.prog 23 #[.int .i64 k] w fun e w' => e = .returned (.string ⟨#[101, b, 120]⟩) ∧ Below w.heap.size w w' := by
  have hcv := fun W => conv_one Tryz.prog 81 5 9 (by kernel_rfl) (by kernel_rfl) (by kernel_rfl) b W 5
  rw [hb] at hcv
  have hc1 := fun W => run_string_add_sum (P := Tryz.prog) (w := W) ⟨#[101]⟩ ⟨#[b]⟩ (by simp [ByteArray.size])
  have hc2 := fun W => run_string_add_sum (P := Tryz.prog) (w := W) (⟨#[101]⟩ ++ ⟨#[b]⟩) ⟨#[120]⟩ (by simp [ByteArray.size])
  clear hb
  go_enter Tryz.func23, Tryz.ntmps23
  go_wp2
  go_ret
  exact ⟨rfl, (Below.refl _ _).alloc (Nat.le_refl _) _⟩
theorem rregname_any (n : Int) (w : World) :
    Calls Tryz.prog 23 #[.int .i64 n] w fun e w' => e = .returned (.string ⟨(WordM.regName n).toArray⟩) ∧ Below w.heap.size w w' := by
  by_cases h : 0 ≤ n ∧ n < 4
  · obtain ⟨k, rfl⟩ := Int.eq_ofNat_of_zero_le h.1
    have e : WordM.regName (k : Int) = WordM.regL k := by unfold WordM.regName; rw [if_pos h]; rfl
    rw [e]
    have hk : k < 4 := by omega
    match k, hk with
    | 0, hk => exact rregname_one 0 97 hk rfl w
    | 1, hk => exact rregname_one 1 98 hk rfl w
    | 2, hk => exact rregname_one 2 99 hk rfl w
    | 3, hk => exact rregname_one 3 100 hk rfl w
  · have : WordM.regName n = [] := by unfold WordM.regName; rw [if_neg h]
    rw [this]
    exact rregname_out n w (by omega)
/-- At a round of the document's Reg: the registers ahead of k are others. -/
def RegRel (s : ByteArray) (w : World) (i : Value) (wr : World) : Prop := ∃ k : Nat, k ≤ 4 ∧ i = .int .i64 k ∧ (∀ j, j < k → s.data.toList ≠ WordM.regL j) ∧ Below w.heap.size w wr
theorem regNo_at (l : L) (k : Nat) (hk : k < 4) (h : l = WordM.regL k) : WordM.regNo l = k := by rw [h]; exact WordM.regNo_name k hk
theorem regNo_none (l : L) (h : ∀ j, j < 4 → l ≠ WordM.regL j) : WordM.regNo l = -1 := by
  unfold WordM.regNo
  rw [if_neg (h 0 (by omega)), if_neg (h 1 (by omega)), if_neg (h 2 (by omega)), if_neg (h 3 (by omega))]
theorem regrel_next {s : ByteArray} {w wr w1 : World} {k : Nat} (hk : k < 4) (h : s.data.toList ≠ WordM.regL k) (hall : ∀ j, j < k → s.data.toList ≠ WordM.regL j) (hB : Below w.heap.size w wr) (hb : Below wr.heap.size wr w1) :
    RegRel s w (.int .i64 ((k : Int) + 1)) w1 :=
  ⟨k + 1, by omega, by go_num, fun j hj => by
    by_cases e : j = k
    · subst e; exact h
    · exact hall j (by omega), chain hB hb⟩
theorem regname_nat (k : Nat) (hk : k < 4) (w : World) :
    Calls Tryz.prog 23 #[.int .i64 k] w fun e w' => e = .returned (.string ⟨(WordM.regL k).toArray⟩) ∧ Below w.heap.size w w' := by
  have := rregname_any k w
  rw [show WordM.regName (k : Int) = WordM.regL k by unfold WordM.regName; rw [if_pos (by omega)]; rfl] at this
  exact this
set_option maxHeartbeats 1000000 in
set_option maxRecDepth 100000 in
theorem rreg_any (s : ByteArray) (w : World) :
    Calls Tryz.prog 61 #[.string s] w fun e w' => e = .returned (.int .i64 (WordM.regNo s.data.toList)) ∧ Below w.heap.size w w' := by
  go_enter Tryz.func61, Tryz.ntmps61
  go_wp2
  go_loopw [3] (fun i wr => RegRel s w i wr) (fun i _ => 4 - (intOf i).toNat)
  case atStart => exact ⟨0, by omega, rfl, fun j h => absurd h (Nat.not_lt_zero j), Below.refl _ _⟩
  case round =>
    obtain ⟨k, hk, rfl, hall, hB⟩ := hrel
    have HA := Lib.hid hall
    clear hall
    by_cases hlt : k < 4
    · obtain ⟨X, hX⟩ : ∃ X : ByteArray, X = ⟨(WordM.regL k).toArray⟩ := ⟨_, rfl⟩
      have hXl : X.toList = WordM.regL k := by rw [hX, Lib.toList_data]
      have HC := Lib.hid (fun W => show Calls Tryz.prog 23 #[.int .i64 k] W fun e w' => e = .returned (.string X) ∧ Below W.heap.size W w' by rw [hX]; exact regname_nat k hlt W)
      by_cases h : s.data.toList = WordM.regL k
      · have q1 : (X.toList == s.toList) = true := by rw [hXl, Lib.toList_data, h]; simp
        have HR := Lib.hid (regNo_at _ k hlt h)
        clear hX hXl h
        go_wp2_with fail
        refine (HC.out _).mono ?_
        rintro e w1 ⟨rfl, hb⟩
        go_wp2
        go_ret
        exact ⟨by rw [HR.out]; rfl, chain hB hb⟩
      · have q1 : (X.toList == s.toList) = false := by rw [hXl, Lib.toList_data, beq_dec]; exact decide_eq_false (fun e => h e.symm)
        have H := Lib.hid h
        clear hX hXl h
        go_wp2_with fail
        refine (HC.out _).mono ?_
        rintro e w1 ⟨rfl, hb⟩
        go_wp2
        go_roundw
        case rel => exact regrel_next hlt H.out HA.out hB hb
        case measure => simp [intOf]; omega
    · obtain rfl : 4 = k := by omega
      have HR := Lib.hid (regNo_none _ HA.out)
      go_wp2
      go_ret
      exact ⟨by rw [HR.out]; rfl, hB⟩
/-- At a round of the document's Name: the bytes ahead of k are right. -/
def okAt (s : ByteArray) (j : Nat) (h : j < s.size) : Bool := WordM.letterB s[j] || (WordM.digitB s[j] && decide (j ≠ 0))
def NmRel (s : ByteArray) (i : Value) : Prop := ∃ k : Nat, k ≤ s.size ∧ i = .int .i64 k ∧ ∀ j (h : j < s.size), j < k → okAt s j h = true
theorem nmrel_next {s : ByteArray} {k : Nat} (hk : k < s.size) (h : okAt s k hk = true) (hall : ∀ j (h : j < s.size), j < k → okAt s j h = true) : NmRel s (.int .i64 ((k : Int) + 1)) :=
  ⟨k + 1, by omega, by go_num, fun j hj h1 => by
    by_cases e : j = k
    · subst e; exact h
    · exact hall j hj (by omega)⟩
theorem name_bad (s : ByteArray) (k : Nat) (hk : k < s.size) (h : okAt s k hk = false) : WordM.nameB s.data.toList = false := by
  have : WordM.speltB s.data.toList = false := by
    unfold okAt at h
    rw [Bool.or_eq_false_iff, Bool.and_eq_false_iff] at h
    rcases h.2 with h2 | h2
    · exact spelt_false s k hk (by unfold WordM.alnum; rw [h.1, h2]; rfl)
    · simp at h2
      subst h2
      exact WordM.speltB_head _ (by rw [head_at s hk]; exact h.1)
  unfold WordM.nameB; rw [this]; rfl
theorem spelt_ok (s : ByteArray) (h : ∀ j (h : j < s.size), okAt s j h = true) : WordM.speltB s.data.toList = (decide (1 ≤ s.size) && decide (s.size ≤ 8)) := by
  by_cases h0 : 1 ≤ s.size
  · by_cases h8 : s.size ≤ 8
    · rw [decide_eq_true h0, decide_eq_true h8]
      refine spelt_true s h0 h8 ?_ fun k hk _ => ?_
      · have := h 0 h0
        unfold okAt at this
        simpa using this
      · have := h k hk
        unfold okAt at this
        unfold WordM.alnum
        revert this
        cases WordM.letterB s[k] <;> cases WordM.digitB s[k] <;> simp
    · rw [decide_eq_false h8, Bool.and_false]
      exact WordM.speltB_long _ (by rw [← Lib.size_eq]; omega)
  · rw [decide_eq_false h0, Bool.false_and]
    have e : s.data.toList = [] := by have := Lib.size_eq s; exact List.eq_nil_of_length_eq_zero (by omega)
    rw [e]; rfl
set_option maxHeartbeats 2000000 in
set_option maxRecDepth 100000 in
theorem rkey_yes (l : L) (w : World) (h : l ∈ WordM.keys) :
    Calls Tryz.prog 89 #[.string ⟨l.toArray⟩] w fun e w' => e = .returned (.bool true) ∧ w = w' := by
  simp only [WordM.keys, List.mem_cons, List.not_mem_nil, or_false] at h
  rcases h with rfl | rfl | rfl | rfl | rfl | rfl | rfl | rfl | rfl | rfl | rfl | rfl
  all_goals
    go_enter Tryz.func89, Tryz.ntmps89
    go_wp2
    go_ret
    exact ⟨rfl, rfl⟩
set_option maxHeartbeats 2000000 in
set_option maxRecDepth 100000 in
theorem rkey_no (s : ByteArray) (w : World) (h : s.data.toList ∉ WordM.keys) :
    Calls Tryz.prog 89 #[.string s] w fun e w' => e = .returned (.bool false) ∧ w = w' := by
  simp only [WordM.keys, List.mem_cons, List.not_mem_nil, or_false, not_or] at h
  obtain ⟨h0, h1, h2, h3, h4, h5, h6, h7, h8, h9, h10, h11⟩ := h
  have q0 := (strq s [120, 56, 54] false (decide_eq_false h0)).1
  have q1 := (strq s [105, 110, 105, 116] false (decide_eq_false h1)).1
  have q2 := (strq s [116, 104, 114, 101, 97, 100] false (decide_eq_false h2)).1
  have q3 := (strq s [109, 111, 118] false (decide_eq_false h3)).1
  have q4 := (strq s [120, 99, 104, 103] false (decide_eq_false h4)).1
  have q5 := (strq s [109, 102, 101, 110, 99, 101] false (decide_eq_false h5)).1
  have q6 := (strq s [99, 109, 112] false (decide_eq_false h6)).1
  have q7 := (strq s [106, 109, 112] false (decide_eq_false h7)).1
  have q8 := (strq s [106, 101] false (decide_eq_false h8)).1
  have q9 := (strq s [106, 110, 101] false (decide_eq_false h9)).1
  have q10 := (strq s [101, 120, 105, 115, 116, 115] false (decide_eq_false h10)).1
  have q11 := (strq s [102, 111, 114, 97, 108, 108] false (decide_eq_false h11)).1
  clear h0 h1 h2 h3 h4 h5 h6 h7 h8 h9 h10 h11
  go_enter Tryz.func89, Tryz.ntmps89
  go_wp2
  go_ret
  exact ⟨rfl, rfl⟩
theorem rkey_any (s : ByteArray) (w : World) :
    Calls Tryz.prog 89 #[.string s] w fun e w' => e = .returned (.bool (WordM.keyB s.data.toList)) ∧ w = w' := by
  by_cases h : s.data.toList ∈ WordM.keys
  · rw [show WordM.keyB s.data.toList = true from decide_eq_true h]
    exact rkey_yes s.data.toList w h
  · rw [show WordM.keyB s.data.toList = false from decide_eq_false h]
    exact rkey_no s w h
set_option maxHeartbeats 1000000 in
set_option maxRecDepth 100000 in
theorem rname_any (s : ByteArray) (w : World) (hs : s.size ≤ 100000) :
    Calls Tryz.prog 74 #[.string s] w fun e w' => e = .returned (.bool (WordM.nameB s.data.toList)) ∧ Below w.heap.size w w' := by
  have HR := Lib.hid (fun W => rreg_any s W)
  have HK := Lib.hid (fun W => rkey_any s W)
  have HSP := Lib.hid (spelt_ok s)
  have HN0 := Lib.hid (show WordM.nameB s.data.toList = (WordM.speltB s.data.toList && decide (WordM.regNo s.data.toList < 0) && !WordM.keyB s.data.toList) from rfl)
  have HBAD := Lib.hid (name_bad s)
  generalize WordM.nameB s.data.toList = nb at *
  generalize WordM.speltB s.data.toList = sp at *
  generalize WordM.regNo s.data.toList = rn at *
  generalize WordM.keyB s.data.toList = kb at *
  go_enter Tryz.func74, Tryz.ntmps74
  go_wp2
  go_loop [3] (fun i => NmRel s i) (fun i => s.size - (intOf i).toNat)
  case atStart => exact ⟨0, Nat.zero_le _, rfl, fun j _ h => absurd h (Nat.not_lt_zero j)⟩
  case round =>
    obtain ⟨k, hk, rfl, hall⟩ := hrel
    have HA := Lib.hid hall
    clear hall
    by_cases hlt : k < s.size
    · have hbt := (s[k]).toNat_lt
      by_cases h1 : 97 ≤ (s[k]).toNat
      · have q1 : decide (((s[k]).toNat : Int) < 97) = false := decide_eq_false (by omega)
        by_cases h2 : (s[k]).toNat ≤ 122
        · have q2 : decide (122 < ((s[k]).toNat : Int)) = false := decide_eq_false (by omega)
          have HN := Lib.hid (nmrel_next hlt (by simp [okAt, WordM.letterB, h1, h2]) HA.out)
          go_wp2
          go_round
          case rel => exact HN.out
          case measure => simp [intOf]; omega
        · have q2 : decide (122 < ((s[k]).toNat : Int)) = true := decide_eq_true (by omega)
          have q3 : decide (((s[k]).toNat : Int) < 48) = false := decide_eq_false (by omega)
          have q4 : decide (57 < ((s[k]).toNat : Int)) = true := decide_eq_true (by omega)
          have HB := Lib.hid (HBAD.out k hlt (by simp [okAt, WordM.letterB, WordM.digitB, h1, h2]; omega))
          go_wp2
          go_ret
          exact ⟨by rw [HB.out]; rfl, Below.refl _ _⟩
      · have q1 : decide (((s[k]).toNat : Int) < 97) = true := decide_eq_true (by omega)
        by_cases h3 : 48 ≤ (s[k]).toNat
        · have q3 : decide (((s[k]).toNat : Int) < 48) = false := decide_eq_false (by omega)
          by_cases h4 : (s[k]).toNat ≤ 57
          · have q4 : decide (57 < ((s[k]).toNat : Int)) = false := decide_eq_false (by omega)
            by_cases h5 : k = 0
            · have q5 : ((k : Int) == 0) = true := by simp [h5]
              have HB := Lib.hid (HBAD.out k hlt (by unfold okAt; rw [show WordM.letterB s[k] = false from by simp [WordM.letterB, h1], decide_eq_false (fun h : k ≠ 0 => h h5)]; simp))
              clear h5
              go_wp2
              go_ret
              exact ⟨by rw [HB.out]; rfl, Below.refl _ _⟩
            · have q5 : ((k : Int) == 0) = false := by simp [h5]
              have HN := Lib.hid (nmrel_next hlt (by simp [okAt, WordM.letterB, WordM.digitB, h1, h3, h4, h5]) HA.out)
              clear h5
              go_wp2
              go_round
              case rel => exact HN.out
              case measure => simp [intOf]; omega
          · have q4 : decide (57 < ((s[k]).toNat : Int)) = true := decide_eq_true (by omega)
            have HB := Lib.hid (HBAD.out k hlt (by simp [okAt, WordM.letterB, WordM.digitB, h1, h4]))
            go_wp2
            go_ret
            exact ⟨by rw [HB.out]; rfl, Below.refl _ _⟩
        · have q3 : decide (((s[k]).toNat : Int) < 48) = true := decide_eq_true (by omega)
          have HB := Lib.hid (HBAD.out k hlt (by simp [okAt, WordM.letterB, WordM.digitB, h1, h3]))
          go_wp2
          go_ret
          exact ⟨by rw [HB.out]; rfl, Below.refl _ _⟩
    · obtain rfl : s.size = k := by omega
      have hsp : sp = (decide (1 ≤ s.size) && decide (s.size ≤ 8)) := HSP.out fun j h => HA.out j h h
      by_cases h0 : 1 ≤ s.size
      · have q0 : decide ((1 : Int) ≤ (s.size : Int)) = true := decide_eq_true (by omega)
        by_cases h8 : s.size ≤ 8
        · have q8 : decide ((s.size : Int) ≤ 8) = true := decide_eq_true (by omega)
          rw [decide_eq_true h0, decide_eq_true h8] at hsp
          have HS := Lib.hid hsp
          clear hsp
          cases kb with
          | true =>
            go_wp2_with (first | (go_at_call 89; refine (HK.out _).mono ?_; rintro e w' ⟨rfl, rfl⟩))
            go_ret
            exact ⟨by rw [HN0.out]; simp, Below.refl _ _⟩
          | false =>
            go_wp2_with (first | (go_at_call 89; refine (HK.out _).mono ?_; rintro e w' ⟨rfl, rfl⟩) | (go_at_call 61; refine (HR.out _).mono ?_; rintro e w' ⟨rfl, hb⟩))
            go_ret
            exact ⟨by rw [HN0.out, HS.out]; simp, hb⟩
        · have q8 : decide ((s.size : Int) ≤ 8) = false := decide_eq_false (by omega)
          rw [decide_eq_true h0, decide_eq_false h8] at hsp
          have HS := Lib.hid hsp
          clear hsp
          go_wp2
          go_ret
          exact ⟨by rw [HN0.out, HS.out]; rfl, Below.refl _ _⟩
      · have q0 : decide ((1 : Int) ≤ (s.size : Int)) = false := decide_eq_false (by omega)
        rw [decide_eq_false h0] at hsp
        have HS := Lib.hid hsp
        clear hsp
        go_wp2
        go_ret
        exact ⟨by rw [HN0.out, HS.out]; rfl, Below.refl _ _⟩
end Go.Proofs.YtmpiapmfdmllkaaGreatDoor
