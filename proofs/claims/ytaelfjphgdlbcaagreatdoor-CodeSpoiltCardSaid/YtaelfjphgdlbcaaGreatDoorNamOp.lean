/-
  names and registers of package word, over any world.
  WHICH LINES ARE RIGHT: the kinds' own tests, and which kind a line is of, over any world that holds the registers.
-/
import Derived.Test.YtaelfjphgdlbcaaGreatDoorBase
import Derived.Test.YtaelfjphgdlbcaaGreatDoorMath
namespace Go.Proofs.YtaelfjphgdlbcaaGreatDoor
open Go.RowKit
open WordM (L)
set_option linter.unusedVariables false
/-- What the program's table of registers holds. -/
def Regs (w : World) : Prop :=
  w.cell? ⟨1, 0, none⟩ = some (.string ⟨#[101, 97, 120]⟩) ∧ w.cell? ⟨1, 1, none⟩ = some (.string ⟨#[101, 98, 120]⟩) ∧
  w.cell? ⟨1, 2, none⟩ = some (.string ⟨#[101, 99, 120]⟩) ∧ w.cell? ⟨1, 3, none⟩ = some (.string ⟨#[101, 100, 120]⟩) ∧ 1 < w.heap.size
theorem Regs.below {w w' : World} (h : Regs w) (hb : Below w.heap.size w w') : Regs w' := by
  obtain ⟨h0, h1, h2, h3, h4⟩ := h
  exact ⟨(hb.cell (p := ⟨_, 0, none⟩) h4).trans h0, (hb.cell (p := ⟨_, 1, none⟩) h4).trans h1, (hb.cell (p := ⟨_, 2, none⟩) h4).trans h2, (hb.cell (p := ⟨_, 3, none⟩) h4).trans h3, Nat.lt_of_lt_of_le h4 hb.size⟩
set_option maxHeartbeats 1000000 in
set_option maxRecDepth 100000 in
theorem reg_walk (s : ByteArray) (w : World) (hr : Regs w) (b0 b1 b2 b3 : Bool) (r : Int)
    (q0 : (([101, 97, 120] : L) == s.toList) = b0) (q1 : (([101, 98, 120] : L) == s.toList) = b1) (q2 : (([101, 99, 120] : L) == s.toList) = b2) (q3 : (([101, 100, 120] : L) == s.toList) = b3)
    (hres : r = if b0 then 0 else if b1 then 1 else if b2 then 2 else if b3 then 3 else -1) :
    Calls Tryz.prog 40 #[.string s] w fun e w' => e = .returned (.int .i64 r) ∧ w = w' := by
  obtain ⟨h0, h1, h2, h3, hz⟩ := hr
  subst hres
  have ix0 : ∀ W, (Instr.index 99 (.agg #[.string ⟨#[101, 97, 120]⟩, .string ⟨#[101, 98, 120]⟩, .string ⟨#[101, 99, 120]⟩, .string ⟨#[101, 100, 120]⟩]) (.int .i64 0)).run Tryz.prog W = .ok (.string ⟨#[101, 97, 120]⟩) W := fun W => by kernel_rfl
  have ix1 : ∀ W, (Instr.index 99 (.agg #[.string ⟨#[101, 97, 120]⟩, .string ⟨#[101, 98, 120]⟩, .string ⟨#[101, 99, 120]⟩, .string ⟨#[101, 100, 120]⟩]) (.int .i64 1)).run Tryz.prog W = .ok (.string ⟨#[101, 98, 120]⟩) W := fun W => by kernel_rfl
  have ix2 : ∀ W, (Instr.index 99 (.agg #[.string ⟨#[101, 97, 120]⟩, .string ⟨#[101, 98, 120]⟩, .string ⟨#[101, 99, 120]⟩, .string ⟨#[101, 100, 120]⟩]) (.int .i64 2)).run Tryz.prog W = .ok (.string ⟨#[101, 99, 120]⟩) W := fun W => by kernel_rfl
  have ix3 : ∀ W, (Instr.index 99 (.agg #[.string ⟨#[101, 97, 120]⟩, .string ⟨#[101, 98, 120]⟩, .string ⟨#[101, 99, 120]⟩, .string ⟨#[101, 100, 120]⟩]) (.int .i64 3)).run Tryz.prog W = .ok (.string ⟨#[101, 100, 120]⟩) W := fun W => by kernel_rfl
  go_enter Tryz.func40, Tryz.ntmps40
  go_wp2
  go_loop [6] (fun i => ∃ k : Nat, k ≤ 4 ∧ i = .int .i64 k ∧ (0 < k → b0 = false) ∧ (1 < k → b1 = false) ∧ (2 < k → b2 = false) ∧ (3 < k → b3 = false)) (fun i => 4 - (intOf i).toNat)
  case atStart => exact ⟨0, by omega, rfl, by omega, by omega, by omega, by omega⟩
  case round =>
    obtain ⟨k, hk, rfl, g0, g1, g2, g3⟩ := hrel
    match k, hk with
    | 0, _ =>
      clear g0 g1 g2 g3
      cases b0
      · go_wp2
        go_round
        case rel => exact ⟨1, by omega, rfl, fun _ => by simp, by omega, by omega, by omega⟩
        case measure => simp [intOf]
      · go_wp2
        go_ret
        exact ⟨rfl, rfl⟩
    | 1, _ =>
      obtain rfl := g0 (by omega)
      clear g0 g1 g2 g3
      cases b1
      · go_wp2
        go_round
        case rel => exact ⟨2, by omega, rfl, fun _ => by simp, fun _ => by simp, by omega, by omega⟩
        case measure => simp [intOf]
      · go_wp2
        go_ret
        exact ⟨rfl, rfl⟩
    | 2, _ =>
      obtain rfl := g0 (by omega)
      obtain rfl := g1 (by omega)
      clear g0 g1 g2 g3
      cases b2
      · go_wp2
        go_round
        case rel => exact ⟨3, by omega, rfl, fun _ => by simp, fun _ => by simp, fun _ => by simp, by omega⟩
        case measure => simp [intOf]
      · go_wp2
        go_ret
        exact ⟨rfl, rfl⟩
    | 3, _ =>
      obtain rfl := g0 (by omega)
      obtain rfl := g1 (by omega)
      obtain rfl := g2 (by omega)
      clear g0 g1 g2 g3
      cases b3
      · go_wp2
        go_round
        case rel => exact ⟨4, by omega, rfl, fun _ => by simp, fun _ => by simp, fun _ => by simp, fun _ => by simp⟩
        case measure => simp [intOf]
      · go_wp2
        go_ret
        exact ⟨rfl, rfl⟩
    | 4, _ =>
      obtain rfl := g0 (by omega)
      obtain rfl := g1 (by omega)
      obtain rfl := g2 (by omega)
      obtain rfl := g3 (by omega)
      clear g0 g1 g2 g3
      go_wp2
      go_ret
      exact ⟨rfl, rfl⟩
theorem regNo_bools (l : L) : WordM.regNo l = if decide (l = WordM.regL 0) then 0 else if decide (l = WordM.regL 1) then 1 else if decide (l = WordM.regL 2) then 2 else if decide (l = WordM.regL 3) then 3 else -1 := by
  unfold WordM.regNo; simp only [decide_eq_true_eq]
theorem reg_any (s : ByteArray) (w : World) (hr : Regs w) :
    Calls Tryz.prog 40 #[.string s] w fun e w' => e = .returned (.int .i64 (WordM.regNo s.data.toList)) ∧ w = w' :=
  reg_walk s w hr _ _ _ _ _ (strq s _ _ rfl).2 (strq s _ _ rfl).2 (strq s _ _ rfl).2 (strq s _ _ rfl).2 (regNo_bools _)
set_option maxHeartbeats 1000000 in
set_option maxRecDepth 100000 in
theorem letter_any (b : UInt8) (w : World) :
    Calls Tryz.prog 94 #[.int .u8 b.toNat] w fun e w' => e = .returned (.bool (WordM.letterB b)) ∧ w = w' := by
  by_cases h1 : 97 ≤ b.toNat
  · have g1 : decide ((97 : Int) ≤ (b.toNat : Int)) = true := decide_eq_true (by omega)
    have hb : WordM.letterB b = decide ((b.toNat : Int) ≤ 122) := by
      unfold WordM.letterB
      rw [decide_eq_true h1, Bool.true_and]
      congr 1; exact propext (by omega)
    rw [hb]; clear hb
    go_enter Tryz.func94, Tryz.ntmps94
    go_wp2
    go_ret
    exact ⟨rfl, rfl⟩
  · have g1 : decide ((97 : Int) ≤ (b.toNat : Int)) = false := decide_eq_false (by omega)
    have hb : WordM.letterB b = false := by simp [WordM.letterB, h1]
    rw [hb]; clear hb
    go_enter Tryz.func94, Tryz.ntmps94
    go_wp2
    go_ret
    exact ⟨rfl, rfl⟩
set_option maxHeartbeats 1000000 in
set_option maxRecDepth 100000 in
theorem digit_any (b : UInt8) (w : World) :
    Calls Tryz.prog 95 #[.int .u8 b.toNat] w fun e w' => e = .returned (.bool (WordM.digitB b)) ∧ w = w' := by
  by_cases h1 : 48 ≤ b.toNat
  · have g1 : decide ((48 : Int) ≤ (b.toNat : Int)) = true := decide_eq_true (by omega)
    have hb : WordM.digitB b = decide ((b.toNat : Int) ≤ 57) := by
      unfold WordM.digitB
      rw [decide_eq_true h1, Bool.true_and]
      congr 1; exact propext (by omega)
    rw [hb]; clear hb
    go_enter Tryz.func95, Tryz.ntmps95
    go_wp2
    go_ret
    exact ⟨rfl, rfl⟩
  · have g1 : decide ((48 : Int) ≤ (b.toNat : Int)) = false := decide_eq_false (by omega)
    have hb : WordM.digitB b = false := by simp [WordM.digitB, h1]
    rw [hb]; clear hb
    go_enter Tryz.func95, Tryz.ntmps95
    go_wp2
    go_ret
    exact ⟨rfl, rfl⟩
/-- At a round of spelt: the bytes ahead of k are letters or digits. -/
def SpRel (s : ByteArray) (i : Value) : Prop := ∃ k : Nat, k ≤ s.size ∧ i = .int .i64 k ∧ ∀ j (h : j < s.size), j < k → WordM.alnum s[j] = true
theorem sprel_next {s : ByteArray} {k : Nat} (hk : k < s.size) (h : WordM.alnum s[k] = true) (hall : ∀ j (h : j < s.size), j < k → WordM.alnum s[j] = true) : SpRel s (.int .i64 ((k : Int) + 1)) :=
  ⟨k + 1, by omega, by go_num, fun j hj h1 => by
    by_cases e : j = k
    · subst e; exact h
    · exact hall j hj (by omega)⟩
theorem spelt_false (s : ByteArray) (k : Nat) (hk : k < s.size) (h : WordM.alnum s[k] = false) : WordM.speltB s.data.toList = false :=
  WordM.speltB_at s.data.toList k (by rw [← Lib.size_eq]; exact hk) h
theorem spelt_true (s : ByteArray) (h0 : 0 < s.size) (h8 : s.size ≤ 8) (hh : WordM.letterB s[0] = true) (ha : ∀ k (hk : k < s.size), k < s.size → WordM.alnum s[k] = true) : WordM.speltB s.data.toList = true := by
  refine WordM.speltB_yes _ (by intro e; have := Lib.size_eq s; rw [e, List.length_nil] at this; omega) (by rw [← Lib.size_eq]; exact h8) ?_ fun k hk => ha k (by rw [Lib.size_eq]; exact hk) (by rw [Lib.size_eq]; exact hk)
  rw [head_at s h0]; exact hh
set_option maxHeartbeats 1000000 in
set_option maxRecDepth 100000 in
theorem spelt_any (s : ByteArray) (w : World) :
    Calls Tryz.prog 76 #[.string s] w fun e w' => e = .returned (.bool (WordM.speltB s.data.toList)) ∧ w = w' := by
  by_cases h0 : s.size = 0
  · have e : s.data.toList = [] := by have := Lib.size_eq s; exact List.eq_nil_of_length_eq_zero (by omega)
    have q1 : (s.toList == []) = true := by rw [Lib.toList_data, e]; rfl
    have q2 : s.toList = [] := by rw [Lib.toList_data, e]
    have q3 : s.toList.isEmpty = true := by rw [q2]; rfl
    rw [e, WordM.speltB_nil]
    clear e h0
    go_enter Tryz.func76, Tryz.ntmps76
    go_wp2
    go_ret
    exact ⟨rfl, rfl⟩
  · have hp : 0 < s.size := by omega
    have e : s.data.toList ≠ [] := by intro e; have := Lib.size_eq s; rw [e, List.length_nil] at this; omega
    have q1 : (s.toList == []) = false := by rw [Lib.toList_data]; simpa using e
    have q2 : ¬ s.toList = [] := by rw [Lib.toList_data]; exact e
    have q3 : s.toList.isEmpty = false := by rw [Lib.toList_data]; simpa using e
    clear e h0
    by_cases h8 : 8 < s.size
    · have g8 : decide ((8 : Int) < (s.size : Int)) = true := decide_eq_true (by omega)
      rw [WordM.speltB_long _ (by rw [← Lib.size_eq]; exact h8)]
      go_enter Tryz.func76, Tryz.ntmps76
      go_wp2
      go_ret
      exact ⟨rfl, rfl⟩
    · have g8 : decide ((8 : Int) < (s.size : Int)) = false := decide_eq_false (by omega)
      cases hh : WordM.letterB s[0] with
      | false =>
        rw [WordM.speltB_head _ (by rw [head_at s hp]; exact hh)]
        have HL : ∀ W : World, Calls Tryz.prog 94 #[.int .u8 s[0].toNat] W fun e w' => e = .returned (.bool false) ∧ W = w' := fun W => by rw [← hh]; exact letter_any s[0] W
        have HL' := Lib.hid HL
        clear HL hh
        go_enter Tryz.func76, Tryz.ntmps76
        go_wp2_with (go_at_call 94; refine (HL'.out _).mono ?_; rintro e w' ⟨rfl, rfl⟩)
        go_ret
        exact ⟨rfl, rfl⟩
      | true =>
        have HL : ∀ W : World, Calls Tryz.prog 94 #[.int .u8 s[0].toNat] W fun e w' => e = .returned (.bool true) ∧ W = w' := fun W => by rw [← hh]; exact letter_any s[0] W
        have HL' := Lib.hid HL
        have HT := Lib.hid (spelt_true s hp (by omega) hh)
        clear HL hh
        go_enter Tryz.func76, Tryz.ntmps76
        go_wp2_with (go_at_call 94; refine (HL'.out _).mono ?_; rintro e w' ⟨rfl, rfl⟩)
        go_loop [19] (fun i => SpRel s i) (fun i => s.size - (intOf i).toNat)
        case atStart => exact ⟨0, Nat.zero_le _, rfl, fun j _ h => absurd h (by omega)⟩
        case round =>
          obtain ⟨k, hk, rfl, hall⟩ := hrel
          have HA := Lib.hid hall
          clear hall
          by_cases hlt : k < s.size
          · cases h1 : WordM.letterB s[k] with
            | true =>
              have H1 : ∀ W : World, Calls Tryz.prog 94 #[.int .u8 s[k].toNat] W fun e w' => e = .returned (.bool true) ∧ W = w' := fun W => by rw [← h1]; exact letter_any s[k] W
              have H1' := Lib.hid H1
              have HN := Lib.hid (sprel_next hlt (by simp [WordM.alnum, h1]) HA.out)
              clear H1 h1
              go_wp2_with (go_at_call 94; refine (H1'.out _).mono ?_; rintro e w' ⟨rfl, rfl⟩)
              go_round
              case rel => exact HN.out
              case measure => simp [intOf]; omega
            | false =>
              have H1 : ∀ W : World, Calls Tryz.prog 94 #[.int .u8 s[k].toNat] W fun e w' => e = .returned (.bool false) ∧ W = w' := fun W => by rw [← h1]; exact letter_any s[k] W
              have H1' := Lib.hid H1
              cases h2 : WordM.digitB s[k] with
              | true =>
                have H2 : ∀ W : World, Calls Tryz.prog 95 #[.int .u8 s[k].toNat] W fun e w' => e = .returned (.bool true) ∧ W = w' := fun W => by rw [← h2]; exact digit_any s[k] W
                have H2' := Lib.hid H2
                have HN := Lib.hid (sprel_next hlt (by simp [WordM.alnum, h2]) HA.out)
                clear H1 h1 H2 h2
                go_wp2_with (first | (go_at_call 94; refine (H1'.out _).mono ?_; rintro e w' ⟨rfl, rfl⟩) | (go_at_call 95; refine (H2'.out _).mono ?_; rintro e w' ⟨rfl, rfl⟩))
                go_round
                case rel => exact HN.out
                case measure => simp [intOf]; omega
              | false =>
                have H2 : ∀ W : World, Calls Tryz.prog 95 #[.int .u8 s[k].toNat] W fun e w' => e = .returned (.bool false) ∧ W = w' := fun W => by rw [← h2]; exact digit_any s[k] W
                have H2' := Lib.hid H2
                have HN := Lib.hid (spelt_false s k hlt (by simp [WordM.alnum, h1, h2]))
                clear H1 h1 H2 h2
                go_wp2_with (first | (go_at_call 94; refine (H1'.out _).mono ?_; rintro e w' ⟨rfl, rfl⟩) | (go_at_call 95; refine (H2'.out _).mono ?_; rintro e w' ⟨rfl, rfl⟩))
                go_ret
                exact ⟨by rw [HN.out]; rfl, rfl⟩
          · obtain rfl : s.size = k := by omega
            go_wp2
            go_ret
            exact ⟨by rw [HT.out HA.out]; rfl, rfl⟩
set_option maxHeartbeats 2000000 in
set_option maxRecDepth 100000 in
theorem key_yes (l : L) (w : World) (h : l ∈ WordM.keys) :
    Calls Tryz.prog 77 #[.string ⟨l.toArray⟩] w fun e w' => e = .returned (.bool true) ∧ w = w' := by
  simp only [WordM.keys, List.mem_cons, List.not_mem_nil, or_false] at h
  rcases h with rfl | rfl | rfl | rfl | rfl | rfl | rfl | rfl | rfl | rfl | rfl | rfl
  all_goals
    go_enter Tryz.func77, Tryz.ntmps77
    go_wp2
    go_ret
    exact ⟨rfl, rfl⟩
set_option maxHeartbeats 2000000 in
set_option maxRecDepth 100000 in
theorem key_no (s : ByteArray) (w : World) (h : s.data.toList ∉ WordM.keys) :
    Calls Tryz.prog 77 #[.string s] w fun e w' => e = .returned (.bool false) ∧ w = w' := by
  simp only [WordM.keys, List.mem_cons, List.not_mem_nil, or_false, not_or] at h
  obtain ⟨h0, h1, h2, h3, h4, h5, h6, h7, h8, h9, h10, h11⟩ := h
  have q0 := (strq s [120, 56, 54] false (decide_eq_false h0)).1
  have q1 := (strq s [105, 110, 105, 116] false (decide_eq_false h1)).1
  have q2 := (strq s [116, 104, 114, 101, 97, 100] false (decide_eq_false h2)).1
  have q3 := (strq s [109, 111, 118] false (decide_eq_false h3)).1
  have q4 := (strq s [120, 99, 104, 103] false (decide_eq_false h4)).1
  have q5 := (strq s [109, 102, 101, 110, 99, 101] false (decide_eq_false h5)).1
  have q6 := (strq s [99, 109, 112] false (decide_eq_false h6)).1
  have q7 := (strq s [106, 109, 112] false (decide_eq_false h7)).1
  have q8 := (strq s [106, 101] false (decide_eq_false h8)).1
  have q9 := (strq s [106, 110, 101] false (decide_eq_false h9)).1
  have q10 := (strq s [101, 120, 105, 115, 116, 115] false (decide_eq_false h10)).1
  have q11 := (strq s [102, 111, 114, 97, 108, 108] false (decide_eq_false h11)).1
  clear h0 h1 h2 h3 h4 h5 h6 h7 h8 h9 h10 h11
  go_enter Tryz.func77, Tryz.ntmps77
  go_wp2
  go_ret
  exact ⟨rfl, rfl⟩
theorem key_any (s : ByteArray) (w : World) :
    Calls Tryz.prog 77 #[.string s] w fun e w' => e = .returned (.bool (WordM.keyB s.data.toList)) ∧ w = w' := by
  by_cases h : s.data.toList ∈ WordM.keys
  · rw [show WordM.keyB s.data.toList = true from decide_eq_true h]
    exact key_yes s.data.toList w h
  · rw [show WordM.keyB s.data.toList = false from decide_eq_false h]
    exact key_no s w h
set_option maxHeartbeats 1000000 in
set_option maxRecDepth 100000 in
theorem name_any (s : ByteArray) (w : World) (hr : Regs w) :
    Calls Tryz.prog 59 #[.string s] w fun e w' => e = .returned (.bool (WordM.nameB s.data.toList)) ∧ w = w' := by
  have HS := Lib.hid (fun W => spelt_any s W)
  have HR := Lib.hid (fun W h => reg_any s W h)
  have HK := Lib.hid (fun W => key_any s W)
  have HN := Lib.hid (show WordM.nameB s.data.toList = (WordM.speltB s.data.toList && decide (WordM.regNo s.data.toList < 0) && !WordM.keyB s.data.toList) from rfl)
  generalize WordM.nameB s.data.toList = nb at *
  generalize WordM.speltB s.data.toList = sp at *
  generalize WordM.regNo s.data.toList = rn at *
  generalize WordM.keyB s.data.toList = kb at *
  have HW := Lib.hid hr
  clear hr
  cases sp with
  | false =>
    go_enter Tryz.func59, Tryz.ntmps59
    go_wp2_with (first | (go_at_call 76; refine (HS.out _).mono ?_; rintro e w' ⟨rfl, rfl⟩))
    go_ret
    exact ⟨by rw [HN.out]; rfl, rfl⟩
  | true =>
    by_cases h : rn < 0
    · have h2 : decide (rn < 0) = true := decide_eq_true h
      go_enter Tryz.func59, Tryz.ntmps59
      go_wp2_with (first | (go_at_call 76; refine (HS.out _).mono ?_; rintro e w' ⟨rfl, rfl⟩) | (go_at_call 40; refine (HR.out _ HW.out).mono ?_; rintro e w' ⟨rfl, rfl⟩) | (go_at_call 77; refine (HK.out _).mono ?_; rintro e w' ⟨rfl, rfl⟩))
      go_ret
      exact ⟨by rw [HN.out, h2]; rfl, rfl⟩
    · have h2 : decide (rn < 0) = false := decide_eq_false h
      go_enter Tryz.func59, Tryz.ntmps59
      go_wp2_with (first | (go_at_call 76; refine (HS.out _).mono ?_; rintro e w' ⟨rfl, rfl⟩) | (go_at_call 40; refine (HR.out _ HW.out).mono ?_; rintro e w' ⟨rfl, rfl⟩))
      go_ret
      exact ⟨by rw [HN.out, h2]; rfl, rfl⟩
end Go.Proofs.YtaelfjphgdlbcaaGreatDoor
namespace Go.Proofs.YtaelfjphgdlbcaaGreatDoor
open Go.RowKit
set_option linter.unusedVariables false
set_option linter.unusedSimpArgs false
open WordM (L)

/-- A line as a value. -/
def lnv (op : Int) (r o b : ByteArray) (n : Int) : Value := .agg #[.int .i64 op, .string r, .string o, .string b, .int .i64 n]

set_option maxHeartbeats 1000000 in
set_option maxRecDepth 100000 in
theorem register_any (s : ByteArray) (w : World) (hr : Regs w) :
    Calls Tryz.prog 87 #[.string s] w fun e w' => e = .returned (.bool (OpsM.regB s.data.toList)) ∧ w = w' := by
  have HR := Lib.hid (fun W h => reg_any s W h)
  have HW := Lib.hid hr
  clear hr
  by_cases h : 0 ≤ WordM.regNo s.data.toList
  · have hb := Lib.hid (show OpsM.regB s.data.toList = true from decide_eq_true h)
    have h2 : decide (0 ≤ WordM.regNo s.data.toList) = true := decide_eq_true h
    generalize WordM.regNo s.data.toList = k at *
    go_enter Tryz.func87, Tryz.ntmps87
    go_wp2_with (go_at_call 40; refine (HR.out _ HW.out).mono ?_; rintro e w' ⟨rfl, rfl⟩)
    go_ret
    exact ⟨by rw [hb.out]; rfl, rfl⟩
  · have hb := Lib.hid (show OpsM.regB s.data.toList = false from decide_eq_false h)
    have h2 : decide (0 ≤ WordM.regNo s.data.toList) = false := decide_eq_false h
    generalize WordM.regNo s.data.toList = k at *
    go_enter Tryz.func87, Tryz.ntmps87
    go_wp2_with (go_at_call 40; refine (HR.out _ HW.out).mono ?_; rintro e w' ⟨rfl, rfl⟩)
    go_ret
    exact ⟨by rw [hb.out]; rfl, rfl⟩

theorem ret_bool {a b : Bool} (h : a = b) : Ending.returned (.bool a) = .returned (.bool b) := by rw [h]
theorem emp_of (s : ByteArray) : OpsM.emp s.data.toList = decide (s.toList = []) := by unfold OpsM.emp; rw [Lib.toList_data]

set_option maxHeartbeats 1000000 in
set_option maxRecDepth 100000 in
theorem wnum_any (op n : Int) (r o b : ByteArray) (w : World) (hr : Regs w) :
    Calls Tryz.prog 132 #[lnv op r o b n] w fun e w' => e = .returned (.bool (OpsM.okNum r.data.toList o.data.toList b.data.toList)) ∧ Below w.heap.size w w' := by
  have E := Lib.hid (show OpsM.okNum r.data.toList o.data.toList b.data.toList = (OpsM.regB r.data.toList && (OpsM.emp o.data.toList && OpsM.emp b.data.toList)) from rfl)
  have e1 := Lib.hid (emp_of r)
  have e2 := Lib.hid (emp_of o)
  have e3 := Lib.hid (emp_of b)
  have H0 := Lib.hid (fun W (h : Regs W) => register_any r W h)
  have HW := Lib.hid hr
  clear hr
  generalize OpsM.okNum r.data.toList o.data.toList b.data.toList = res at *
  generalize OpsM.regB r.data.toList = q0 at *
  cases q0
  all_goals
    unfold lnv
    go_enter Tryz.func132, Tryz.ntmps132
    go_wp2_with (first | (go_at_call 87; refine (H0.out _ (HW.out.below ((Below.refl _ _).alloc (Nat.le_refl _) _))).mono ?_; rintro e w' ⟨rfl, rfl⟩))
    all_goals
      go_ret
      exact ⟨ret_bool (by rw [E.out]; simp only [e2.out, e3.out]; simp [*]), (Below.refl _ _).alloc (Nat.le_refl _) _⟩

set_option maxHeartbeats 1000000 in
set_option maxRecDepth 100000 in
theorem wloc_any (op n : Int) (r o b : ByteArray) (w : World) (hr : Regs w) :
    Calls Tryz.prog 134 #[lnv op r o b n] w fun e w' => e = .returned (.bool (OpsM.okLoc r.data.toList o.data.toList b.data.toList n)) ∧ Below w.heap.size w w' := by
  have E := Lib.hid (show OpsM.okLoc r.data.toList o.data.toList b.data.toList n = (OpsM.regB r.data.toList && (WordM.nameB o.data.toList && (OpsM.emp b.data.toList && OpsM.nil0 n))) from rfl)
  have e1 := Lib.hid (emp_of r)
  have e2 := Lib.hid (emp_of o)
  have e3 := Lib.hid (emp_of b)
  have H0 := Lib.hid (fun W (h : Regs W) => register_any r W h)
  have H1 := Lib.hid (fun W (h : Regs W) => name_any o W h)
  have HW := Lib.hid hr
  clear hr
  generalize OpsM.okLoc r.data.toList o.data.toList b.data.toList n = res at *
  generalize OpsM.regB r.data.toList = q0 at *
  generalize WordM.nameB o.data.toList = q1 at *
  cases q0
  · clear H1
    unfold lnv
    go_enter Tryz.func134, Tryz.ntmps134
    go_wp2_with (first | (go_at_call 87; refine (H0.out _ (HW.out.below ((Below.refl _ _).alloc (Nat.le_refl _) _))).mono ?_; rintro e w' ⟨rfl, rfl⟩) | (go_at_call 59; refine (H1.out _ (HW.out.below ((Below.refl _ _).alloc (Nat.le_refl _) _))).mono ?_; rintro e w' ⟨rfl, rfl⟩))
    all_goals
      go_ret
      exact ⟨ret_bool (by rw [E.out]; simp only [e3.out, OpsM.nil0]; simp [*]), (Below.refl _ _).alloc (Nat.le_refl _) _⟩
  · cases q1
    all_goals
      unfold lnv
      go_enter Tryz.func134, Tryz.ntmps134
      go_wp2_with (first | (go_at_call 87; refine (H0.out _ (HW.out.below ((Below.refl _ _).alloc (Nat.le_refl _) _))).mono ?_; rintro e w' ⟨rfl, rfl⟩) | (go_at_call 59; refine (H1.out _ (HW.out.below ((Below.refl _ _).alloc (Nat.le_refl _) _))).mono ?_; rintro e w' ⟨rfl, rfl⟩))
      all_goals
        go_ret
        exact ⟨ret_bool (by rw [E.out]; simp only [e3.out, OpsM.nil0]; simp [*]), (Below.refl _ _).alloc (Nat.le_refl _) _⟩

set_option maxHeartbeats 1000000 in
set_option maxRecDepth 100000 in
theorem wlab_any (op n : Int) (r o b : ByteArray) (w : World) (hr : Regs w) :
    Calls Tryz.prog 143 #[lnv op r o b n] w fun e w' => e = .returned (.bool (OpsM.okLab r.data.toList o.data.toList b.data.toList n)) ∧ Below w.heap.size w w' := by
  have E := Lib.hid (show OpsM.okLab r.data.toList o.data.toList b.data.toList n = (WordM.nameB b.data.toList && (OpsM.emp r.data.toList && (OpsM.emp o.data.toList && OpsM.nil0 n))) from rfl)
  have e1 := Lib.hid (emp_of r)
  have e2 := Lib.hid (emp_of o)
  have e3 := Lib.hid (emp_of b)
  have H0 := Lib.hid (fun W (h : Regs W) => name_any b W h)
  have HW := Lib.hid hr
  clear hr
  generalize OpsM.okLab r.data.toList o.data.toList b.data.toList n = res at *
  generalize WordM.nameB b.data.toList = q0 at *
  cases q0
  all_goals
    unfold lnv
    go_enter Tryz.func143, Tryz.ntmps143
    go_wp2_with (first | (go_at_call 59; refine (H0.out _ (HW.out.below ((Below.refl _ _).alloc (Nat.le_refl _) _))).mono ?_; rintro e w' ⟨rfl, rfl⟩))
    all_goals
      go_ret
      exact ⟨ret_bool (by rw [E.out]; simp only [e1.out, e2.out, OpsM.nil0]; simp [*]), (Below.refl _ _).alloc (Nat.le_refl _) _⟩

set_option maxHeartbeats 1000000 in
set_option maxRecDepth 100000 in
theorem wput_any (op n : Int) (r o b : ByteArray) (w : World) (hr : Regs w) :
    Calls Tryz.prog 137 #[lnv op r o b n] w fun e w' => e = .returned (.bool (OpsM.okPut r.data.toList o.data.toList b.data.toList)) ∧ Below w.heap.size w w' := by
  have E := Lib.hid (show OpsM.okPut r.data.toList o.data.toList b.data.toList = (WordM.nameB o.data.toList && (OpsM.emp r.data.toList && OpsM.emp b.data.toList)) from rfl)
  have e1 := Lib.hid (emp_of r)
  have e2 := Lib.hid (emp_of o)
  have e3 := Lib.hid (emp_of b)
  have H0 := Lib.hid (fun W (h : Regs W) => name_any o W h)
  have HW := Lib.hid hr
  clear hr
  generalize OpsM.okPut r.data.toList o.data.toList b.data.toList = res at *
  generalize WordM.nameB o.data.toList = q0 at *
  cases q0
  all_goals
    unfold lnv
    go_enter Tryz.func137, Tryz.ntmps137
    go_wp2_with (first | (go_at_call 59; refine (H0.out _ (HW.out.below ((Below.refl _ _).alloc (Nat.le_refl _) _))).mono ?_; rintro e w' ⟨rfl, rfl⟩))
    all_goals
      go_ret
      exact ⟨ret_bool (by rw [E.out]; simp only [e1.out, e3.out]; simp [*]), (Below.refl _ _).alloc (Nat.le_refl _) _⟩

set_option maxHeartbeats 1000000 in
set_option maxRecDepth 100000 in
theorem wfen_any (op n : Int) (r o b : ByteArray) (w : World) (hr : Regs w) :
    Calls Tryz.prog 140 #[lnv op r o b n] w fun e w' => e = .returned (.bool (OpsM.okFen r.data.toList o.data.toList b.data.toList n)) ∧ Below w.heap.size w w' := by
  have E := Lib.hid (show OpsM.okFen r.data.toList o.data.toList b.data.toList n = (OpsM.emp r.data.toList && (OpsM.emp o.data.toList && (OpsM.emp b.data.toList && OpsM.nil0 n))) from rfl)
  have e1 := Lib.hid (emp_of r)
  have e2 := Lib.hid (emp_of o)
  have e3 := Lib.hid (emp_of b)
  have HW := Lib.hid hr
  clear hr
  generalize OpsM.okFen r.data.toList o.data.toList b.data.toList n = res at *
  unfold lnv
  go_enter Tryz.func140, Tryz.ntmps140
  go_wp2
  all_goals
    go_ret
    exact ⟨ret_bool (by rw [E.out]; simp only [e1.out, e2.out, e3.out, OpsM.nil0]; simp [*]), (Below.refl _ _).alloc (Nat.le_refl _) _⟩
end Go.Proofs.YtaelfjphgdlbcaaGreatDoor
