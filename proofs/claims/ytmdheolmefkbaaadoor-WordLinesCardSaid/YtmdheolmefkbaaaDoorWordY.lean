/-
  THE LAW WordWords, AS A WALK OVER ANY WORLD that holds the registers: it returns true.
-/
import Derived.Test.YtmdheolmefkbaaaDoorWordX
namespace Go.Proofs.YtmdheolmefkbaaaDoor
open Go.RowKit
set_option linter.unusedVariables false
open WordM (L)

def Aft (s : ByteArray) (p : Nat) : Prop := (s.data.toList.drop p).head? = none ∨ (s.data.toList.drop p).head? = some 32
def Bef (s : ByteArray) (p : Nat) : Prop := 0 < p ∧ s.data.toList[p - 1]? = some 32
/-- What is read up to p, k words being over. -/
def I1 (s : ByteArray) (ls : List L) (k p : Nat) : Prop := p ≤ s.size ∧ WordM.words (s.data.toList.drop p) = ls.drop k ∧ (k = 0 ∨ Aft s p ∨ Bef s p)
theorem byte_at (s : ByteArray) (p : Nat) (h : p < s.size) : s.data.toList[p]? = some s[p] := by
  rw [List.getElem?_eq_getElem (by rw [← Lib.size_eq]; exact h)]; rfl
theorem blank_eq (s : ByteArray) (p : Nat) (h : p < s.size) : (((s[p]).toNat : Int) == 32) = decide (s[p] = 32) := by
  have := u8_beq s[p] 32
  exact this
theorem i1_blank {s : ByteArray} {ls : List L} {k p : Nat} (h : I1 s ls k p) (hp : p < s.size) (hb : s[p] = 32) : I1 s ls k (p + 1) := by
  obtain ⟨h1, h2, h3⟩ := h
  refine ⟨hp, ?_, .inr (.inr ⟨by omega, by rw [Nat.add_sub_cancel, byte_at s p hp, hb]⟩)⟩
  rw [drop_at s p hp, hb, WordM.words_blank] at h2
  exact h2
theorem i1_end {s : ByteArray} {ls : List L} {p : Nat} (h : I1 s ls ls.length p) (hp : p < s.size) : s[p] = 32 := by
  obtain ⟨h1, h2, h3⟩ := h
  rw [List.drop_length] at h2
  by_cases e : s[p] = 32
  · exact e
  · exfalso
    have := WordM.words_nil _ h2 (by rw [drop_at s p hp]; simpa using e)
    rw [drop_at s p hp] at this
    cases this
/-- Where a word stands: what the law asks of it. -/
theorem i1_word {s : ByteArray} {ls : List L} {k p : Nat} (h : I1 s ls k p) (hk : k < ls.length) (hb : ∀ hp : p < s.size, s[p] ≠ 32) (X : ByteArray) (hX : X = ⟨(ls[k]).toArray⟩) :
    1 ≤ X.size ∧ p + X.size ≤ s.size ∧ s.extract p (p + X.size) = X ∧ (0 < k → ∃ h : p - 1 < s.size, 0 < p ∧ s[p - 1] = 32) ∧
      (∀ m (hm : m < s.size), p ≤ m → m < p + X.size → s[m] ≠ 32) ∧ I1 s ls (k + 1) (p + X.size) := by
  obtain ⟨h1, h2, h3⟩ := h
  rw [List.drop_eq_getElem_cons hk] at h2
  have hsz := Lib.size_eq s
  have hp : p < s.size := by
    rcases Nat.lt_or_ge p s.size with h | h
    · exact h
    · exfalso
      rw [List.drop_of_length_le (by omega)] at h2
      cases h2
  have hnb : (s.data.toList.drop p).head? ≠ some 32 := by
    rw [drop_at s p hp]
    simpa using hb hp
  obtain ⟨q, e, hf, hne, hq, ha⟩ := WordM.words_head _ _ _ h2 hnb
  have hXl : X.size = (ls[k]).length := by rw [hX]; rfl
  have hlen : (ls[k]).length + q.length = s.size - p := by
    have := congrArg List.length e
    rw [List.length_drop, List.length_append] at this
    omega
  have hpos : 1 ≤ (ls[k]).length := List.length_pos_iff.2 hne
  have hdrop : s.data.toList.drop (p + X.size) = q := by
    rw [← List.drop_drop, e, hXl]; simp
  refine ⟨by omega, by omega, ?_, ?_, ?_, by omega, by rw [hdrop]; exact hq, .inr (.inl ?_)⟩
  · apply ByteArray.ext; apply Array.toList_inj.1
    rw [Lib.extract_data, e, hX]
    show List.take (p + (ls[k]).length - p) ((ls[k]) ++ q) = ls[k]
    rw [Nat.add_sub_cancel_left]; simp
  · intro hk0
    rcases h3 with h3 | h3 | h3
    · omega
    · exfalso
      rcases h3 with h3 | h3
      · rw [drop_at s p hp] at h3; cases h3
      · exact hnb h3
    · refine ⟨by omega, h3.1, ?_⟩
      have := byte_at s (p - 1) (by omega)
      rw [h3.2] at this
      exact (Option.some.inj this).symm
  · intro m hm hm1 hm2 e2
    apply hf
    have h4 : (s.data.toList.drop p)[m - p]? = some 32 := by
      rw [List.getElem?_drop, show p + (m - p) = m by omega, byte_at s m hm, e2]
    rw [e, List.getElem?_append_left (by omega)] at h4
    exact List.mem_of_getElem? h4
  · unfold Aft
    rw [hdrop]
    rcases ha with ha | ha
    · exact .inl (by rw [ha]; rfl)
    · exact .inr ha

def OutRel (s : ByteArray) (ls : List L) (W : World) (g : Nat) (at_ i : Value) (wr : World) : Prop :=
  ∃ k p n, k ≤ ls.length ∧ g = ls.length - k ∧ i = .int .i64 (k : Nat) ∧ at_ = .int .i64 (p : Nat) ∧ I1 s ls k p ∧ wr = W.drewN n
def SkipRel (s : ByteArray) (ls : List L) (k : Nat) (W : World) (g : Nat) (at_ : Value) (wr : World) : Prop :=
  ∃ p, g = s.size - p ∧ at_ = .int .i64 (p : Nat) ∧ I1 s ls k p ∧ W = wr
def ScanRel (p e : Nat) (W : World) (g : Nat) (j : Value) (wr : World) : Prop :=
  ∃ m n, p ≤ m ∧ m ≤ e ∧ g = e - m ∧ j = .int .i64 (m : Nat) ∧ wr = W.drewN n

set_option maxHeartbeats 4000000 in
set_option maxRecDepth 100000 in
theorem wwords_any (s : ByteArray) (w : World) (hs : s.size ≤ maxLen) (hr : Regs w) :
    Calls Tryd.prog 5 #[.string s] w fun e w' => e = .returned (.bool true) ∧ Below w.heap.size w w' := by
  unfold maxLen at hs
  by_cases h1 : (2000 : Int) < (s.size : Int)
  · go_enter Tryd.func5, Tryd.ntmps5
    go_wp2_with fail
    refine (head_any _ hr).mono ?_
    rintro e wv1 ⟨rfl, hB⟩
    go_wp2_with fail
    go_ret
    exact ⟨rfl, hB⟩
  · have hll := words_len s.data.toList
    rw [← Lib.size_eq] at hll
    have hI := Lib.hid (show I1 s (WordM.words s.data.toList) 0 0 from ⟨Nat.zero_le _, rfl, .inl rfl⟩)
    go_enter Tryd.func5, Tryd.ntmps5
    go_wp2_with fail
    refine (head_any _ hr).mono ?_
    rintro e wv2 ⟨rfl, hB⟩
    go_wp2_with fail
    refine (words_any s _ (by omega)).mono ?_
    rintro e wA ⟨vA, rfl, hoA, hbA⟩
    replace hB := chain hB hbA
    generalize WordM.words s.data.toList = ls at *
    obtain ⟨A, c, rfl, hc1, hc2, hc3⟩ := strs_own hoA
    unfold maxLen at hc2
    clear hoA hbA
    go_wp2_with fail
    go_loopg [5, 6] ls.length (fun g at_ i wr => OutRel s ls wA g at_ i wr)
    case atStart => exact ⟨0, 0, 0, Nat.zero_le _, rfl, rfl, rfl, hI.out, rfl⟩
    case round =>
      obtain ⟨k, p, nd, hk, rfl, rfl, rfl, hi1, rfl⟩ := hrel
      have HI := Lib.hid hi1
      have hp1 := hi1.1
      clear hi1
      by_cases hlt : k < ls.length
      · obtain ⟨b, rfl, hb, hcl⟩ := hc3 (by omega)
        obtain ⟨X, hX⟩ : ∃ X : ByteArray, X = ⟨(ls[k]).toArray⟩ := ⟨_, rfl⟩
        have hc := hcl k hlt
        rw [show sv ls[k] = .string X by rw [hX]; rfl] at hc
        have HX := Lib.hid hX
        clear hX hcl hc3
        go_wp2
        go_loopg [5] (s.size - p) (fun g at_ wz => SkipRel s ls k (wA.drewN nd) g at_ wz)
        case atStart => exact ⟨p, rfl, rfl, HI.out, rfl⟩
        case round =>
          obtain ⟨p2, rfl, rfl, hi2, rfl⟩ := hrel
          have HI2 := Lib.hid hi2
          have hp2 := hi2.1
          clear hi2
          by_cases hb2 : ∃ h : p2 < s.size, s[p2] = 32
          · obtain ⟨hp3, hb3⟩ := hb2
            have q1 : (((s[p2]).toNat : Int) == 32) = true := by rw [blank_eq]; exact decide_eq_true hb3
            have HB := Lib.hid hb3
            clear hb3
            go_wp2
            go_roundg (s.size - (p2 + 1))
            case measure => omega
            case rel => exact ⟨p2 + 1, rfl, by go_num, i1_blank HI2.out hp3 HB.out, rfl⟩
          · have hw := i1_word HI2.out hlt (fun h e => hb2 ⟨h, e⟩) X HX.out
            obtain ⟨x1, x2, x3, x4, x5, x6⟩ := hw
            have hp3 : p2 < s.size := by omega
            have q1 : (((s[p2]).toNat : Int) == 32) = false := by rw [blank_eq]; exact decide_eq_false (fun e => hb2 ⟨hp3, e⟩)
            have X4 := Lib.hid x4
            have X5 := Lib.hid x5
            have X6 := Lib.hid x6
            clear hb2 x4 x5 x6
            have y1 : IntKind.i64.wrap ((p2 : Int) + (X.size : Int)) = (p2 : Int) + (X.size : Int) := IntWalk.i64_in _ (by omega)
            have y2 : 0 ≤ (p2 : Int) + (X.size : Int) := by omega
            have y3 : ((p2 : Int) + (X.size : Int)).toNat = p2 + X.size := by omega
            have y4 : IntKind.i64.wrap ((s.size : Int) - (p2 : Int)) = (s.size : Int) - (p2 : Int) := IntWalk.i64_in _ (by omega)
            have y5 : decide ((s.size : Int) - (p2 : Int) < (X.size : Int)) = false := decide_eq_false (by omega)
            have y7 : (p2 : Int) ≤ (p2 : Int) + (X.size : Int) := by omega
            have y8 : (p2 : Int) + (X.size : Int) ≤ (s.size : Int) := by omega
            have y6 : ((X.size : Int) == 0) = false := by rw [beq_eq_false_iff_ne]; omega
            by_cases hk0 : k = 0
            · have z1 : decide (0 < (k : Int)) = false := decide_eq_false (by omega)
              have z2 : decide (0 < k) = false := decide_eq_false (by omega)
              clear hk0
              go_wp2
              go_quiet (fail)
              go_wp2
              go_loopg [8] (p2 + X.size - p2) (fun g j wz => ScanRel p2 (p2 + X.size) wA g j wz)
              case atStart => exact ⟨p2, nd + _, Nat.le_refl _, by omega, rfl, rfl, by rw [World.drewN_drewN]⟩
              case round =>
                obtain ⟨m, nn, hm1, hm2, rfl, rfl, rfl⟩ := hrel
                by_cases hm3 : m < p2 + X.size
                · have hm4 : m < s.size := by omega
                  have q5 : (((s[m]).toNat : Int) == 32) = false := by rw [blank_eq]; exact decide_eq_false (X5.out m hm4 hm1 hm3)
                  go_wp2
                  go_roundg (p2 + X.size - (m + 1))
                  case measure => omega
                  case rel => exact ⟨m + 1, nn, by omega, by omega, rfl, by go_num, rfl⟩
                · obtain rfl : p2 + X.size = m := by omega
                  go_wp2
                  go_roundg (ls.length - (k + 1))
                  case measure => omega
                  case rel => exact ⟨k + 1, p2 + X.size, nn, by omega, rfl, by go_num, by go_num, X6.out, rfl⟩
            · have z1 : decide (0 < (k : Int)) = true := decide_eq_true (by omega)
              have z2 : decide (0 < k) = true := decide_eq_true (by omega)
              obtain ⟨r1, r2, r3⟩ := X4.out (by omega)
              have q3 : (((s[p2 - 1]).toNat : Int) == 32) = true := by rw [blank_eq]; exact decide_eq_true r3
              have R3 := Lib.hid r3
              have z3 : decide (0 < (p2 : Int)) = true := decide_eq_true (by omega)
              have z4 : decide (0 < p2) = true := decide_eq_true (by omega)
              have z5 : IntKind.i64.wrap ((p2 : Int) - 1) = (p2 : Int) - 1 := IntWalk.i64_in _ (by omega)
              have z6 : 0 ≤ (p2 : Int) - 1 := by omega
              have z7 : ((p2 : Int) - 1).toNat = p2 - 1 := by omega
              have z8 : (p2 : Int) - 1 < (s.size : Int) := by omega
              have z9 : 1 ≤ (p2 : Int) := by omega
              clear r3 hk0
              go_wp2
              go_quiet (fail)
              go_wp2
              go_loopg [8] (p2 + X.size - p2) (fun g j wz => ScanRel p2 (p2 + X.size) wA g j wz)
              case atStart => exact ⟨p2, nd + _, Nat.le_refl _, by omega, rfl, rfl, by rw [World.drewN_drewN]⟩
              case round =>
                obtain ⟨m, nn, hm1, hm2, rfl, rfl, rfl⟩ := hrel
                by_cases hm3 : m < p2 + X.size
                · have hm4 : m < s.size := by omega
                  have q5 : (((s[m]).toNat : Int) == 32) = false := by rw [blank_eq]; exact decide_eq_false (X5.out m hm4 hm1 hm3)
                  go_wp2
                  go_roundg (p2 + X.size - (m + 1))
                  case measure => omega
                  case rel => exact ⟨m + 1, nn, by omega, by omega, rfl, by go_num, rfl⟩
                · obtain rfl : p2 + X.size = m := by omega
                  go_wp2
                  go_roundg (ls.length - (k + 1))
                  case measure => omega
                  case rel => exact ⟨k + 1, p2 + X.size, nn, by omega, rfl, by go_num, by go_num, X6.out, rfl⟩
      · obtain rfl : ls.length = k := by omega
        clear hc3
        go_wp2
        go_loopg [5] (s.size - p) (fun g at_ wz => SkipRel s ls ls.length (wA.drewN nd) g at_ wz)
        case atStart => exact ⟨p, rfl, rfl, HI.out, rfl⟩
        case round =>
          obtain ⟨p2, rfl, rfl, hi2, rfl⟩ := hrel
          have HI2 := Lib.hid hi2
          have hp2 := hi2.1
          clear hi2
          by_cases hp3 : p2 < s.size
          · have hb3 := i1_end HI2.out hp3
            have q1 : (((s[p2]).toNat : Int) == 32) = true := by rw [blank_eq]; exact decide_eq_true hb3
            have HB := Lib.hid hb3
            clear hb3
            go_wp2
            go_roundg (s.size - (p2 + 1))
            case measure => omega
            case rel => exact ⟨p2 + 1, rfl, by go_num, i1_blank HI2.out hp3 HB.out, rfl⟩
          · obtain rfl : s.size = p2 := by omega
            go_wp2
            go_ret
            exact ⟨rfl, below_drewN hB nd⟩
end Go.Proofs.YtmdheolmefkbaaaDoor
