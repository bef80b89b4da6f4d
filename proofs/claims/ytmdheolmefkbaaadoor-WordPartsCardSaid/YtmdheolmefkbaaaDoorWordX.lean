/-
  THE LAW WordLines, AS A WALK OVER ANY WORLD that holds the registers: it returns true.
-/
import Derived.Test.YtmdheolmefkbaaaDoorWordV
import Derived.Deep.LoopGhost
namespace Go.Proofs.YtmdheolmefkbaaaDoor
open Go.RowKit
set_option linter.unusedVariables false
open WordM (L)

/-- The first k lines with line feeds between. -/
def gT (ls : List L) (k : Nat) : ByteArray := ⟨(WordM.glue (ls.take k)).toArray⟩
theorem gT_data (ls : List L) (k : Nat) : (gT ls k).data.toList = WordM.glue (ls.take k) := rfl
theorem gT_list (ls : List L) (k : Nat) : (gT ls k).toList = WordM.glue (ls.take k) := Lib.toList_data _
theorem gT_size (ls : List L) (k : Nat) : (gT ls k).size = (WordM.glue (ls.take k)).length := rfl
theorem glue_app (a b : List L) (ha : a ≠ []) (hb : b ≠ []) : WordM.glue (a ++ b) = WordM.glue a ++ 10 :: WordM.glue b := by
  induction a with
  | nil => exact absurd rfl ha
  | cons x a ih =>
    by_cases h : a = []
    · subst h
      show WordM.glue (x :: b) = _
      rw [WordM.glue_cons x b hb]; rfl
    · rw [List.cons_append, WordM.glue_cons x (a ++ b) (by simp [h]), ih h, WordM.glue_cons x a h]; simp
theorem glue_take (ls : List L) (k : Nat) : (WordM.glue (ls.take k)).length ≤ (WordM.glue ls).length := by
  by_cases h1 : ls.take k = []
  · rw [h1]; exact Nat.zero_le _
  · by_cases h2 : ls.drop k = []
    · have := List.take_append_drop k ls
      rw [h2, List.append_nil] at this
      rw [this]; exact Nat.le_refl _
    · have := List.take_append_drop k ls
      conv => rhs; rw [← this]
      rw [glue_app _ _ h1 h2]; simp
theorem gT_zero (ls : List L) : gT ls 0 = ⟨#[]⟩ := rfl
theorem gT_one (ls : List L) (h : 0 < ls.length) : (⟨#[]⟩ : ByteArray) ++ ⟨(ls[0]).toArray⟩ = gT ls 1 := by
  apply ByteArray.ext; apply Array.toList_inj.1
  rw [cat_data, gT_data]
  cases ls with
  | nil => simp at h
  | cons x r => simp [WordM.glue]
theorem gT_next (ls : List L) (k : Nat) (hk : 0 < k) (h : k < ls.length) : gT ls k ++ ⟨#[10]⟩ ++ ⟨(ls[k]).toArray⟩ = gT ls (k + 1) := by
  apply ByteArray.ext; apply Array.toList_inj.1
  rw [cat_data, cat_data, gT_data, gT_data, List.take_succ_eq_append_getElem h, WordM.glue_snoc _ _ (by intro e; have := congrArg List.length e; rw [List.length_take, List.length_nil] at this; omega)]
  simp
theorem gT_all (ls : List L) : gT ls ls.length = ⟨(WordM.glue ls).toArray⟩ := by unfold gT; rw [List.take_length]

def LnRel (ls : List L) (W : World) (g : Nat) (t i : Value) (wr : World) : Prop :=
  ∃ k, k ≤ ls.length ∧ g = ls.length - k ∧ i = .int .i64 (k : Nat) ∧ t = .string (gT ls k) ∧ wr = W
def InRel (x : ByteArray) (W : World) (g : Nat) (j : Value) (wr : World) : Prop :=
  ∃ m, m ≤ x.size ∧ g = x.size - m ∧ j = .int .i64 (m : Nat) ∧ W = wr
theorem free_at (x : ByteArray) (h : (10 : UInt8) ∉ x.data.toList) (m : Nat) (hm : m < x.size) : (((x[m]).toNat : Int) == 10) = false := by
  rw [beq_eq_false_iff_ne]
  intro e
  apply h
  have e2 : x[m] = 10 := UInt8.toNat_inj.1 (by have : (10 : UInt8).toNat = 10 := rfl; omega)
  rw [← e2]
  exact List.getElem_mem (l := x.data.toList) (by rw [← Lib.size_eq]; exact hm)

set_option maxHeartbeats 4000000 in
set_option maxRecDepth 100000 in
theorem wlines_any (s : ByteArray) (w : World) (hs : s.size ≤ maxLen) (hr : Regs w) :
    Calls Tryd.prog 4 #[.string s] w fun e w' => e = .returned (.bool true) ∧ Below w.heap.size w w' := by
  unfold maxLen at hs
  by_cases h1 : (2000 : Int) < (s.size : Int)
  · go_enter Tryd.func4, Tryd.ntmps4
    go_wp2_with fail
    refine (head_any _ hr).mono ?_
    rintro e wv1 ⟨rfl, hB⟩
    go_wp2_with fail
    go_ret
    exact ⟨rfl, hB⟩
  · have hfree := Lib.hid (fun x h => WordM.lines_free s.data.toList x h)
    have hglue := Lib.hid (WordM.glue_lines s.data.toList)
    have hgl : (WordM.glue (WordM.lines s.data.toList)).length ≤ s.size := by
      rw [Lib.size_eq]
      rcases hglue.out with ⟨e, _⟩ | e
      · rw [e]; exact Nat.le_refl _
      · conv => rhs; rw [← e]
        simp
    have hll := lines_len s.data.toList
    rw [← Lib.size_eq] at hll
    go_enter Tryd.func4, Tryd.ntmps4
    go_wp2_with fail
    refine (head_any _ hr).mono ?_
    rintro e wv2 ⟨rfl, hB⟩
    go_wp2_with fail
    refine (lines_any s _ (by omega)).mono ?_
    rintro e wA ⟨vA, rfl, hoA, hbA⟩
    replace hB := chain hB hbA
    generalize WordM.lines s.data.toList = ls at *
    obtain ⟨A, c, rfl, hc1, hc2, hc3⟩ := strs_own hoA
    unfold maxLen at hc2
    clear hoA hbA
    go_wp2_with fail
    go_loopg [5, 6] ls.length (fun g t i wr => LnRel ls wA g t i wr)
    case atStart => exact ⟨0, Nat.zero_le _, rfl, rfl, rfl, rfl⟩
    case round =>
      obtain ⟨k, hk, rfl, rfl, rfl, rfl⟩ := hrel
      have hgs := glue_take ls k
      rw [← gT_size] at hgs
      by_cases hlt : k < ls.length
      · obtain ⟨b, rfl, hb, hcl⟩ := hc3 (by omega)
        obtain ⟨X, hX⟩ : ∃ X : ByteArray, X = ⟨(ls[k]).toArray⟩ := ⟨_, rfl⟩
        have hXf := Lib.hid (free_at X (by rw [hX]; exact hfree.out _ (List.getElem_mem hlt)))
        have hc := hcl k hlt
        rw [show sv ls[k] = .string X by rw [hX]; rfl] at hc
        have hgs2 := glue_take ls (k + 1)
        rw [← gT_size] at hgs2
        by_cases h0 : k = 0
        · subst h0
          have e1 := gT_one ls hlt
          rw [← hX] at e1
          have hXs : X.size ≤ 100000 := by
            have := congrArg ByteArray.size e1
            rw [cat_size] at this
            have h2 : (gT ls 1).size ≤ (WordM.glue ls).length := hgs2
            omega
          have hcat1 := fun W => run_string_add_sum (P := Tryd.prog) (w := W) ⟨#[]⟩ X (by have : (⟨#[]⟩ : ByteArray).size = 0 := rfl; omega)
          rw [e1] at hcat1
          have hz := gT_zero ls
          rw [hz]
          clear e1 hz hX hcl hc3
          go_wp2
          have HF := hXf
          clear hXf
          go_loopg [7] X.size (fun g j wz => InRel X wr g j wz)
          case atStart => exact ⟨0, Nat.zero_le _, rfl, rfl, rfl⟩
          case round =>
            obtain ⟨m, hm, rfl, rfl, rfl⟩ := hrel
            by_cases hm2 : m < X.size
            · have hf := HF.out m hm2
              go_wp2
              go_roundg (X.size - (m + 1))
              case measure => omega
              case rel => exact ⟨m + 1, by omega, rfl, by go_num, rfl⟩
            · obtain rfl : X.size = m := by omega
              go_wp2
              go_roundg (ls.length - (0 + 1))
              case measure => omega
              case rel => exact ⟨0 + 1, by omega, rfl, by go_num, rfl, rfl⟩
        · have e1 := gT_next ls k (by omega) hlt
          rw [← hX] at e1
          have hXs : (gT ls k).size + 1 + X.size ≤ 100000 := by
            have := congrArg ByteArray.size e1
            rw [cat_size, cat_size, show (⟨#[10]⟩ : ByteArray).size = 1 from rfl] at this
            omega
          have hcat1 := fun W => run_string_add_sum (P := Tryd.prog) (w := W) (gT ls k) ⟨#[10]⟩ (by rw [show (⟨#[10]⟩ : ByteArray).size = 1 from rfl]; omega)
          have hcat2 := fun W => run_string_add_sum (P := Tryd.prog) (w := W) (gT ls k ++ ⟨#[10]⟩) X (by rw [cat_size, show (⟨#[10]⟩ : ByteArray).size = 1 from rfl]; omega)
          rw [e1] at hcat2
          have hk1 : 0 < (k : Int) := by omega
          clear e1 hX hcl hc3
          go_wp2
          have HF := hXf
          clear hXf
          go_loopg [7] X.size (fun g j wz => InRel X wr g j wz)
          case atStart => exact ⟨0, Nat.zero_le _, rfl, rfl, rfl⟩
          case round =>
            obtain ⟨m, hm, rfl, rfl, rfl⟩ := hrel
            by_cases hm2 : m < X.size
            · have hf := HF.out m hm2
              go_wp2
              go_roundg (X.size - (m + 1))
              case measure => omega
              case rel => exact ⟨m + 1, by omega, rfl, by go_num, rfl⟩
            · obtain rfl : X.size = m := by omega
              go_wp2
              go_roundg (ls.length - (k + 1))
              case measure => omega
              case rel => exact ⟨k + 1, by omega, rfl, by go_num, rfl, rfl⟩
      · obtain rfl : ls.length = k := by omega
        have hal := gT_all ls
        have hcat1 := fun W => run_string_add_sum (P := Tryd.prog) (w := W) (gT ls ls.length) ⟨#[10]⟩ (by rw [show (⟨#[10]⟩ : ByteArray).size = 1 from rfl]; omega)
        rcases hglue.out with ⟨e, h | ⟨r, x, h, hx⟩⟩ | e
        · have q1 : ((gT ls ls.length).toList == s.toList) = true := by rw [hal, Lib.toList_data, Lib.toList_data, e]; simp
          have hl : ls.length = 0 := by rw [h]; rfl
          clear hal e hc3 h hfree hglue
          generalize gT ls ls.length = T at *
          generalize ls.length = n at *
          subst hl
          go_wp2
          go_ret
          exact ⟨rfl, hB⟩
        · have q1 : ((gT ls ls.length).toList == s.toList) = true := by rw [hal, Lib.toList_data, Lib.toList_data, e]; simp
          obtain ⟨b, rfl, hb, hcl⟩ := hc3 (by rw [h]; simp)
          have hl : ls.length = r.length + 1 := by rw [h]; simp
          have hc := hcl r.length (by omega)
          obtain ⟨X, hX⟩ : ∃ X : ByteArray, X = ⟨x.toArray⟩ := ⟨_, rfl⟩
          have hx2 : ls[r.length]'(by omega) = x := by subst h; simp
          rw [hx2, show sv x = .string X by rw [hX]; rfl] at hc
          have hXl : X.toList = x := by rw [hX, Lib.toList_data]
          have q2 : (X.toList == []) = false := by rw [hXl]; simpa using hx
          have q3 : X.toList.isEmpty = false := by rw [hXl]; simpa using hx
          have q4 : ¬ X.toList = [] := by rw [hXl]; exact hx
          have hl0 : (((ls.length : Nat) : Int) == 0) = false := by rw [beq_eq_false_iff_ne]; omega
          clear hal e hc3 hx2 hXl hX hx h hcl hfree hglue
          generalize gT ls ls.length = T at *
          generalize ls.length = n at *
          subst hl
          go_wp2
          go_ret
          exact ⟨rfl, hB⟩
        · have e2 : gT ls ls.length ++ ⟨#[10]⟩ = s := by
            apply ByteArray.ext; apply Array.toList_inj.1
            rw [cat_data, hal]; exact e
          have q1 : ((gT ls ls.length).toList == s.toList) = false := by
            rw [hal, Lib.toList_data, Lib.toList_data, beq_dec]
            refine decide_eq_false fun h => ?_
            rw [← e] at h
            have := congrArg List.length h
            simp at this
          have q2 : (s.toList == s.toList) = true := by simp
          rw [e2] at hcat1
          clear hal e hc3 e2
          go_wp2
          go_ret
          exact ⟨rfl, hB⟩
end Go.Proofs.YtmdheolmefkbaaaDoor
