/-
  PLAIN MATHEMATICS OF LAYER 3: the document's way to a line, by candidates.
  THE DOCUMENT's inner: a text between two others, over any world.
  LINES IN A SLICE OF THE CALL's OWN: what the document's Get goes through.
  THE DOCUMENT's OWN ANSWER TO WHICH LINES ARE RIGHT, over any world.
  THE DOCUMENT's OWN WORDS OF A LINE, over any world.
  THE DOCUMENT's Get: what is known of candidates.
-/
import Derived.Test.YtkkjodjachbifaaGreatDoorMath
import Derived.Test.YtkkjodjachbifaaGreatDoorKit2
import Derived.Test.YtkkjodjachbifaaGreatDoorOpsA
import Derived.Test.YtkkjodjachbifaaGreatDoorSame
import Derived.Test.YtkkjodjachbifaaGreatDoorRName
import Derived.Test.YtkkjodjachbifaaGreatDoorOpsW
import Derived.Test.YtkkjodjachbifaaGreatDoorNums
import Derived.Test.YtkkjodjachbifaaGreatDoorAtW
namespace Go.Proofs.YtkkjodjachbifaaGreatDoor.OpsM
open WordM (L)
set_option linter.unusedVariables false
set_option linter.unusedSimpArgs false

def innC (s : L) : L := if 1 < s.length ∧ s.getLast? = some 58 then s.dropLast else []
def innB (s : L) : L := if 2 < s.length ∧ s.head? = some 91 ∧ s.getLast? = some 93 then s.tail.dropLast else []
theorem innC_col (b : L) (h : b ≠ []) : innC (col b) = b := by
  have : 0 < b.length := List.length_pos_iff.2 h
  unfold innC col
  rw [if_pos ⟨by simp; omega, by simp⟩]; simp
theorem innB_brk (o : L) (h : o ≠ []) : innB (brk o) = o := by
  have : 0 < o.length := List.length_pos_iff.2 h
  unfold innB brk
  rw [if_pos ⟨by simp; omega, rfl, by rw [← List.cons_append]; exact List.getLast?_concat⟩]; simp
def cands : List L → List Ln
  | [a] => [⟨6, [], [], [], 0⟩, ⟨11, [], [], innC a, 0⟩]
  | [a, b] => [⟨8, [], [], b, 0⟩, ⟨9, [], [], b, 0⟩, ⟨10, [], [], b, 0⟩]
  | [a, b, c] => [⟨1, b, [], [], (NumM.get c).1⟩, ⟨2, b, innB c, [], 0⟩, ⟨3, c, innB b, [], 0⟩, ⟨4, [], innB b, [], (NumM.get c).1⟩, ⟨5, c, innB b, [], 0⟩, ⟨7, b, [], [], (NumM.get c).1⟩]
  | _ => []
def okL (w : List L) (c : Ln) : Bool := rightL c && decide (wordsL c = w)
def rget (w : List L) : Ln × Bool := match (cands w).find? (okL w) with
  | some c => (c, true)
  | none => (zero, false)
theorem name_nil {l : L} (h : WordM.nameB l = true) : l ≠ [] := by intro e; subst e; exact absurd h (by decide)
theorem cand_mem {l : Ln} (h : rightL l = true) (hn : NumM.inR l.n) : l ∈ cands (wordsL l) := by
  rw [words_of h]
  rcases right_cases h with ⟨ho, hk⟩ | ⟨ho, hk⟩ | ⟨ho, hk⟩ | ⟨ho, hk⟩ | ⟨ho, hk⟩ | ⟨ho, hk⟩ | ⟨ho, hk⟩ | ⟨ho, hk⟩ | ⟨ho, hk⟩ | ⟨ho, hk⟩ | ⟨ho, hk⟩
  · obtain ⟨h1, h2, h3⟩ := okNum_iff.1 hk
    have e : wordsR l.op l.reg l.loc l.label l.n = [kmov, l.reg, NumM.text l.n] := by simp [wordsR, ho]
    rw [e]
    have : l = ⟨1, l.reg, [], [], (NumM.get (NumM.text l.n)).1⟩ := Ln.same ho rfl h2 h3 (by rw [NumM.get_text _ hn])
    rw [this]; simp [cands, NumM.get_text _ hn]
  · obtain ⟨h1, h2, h3, h4⟩ := okLoc_iff.1 hk
    have e : wordsR l.op l.reg l.loc l.label l.n = [kmov, l.reg, brk l.loc] := by simp [wordsR, ho]
    rw [e]
    have : l = ⟨2, l.reg, innB (brk l.loc), [], 0⟩ := Ln.same ho rfl (innB_brk _ (name_nil h2)).symm h3 h4
    rw [this]; simp [cands, innB_brk _ (name_nil h2)]
  · obtain ⟨h1, h2, h3, h4⟩ := okLoc_iff.1 hk
    have e : wordsR l.op l.reg l.loc l.label l.n = [kmov, brk l.loc, l.reg] := by simp [wordsR, ho]
    rw [e]
    have : l = ⟨3, l.reg, innB (brk l.loc), [], 0⟩ := Ln.same ho rfl (innB_brk _ (name_nil h2)).symm h3 h4
    rw [this]; simp [cands, innB_brk _ (name_nil h2)]
  · obtain ⟨h1, h2, h3⟩ := okPut_iff.1 hk
    have e : wordsR l.op l.reg l.loc l.label l.n = [kmov, brk l.loc, NumM.text l.n] := by simp [wordsR, ho]
    rw [e]
    have : l = ⟨4, [], innB (brk l.loc), [], (NumM.get (NumM.text l.n)).1⟩ := Ln.same ho h2 (innB_brk _ (name_nil h1)).symm h3 (by rw [NumM.get_text _ hn])
    rw [this]; simp [cands, innB_brk _ (name_nil h1), NumM.get_text _ hn]
  · obtain ⟨h1, h2, h3, h4⟩ := okLoc_iff.1 hk
    have e : wordsR l.op l.reg l.loc l.label l.n = [kxchg, brk l.loc, l.reg] := by simp [wordsR, ho]
    rw [e]
    have : l = ⟨5, l.reg, innB (brk l.loc), [], 0⟩ := Ln.same ho rfl (innB_brk _ (name_nil h2)).symm h3 h4
    rw [this]; simp [cands, innB_brk _ (name_nil h2)]
  · obtain ⟨h1, h2, h3, h4⟩ := okFen_iff.1 hk
    have e : wordsR l.op l.reg l.loc l.label l.n = [kmfence] := by simp [wordsR, ho]
    rw [e]
    have : l = ⟨6, [], [], [], 0⟩ := Ln.same ho h1 h2 h3 h4
    rw [this]; simp [cands]
  · obtain ⟨h1, h2, h3⟩ := okNum_iff.1 hk
    have e : wordsR l.op l.reg l.loc l.label l.n = [kcmp, l.reg, NumM.text l.n] := by simp [wordsR, ho]
    rw [e]
    have : l = ⟨7, l.reg, [], [], (NumM.get (NumM.text l.n)).1⟩ := Ln.same ho rfl h2 h3 (by rw [NumM.get_text _ hn])
    rw [this]; simp [cands, NumM.get_text _ hn]
  · obtain ⟨h1, h2, h3, h4⟩ := okLab_iff.1 hk
    have e : wordsR l.op l.reg l.loc l.label l.n = [kjmp, l.label] := by simp [wordsR, ho]
    rw [e]
    have : l = ⟨8, [], [], l.label, 0⟩ := Ln.same ho h2 h3 rfl h4
    rw [this]; simp [cands]
  · obtain ⟨h1, h2, h3, h4⟩ := okLab_iff.1 hk
    have e : wordsR l.op l.reg l.loc l.label l.n = [kje, l.label] := by simp [wordsR, ho]
    rw [e]
    have : l = ⟨9, [], [], l.label, 0⟩ := Ln.same ho h2 h3 rfl h4
    rw [this]; simp [cands]
  · obtain ⟨h1, h2, h3, h4⟩ := okLab_iff.1 hk
    have e : wordsR l.op l.reg l.loc l.label l.n = [kjne, l.label] := by simp [wordsR, ho]
    rw [e]
    have : l = ⟨10, [], [], l.label, 0⟩ := Ln.same ho h2 h3 rfl h4
    rw [this]; simp [cands]
  · obtain ⟨h1, h2, h3, h4⟩ := okLab_iff.1 hk
    have e : wordsR l.op l.reg l.loc l.label l.n = [col l.label] := by simp [wordsR, ho]
    rw [e]
    have : l = ⟨11, [], [], innC (col l.label), 0⟩ := Ln.same ho h2 h3 (innC_col _ (name_nil h1)).symm h4
    rw [this]; simp [cands, innC_col _ (name_nil h1)]
theorem cand_range (w : List L) : ∀ c ∈ cands w, NumM.inR c.n := by
  have h0 := NumM.inR_zero
  intro c hc
  unfold cands at hc
  split at hc
  · simp at hc; rcases hc with rfl | rfl <;> exact h0
  · simp at hc; rcases hc with rfl | rfl | rfl <;> exact h0
  · simp at hc; rcases hc with rfl | rfl | rfl | rfl | rfl | rfl <;> first | exact h0 | exact NumM.get_range _
  · simp at hc
theorem rget_eq (w : List L) : rget w = get w := by
  rcases get_spec w with ⟨h1, h2, h3⟩ | ⟨h3, hno⟩
  · rw [h3]
    unfold rget
    have hm := cand_mem h1 (made_range w)
    rw [h2] at hm
    have hok : okL w (made w) = true := by unfold okL; rw [h1, decide_eq_true h2]; rfl
    split
    · rename_i c hc
      have hc1 := List.find?_some hc
      have hc2 := List.mem_of_find?_eq_some hc
      unfold okL at hc1
      simp only [Bool.and_eq_true, decide_eq_true_eq] at hc1
      rw [words_inj hc1.1 h1 (cand_range w c hc2) (made_range w) (hc1.2.trans h2.symm)]
    · rename_i hc
      rw [List.find?_eq_none] at hc
      exact absurd hok (hc _ hm)
  · rw [h3]
    unfold rget
    split
    · rename_i c hc
      have hc1 := List.find?_some hc
      have hc2 := List.mem_of_find?_eq_some hc
      unfold okL at hc1
      simp only [Bool.and_eq_true, decide_eq_true_eq] at hc1
      exact absurd hc1.2 (hno c hc1.1 (cand_range w c hc2))
    · rfl
end Go.Proofs.YtkkjodjachbifaaGreatDoor.OpsM
namespace Go.Proofs.YtkkjodjachbifaaGreatDoor
open Go.RowKit
set_option linter.unusedVariables false
set_option linter.unusedSimpArgs false
open WordM (L)

set_option maxHeartbeats 1000000 in
set_option maxRecDepth 100000 in
theorem innC_short (s : ByteArray) (w : World) (h : (s.size : Int) ≤ 1) :
    Calls Tryz.prog 40 #[.string s, .string ⟨#[]⟩, .string ⟨#[58]⟩] w fun e w' => e = .returned (.string ⟨#[]⟩) ∧ w = w' := by
  go_enter Tryz.func40, Tryz.ntmps40
  go_wp2
  go_ret
  exact ⟨rfl, rfl⟩
set_option maxHeartbeats 1000000 in
set_option maxRecDepth 100000 in
theorem innC_no (s : ByteArray) (w : World) (k : Nat) (hk : s.size = k + 1) (h0 : 1 ≤ k) (hs : k ≤ 100000) (q0 : (s.extract 0 0).toList = []) (h2 : ((s.extract k (k + 1)).toList == [58]) = false) :
    Calls Tryz.prog 40 #[.string s, .string ⟨#[]⟩, .string ⟨#[58]⟩] w fun e w' => e = .returned (.string ⟨#[]⟩) ∧ w = w' := by
  go_enter Tryz.func40, Tryz.ntmps40
  go_wp2
  go_ret
  exact ⟨rfl, rfl⟩
set_option maxHeartbeats 1000000 in
set_option maxRecDepth 100000 in
theorem innC_yes (s : ByteArray) (w : World) (k : Nat) (hk : s.size = k + 1) (h0 : 1 ≤ k) (hs : k ≤ 100000) (q0 : (s.extract 0 0).toList = []) (h2 : ((s.extract k (k + 1)).toList == [58]) = true) :
    Calls Tryz.prog 40 #[.string s, .string ⟨#[]⟩, .string ⟨#[58]⟩] w fun e w' => e = .returned (.string (s.extract 0 k)) ∧ w = w' := by
  go_enter Tryz.func40, Tryz.ntmps40
  go_wp2
  go_ret
  exact ⟨rfl, rfl⟩
theorem innC_any (s : ByteArray) (w : World) (hs : s.size ≤ 100000) :
    Calls Tryz.prog 40 #[.string s, .string ⟨#[]⟩, .string ⟨#[58]⟩] w fun e w' => e = .returned (.string ⟨(OpsM.innC s.data.toList).toArray⟩) ∧ w = w' := by
  have hz := Lib.size_eq s
  rcases List.eq_nil_or_concat s.data.toList with e | ⟨r, d, e⟩
  · rw [show OpsM.innC s.data.toList = [] by rw [e]; rfl]
    exact innC_short s w (by rw [e, List.length_nil] at hz; omega)
  · rw [List.concat_eq_append] at e
    have hk : s.size = r.length + 1 := by rw [Lib.size_eq, e]; simp
    have hx : (s.extract r.length (r.length + 1)).toList = [d] := by rw [extract_full, e]; simp
    have q0 : (s.extract 0 0).toList = [] := by rw [extract_full]; simp
    by_cases h1 : 1 ≤ r.length
    · by_cases h2 : d = 58
      · subst h2
        have e2 : s.extract 0 r.length = ⟨(OpsM.innC s.data.toList).toArray⟩ := by
          apply ba_of
          rw [Lib.extract_data, e]
          unfold OpsM.innC
          rw [if_pos ⟨by simp; omega, by simp⟩]; simp
        rw [← e2]
        exact innC_yes s w r.length hk h1 (by omega) q0 (by rw [hx]; rfl)
      · rw [show OpsM.innC s.data.toList = [] by rw [e]; unfold OpsM.innC; rw [if_neg (by simp [h2])]]
        exact innC_no s w r.length hk h1 (by omega) q0 (by rw [hx]; simp [h2])
    · rw [show OpsM.innC s.data.toList = [] by rw [e]; unfold OpsM.innC; rw [if_neg (by simp; omega)]]
      exact innC_short s w (by omega)

set_option maxHeartbeats 1000000 in
set_option maxRecDepth 100000 in
theorem innB_short (s : ByteArray) (w : World) (h : (s.size : Int) ≤ 2) :
    Calls Tryz.prog 40 #[.string s, .string ⟨#[91]⟩, .string ⟨#[93]⟩] w fun e w' => e = .returned (.string ⟨#[]⟩) ∧ w = w' := by
  go_enter Tryz.func40, Tryz.ntmps40
  go_wp2
  go_ret
  exact ⟨rfl, rfl⟩
set_option maxHeartbeats 1000000 in
set_option maxRecDepth 100000 in
theorem innB_no1 (s : ByteArray) (w : World) (h0 : 3 ≤ s.size) (h2 : ((s.extract 0 1).toList == [91]) = false) :
    Calls Tryz.prog 40 #[.string s, .string ⟨#[91]⟩, .string ⟨#[93]⟩] w fun e w' => e = .returned (.string ⟨#[]⟩) ∧ w = w' := by
  go_enter Tryz.func40, Tryz.ntmps40
  go_wp2
  go_ret
  exact ⟨rfl, rfl⟩
set_option maxHeartbeats 1000000 in
set_option maxRecDepth 100000 in
theorem innB_no2 (s : ByteArray) (w : World) (k : Nat) (hk : s.size = k + 1) (h0 : 2 ≤ k) (hs : k ≤ 100000) (h1 : ((s.extract 0 1).toList == [91]) = true) (h2 : ((s.extract k (k + 1)).toList == [93]) = false) :
    Calls Tryz.prog 40 #[.string s, .string ⟨#[91]⟩, .string ⟨#[93]⟩] w fun e w' => e = .returned (.string ⟨#[]⟩) ∧ w = w' := by
  go_enter Tryz.func40, Tryz.ntmps40
  go_wp2
  go_ret
  exact ⟨rfl, rfl⟩
set_option maxHeartbeats 1000000 in
set_option maxRecDepth 100000 in
theorem innB_yes (s : ByteArray) (w : World) (k : Nat) (hk : s.size = k + 1) (h0 : 2 ≤ k) (hs : k ≤ 100000) (h1 : ((s.extract 0 1).toList == [91]) = true) (h2 : ((s.extract k (k + 1)).toList == [93]) = true) :
    Calls Tryz.prog 40 #[.string s, .string ⟨#[91]⟩, .string ⟨#[93]⟩] w fun e w' => e = .returned (.string (s.extract 1 k)) ∧ w = w' := by
  go_enter Tryz.func40, Tryz.ntmps40
  go_wp2
  go_ret
  exact ⟨rfl, rfl⟩
theorem innB_any (s : ByteArray) (w : World) (hs : s.size ≤ 100000) :
    Calls Tryz.prog 40 #[.string s, .string ⟨#[91]⟩, .string ⟨#[93]⟩] w fun e w' => e = .returned (.string ⟨(OpsM.innB s.data.toList).toArray⟩) ∧ w = w' := by
  have hz := Lib.size_eq s
  rcases List.eq_nil_or_concat s.data.toList with e | ⟨r, d, e⟩
  · rw [show OpsM.innB s.data.toList = [] by rw [e]; rfl]
    exact innB_short s w (by rw [e, List.length_nil] at hz; omega)
  · rw [List.concat_eq_append] at e
    have hk : s.size = r.length + 1 := by rw [Lib.size_eq, e]; simp
    have hx : (s.extract r.length (r.length + 1)).toList = [d] := by rw [extract_full, e]; simp
    cases r with
    | nil =>
      rw [show OpsM.innB s.data.toList = [] by rw [e]; unfold OpsM.innB; rw [if_neg (by simp)]]
      exact innB_short s w (by simp at hk; omega)
    | cons c r =>
      have hy : (s.extract 0 1).toList = [c] := by rw [extract_full, e]; simp
      by_cases h1 : 1 ≤ r.length
      · by_cases hc : c = 91
        · by_cases h2 : d = 93
          · subst h2; subst hc
            have e2 : s.extract 1 (91 :: r).length = ⟨(OpsM.innB s.data.toList).toArray⟩ := by
              apply ba_of
              rw [Lib.extract_data, e]
              unfold OpsM.innB
              rw [if_pos ⟨by simp; omega, rfl, List.getLast?_concat⟩]; simp
            rw [← e2]
            exact innB_yes s w (91 :: r).length hk (by simp; omega) (by omega) (by rw [hy]; rfl) (by rw [hx]; rfl)
          · rw [show OpsM.innB s.data.toList = [] by rw [e]; unfold OpsM.innB; rw [if_neg (by intro hh; have := hh.2.2; rw [List.getLast?_concat] at this; injection this with this; exact h2 this)]]
            exact innB_no2 s w (c :: r).length hk (by simp; omega) (by omega) (by rw [hy, hc]; rfl) (by rw [hx]; simp [h2])
        · rw [show OpsM.innB s.data.toList = [] by rw [e]; unfold OpsM.innB; rw [if_neg (by intro hh; have := hh.2.1; simp at this; exact hc this)]]
          exact innB_no1 s w (by simp at hk; omega) (by rw [hy]; simp [hc])
      · rw [show OpsM.innB s.data.toList = [] by rw [e]; unfold OpsM.innB; rw [if_neg (by simp; omega)]]
        exact innB_short s w (by simp at hk; omega)
end Go.Proofs.YtkkjodjachbifaaGreatDoor
namespace Go.Proofs.YtkkjodjachbifaaGreatDoor
open Go.RowKit
set_option linter.unusedVariables false
set_option linter.unusedSimpArgs false
open WordM (L)

/-- The cells of a line, of lines. -/
def lnc (l : OpsM.Ln) : List Value := [.int .i64 l.op, .string ⟨l.reg.toArray⟩, .string ⟨l.loc.toArray⟩, .string ⟨l.label.toArray⟩, .int .i64 l.n]
def lncs : List OpsM.Ln → List Value
  | [] => []
  | l :: r => lnc l ++ lncs r
theorem lncs_at : ∀ (cs : List OpsM.Ln) (k : Nat) (h : k < cs.length) (j : Nat), j < 5 → (lncs cs)[k * 5 + j]? = (lnc cs[k])[j]?
  | l :: r, 0, _, j, hj => by
    show (lnc l ++ lncs r)[0 * 5 + j]? = _
    rw [show 0 * 5 + j = j by omega, List.getElem?_append_left (by show j < 5; exact hj)]
    rfl
  | l :: r, k + 1, h, j, hj => by
    have ih := lncs_at r k (by simpa using h) j hj
    show (lnc l ++ lncs r)[(k + 1) * 5 + j]? = _
    rw [List.getElem?_append_right (by show 5 ≤ _; omega), show (k + 1) * 5 + j - (lnc l).length = k * 5 + j by show (k + 1) * 5 + j - 5 = _; omega]
    exact ih
/-- The lines cs stand in block g from its start on. -/
def Cands (w : World) (g : Nat) (cs : List OpsM.Ln) : Prop := ∀ k (h : k < cs.length), w.cell? ⟨g, k * 5, none⟩ = some (.int .i64 cs[k].op) ∧ w.cell? ⟨g, k * 5 + 1, none⟩ = some (.string ⟨cs[k].reg.toArray⟩) ∧
  w.cell? ⟨g, k * 5 + 2, none⟩ = some (.string ⟨cs[k].loc.toArray⟩) ∧ w.cell? ⟨g, k * 5 + 3, none⟩ = some (.string ⟨cs[k].label.toArray⟩) ∧ w.cell? ⟨g, k * 5 + 4, none⟩ = some (.int .i64 cs[k].n)
theorem cands_new (w : World) (cs : List OpsM.Ln) (z : Array Value) (t : TypeId) : Cands (w.alloc (.cells ((lncs cs).toArray ++ z) t)) w.heap.size cs := by
  have key : ∀ k (h : k < cs.length) j, j < 5 → (w.alloc (.cells ((lncs cs).toArray ++ z) t)).cell? ⟨w.heap.size, k * 5 + j, none⟩ = (lnc cs[k])[j]? := fun k h j hj => by
    rw [World.cell?_alloc_at _ _ _ _ rfl]
    have e := lncs_at cs k h j hj
    have hl : k * 5 + j < (lncs cs).length := by
      rcases Nat.lt_or_ge (k * 5 + j) (lncs cs).length with h' | h'
      · exact h'
      · rw [List.getElem?_eq_none h'] at e
        have : j < (lnc cs[k]).length := hj
        rw [List.getElem?_eq_getElem this] at e
        cases e
    show ((lncs cs).toArray ++ z)[k * 5 + j]? = _
    rw [Array.getElem?_append_left (by simpa using hl)]
    simpa using e
  exact fun k h => ⟨key k h 0 (by omega), key k h 1 (by omega), key k h 2 (by omega), key k h 3 (by omega), key k h 4 (by omega)⟩
theorem cands_lt {w : World} {g : Nat} {cs : List OpsM.Ln} (h : Cands w g cs) (k : Nat) (hk : k < cs.length) : g < w.heap.size := lt_of_cell (h k hk).1
theorem cands_below {w w' : World} {g : Nat} {cs : List OpsM.Ln} (h : Cands w g cs) (hb : Below w.heap.size w w') : Cands w' g cs := fun k hk => by
  have hg := cands_lt h k hk
  obtain ⟨h0, h1, h2, h3, h4⟩ := h k hk
  exact ⟨(hb.cell (p := ⟨g, _, none⟩) hg).trans h0, (hb.cell (p := ⟨g, _, none⟩) hg).trans h1, (hb.cell (p := ⟨g, _, none⟩) hg).trans h2, (hb.cell (p := ⟨g, _, none⟩) hg).trans h3, (hb.cell (p := ⟨g, _, none⟩) hg).trans h4⟩
/-- A line's box that is still zero. -/
def Box0 (w : World) (b : Nat) : Prop := ∀ j v, ([.int .i64 0, .string ⟨#[]⟩, .string ⟨#[]⟩, .string ⟨#[]⟩, .int .i64 0] : List Value)[j]? = some v → w.cell? ⟨b, j, none⟩ = some v ∧ w.frozen? ⟨b, j, none⟩ = false
theorem box0_below {w w' : World} {b : Nat} (h : Box0 w b) (hb : Below w.heap.size w w') : Box0 w' b := fun j v e => by
  have hg := lt_of_cell (h j v e).1
  exact ⟨(hb.cell (p := ⟨b, j, none⟩) hg).trans (h j v e).1, (hb.frozen (p := ⟨b, j, none⟩) hg).trans (h j v e).2⟩
theorem box0_new {w w' : World} {t : TypeId} (hb : Below (w.heap.size + 1) (w.alloc (.cells #[.int .i64 0, .string ⟨#[]⟩, .string ⟨#[]⟩, .string ⟨#[]⟩, .int .i64 0] t)) w') : Box0 w' w.heap.size := fun j v e => by
  refine ⟨(hb.cell (p := ⟨w.heap.size, j, none⟩) (by simp)).trans ?_, (hb.frozen (p := ⟨w.heap.size, j, none⟩) (by simp)).trans ?_⟩
  · rw [World.cell?_alloc_at _ _ _ _ rfl]
    have : (#[.int .i64 0, .string ⟨#[]⟩, .string ⟨#[]⟩, .string ⟨#[]⟩, .int .i64 0] : Array Value)[j]? = some v := by rw [← e]; exact List.getElem?_toArray
    exact this
  · rw [World.frozen?_alloc_at _ _ _ _ rfl]
/-- At a round: the candidates ahead of k are none. -/
def GRel (ls : List L) (cs : List OpsM.Ln) (w : World) (g : Nat) (i : Value) (wr : World) : Prop :=
  ∃ k : Nat, k ≤ cs.length ∧ i = .int .i64 k ∧ (∀ j (h : j < cs.length), j < k → OpsM.okL ls cs[j] = false) ∧ Below w.heap.size w wr ∧ Cands wr g cs ∧ Box0 wr w.heap.size
theorem grel_next {ls : List L} {cs : List OpsM.Ln} {w wr w1 : World} {g k : Nat} (hk : k < cs.length) (hall : ∀ j (h : j < cs.length), j < k → OpsM.okL ls cs[j] = false) (hB : Below w.heap.size w wr) (hC : Cands wr g cs) (h0 : Box0 wr w.heap.size)
    (hno : OpsM.okL ls cs[k] = false) (hb : Below wr.heap.size wr w1) : GRel ls cs w g (.int .i64 ((k : Int) + 1)) w1 :=
  ⟨k + 1, by omega, by go_num, fun j h h1 => by
    by_cases e : j = k
    · subst e; exact hno
    · exact hall j h (by omega), chain hB hb, cands_below hC hb, box0_below h0 hb⟩
theorem find_hit {ls : List L} {cs : List OpsM.Ln} {k : Nat} (hk : k < cs.length) (hall : ∀ j (h : j < cs.length), j < k → OpsM.okL ls cs[j] = false) (hy : OpsM.okL ls cs[k] = true) : cs.find? (OpsM.okL ls) = some cs[k] := by
  rw [List.find?_eq_some_iff_getElem]
  refine ⟨hy, k, hk, rfl, fun j hj => ?_⟩
  rw [hall j (by omega) hj]; rfl
theorem find_miss {ls : List L} {cs : List OpsM.Ln} (hall : ∀ j (h : j < cs.length), j < cs.length → OpsM.okL ls cs[j] = false) : cs.find? (OpsM.okL ls) = none := by
  rw [List.find?_eq_none]
  intro x hx
  obtain ⟨j, hj, rfl⟩ := List.mem_iff_getElem.1 hx
  rw [hall j hj hj]; simp
theorem rget_hit {ls : List L} {k : Nat} (hk : k < (OpsM.cands ls).length) (hall : ∀ j (h : j < (OpsM.cands ls).length), j < k → OpsM.okL ls (OpsM.cands ls)[j] = false) (hy : OpsM.okL ls (OpsM.cands ls)[k] = true) : OpsM.rget ls = ((OpsM.cands ls)[k], true) := by
  unfold OpsM.rget; rw [find_hit hk hall hy]
theorem rget_miss {ls : List L} (hall : ∀ j (h : j < (OpsM.cands ls).length), j < (OpsM.cands ls).length → OpsM.okL ls (OpsM.cands ls)[j] = false) : OpsM.rget ls = (OpsM.zero, false) := by
  unfold OpsM.rget; rw [find_miss hall]
theorem cell_drew {w : World} {p : Addr} {v : Value} (h : w.cell? p = some v) : w.drew.cell? p = some v := h
theorem cell_alloc {w : World} {g i : Nat} {v : Value} {o : Obj} (h : w.cell? ⟨g, i, none⟩ = some v) : (w.alloc o).cell? ⟨g, i, none⟩ = some v :=
  (((Below.refl w.heap.size w).alloc (Nat.le_refl _) o).cell (p := ⟨g, i, none⟩) (lt_of_cell h)).trans h
end Go.Proofs.YtkkjodjachbifaaGreatDoor
namespace Go.Proofs.YtkkjodjachbifaaGreatDoor
open Go.RowKit
set_option linter.unusedVariables false
set_option linter.unusedSimpArgs false
open WordM (L)

theorem reg_sign (l : L) : decide (WordM.regNo l < 0) = !OpsM.regB l := by
  unfold OpsM.regB
  by_cases h : 0 ≤ WordM.regNo l
  · rw [decide_eq_true h, decide_eq_false (by omega)]; rfl
  · rw [decide_eq_false h, decide_eq_true (by omega)]; rfl
set_option maxHeartbeats 1000000 in
set_option maxRecDepth 100000 in
theorem has1 (w : World) : Calls Tryz.prog 42 #[.int .i64 1] w fun e w' => e = .returned (.tuple #[.bool true, .bool false, .bool false, .bool true]) ∧ w = w' := by
  go_enter Tryz.func42, Tryz.ntmps42
  go_wp2
  exact bodyPost_ret (v := .tuple #[.bool true, .bool false, .bool false, .bool true]) (by simp [results, Tryz.results42, go_sem]) rfl ⟨rfl, rfl⟩
set_option maxHeartbeats 1000000 in
set_option maxRecDepth 100000 in
theorem has2 (w : World) : Calls Tryz.prog 42 #[.int .i64 2] w fun e w' => e = .returned (.tuple #[.bool true, .bool true, .bool false, .bool false]) ∧ w = w' := by
  go_enter Tryz.func42, Tryz.ntmps42
  go_wp2
  exact bodyPost_ret (v := .tuple #[.bool true, .bool true, .bool false, .bool false]) (by simp [results, Tryz.results42, go_sem]) rfl ⟨rfl, rfl⟩
set_option maxHeartbeats 1000000 in
set_option maxRecDepth 100000 in
theorem has3 (w : World) : Calls Tryz.prog 42 #[.int .i64 3] w fun e w' => e = .returned (.tuple #[.bool true, .bool true, .bool false, .bool false]) ∧ w = w' := by
  go_enter Tryz.func42, Tryz.ntmps42
  go_wp2
  exact bodyPost_ret (v := .tuple #[.bool true, .bool true, .bool false, .bool false]) (by simp [results, Tryz.results42, go_sem]) rfl ⟨rfl, rfl⟩
set_option maxHeartbeats 1000000 in
set_option maxRecDepth 100000 in
theorem has4 (w : World) : Calls Tryz.prog 42 #[.int .i64 4] w fun e w' => e = .returned (.tuple #[.bool false, .bool true, .bool false, .bool true]) ∧ w = w' := by
  go_enter Tryz.func42, Tryz.ntmps42
  go_wp2
  exact bodyPost_ret (v := .tuple #[.bool false, .bool true, .bool false, .bool true]) (by simp [results, Tryz.results42, go_sem]) rfl ⟨rfl, rfl⟩
set_option maxHeartbeats 1000000 in
set_option maxRecDepth 100000 in
theorem has5 (w : World) : Calls Tryz.prog 42 #[.int .i64 5] w fun e w' => e = .returned (.tuple #[.bool true, .bool true, .bool false, .bool false]) ∧ w = w' := by
  go_enter Tryz.func42, Tryz.ntmps42
  go_wp2
  exact bodyPost_ret (v := .tuple #[.bool true, .bool true, .bool false, .bool false]) (by simp [results, Tryz.results42, go_sem]) rfl ⟨rfl, rfl⟩
set_option maxHeartbeats 1000000 in
set_option maxRecDepth 100000 in
theorem has6 (w : World) : Calls Tryz.prog 42 #[.int .i64 6] w fun e w' => e = .returned (.tuple #[.bool false, .bool false, .bool false, .bool false]) ∧ w = w' := by
  go_enter Tryz.func42, Tryz.ntmps42
  go_wp2
  exact bodyPost_ret (v := .tuple #[.bool false, .bool false, .bool false, .bool false]) (by simp [results, Tryz.results42, go_sem]) rfl ⟨rfl, rfl⟩
set_option maxHeartbeats 1000000 in
set_option maxRecDepth 100000 in
theorem has7 (w : World) : Calls Tryz.prog 42 #[.int .i64 7] w fun e w' => e = .returned (.tuple #[.bool true, .bool false, .bool false, .bool true]) ∧ w = w' := by
  go_enter Tryz.func42, Tryz.ntmps42
  go_wp2
  exact bodyPost_ret (v := .tuple #[.bool true, .bool false, .bool false, .bool true]) (by simp [results, Tryz.results42, go_sem]) rfl ⟨rfl, rfl⟩
set_option maxHeartbeats 1000000 in
set_option maxRecDepth 100000 in
theorem has8 (w : World) : Calls Tryz.prog 42 #[.int .i64 8] w fun e w' => e = .returned (.tuple #[.bool false, .bool false, .bool true, .bool false]) ∧ w = w' := by
  go_enter Tryz.func42, Tryz.ntmps42
  go_wp2
  exact bodyPost_ret (v := .tuple #[.bool false, .bool false, .bool true, .bool false]) (by simp [results, Tryz.results42, go_sem]) rfl ⟨rfl, rfl⟩
set_option maxHeartbeats 1000000 in
set_option maxRecDepth 100000 in
theorem has9 (w : World) : Calls Tryz.prog 42 #[.int .i64 9] w fun e w' => e = .returned (.tuple #[.bool false, .bool false, .bool true, .bool false]) ∧ w = w' := by
  go_enter Tryz.func42, Tryz.ntmps42
  go_wp2
  exact bodyPost_ret (v := .tuple #[.bool false, .bool false, .bool true, .bool false]) (by simp [results, Tryz.results42, go_sem]) rfl ⟨rfl, rfl⟩
set_option maxHeartbeats 1000000 in
set_option maxRecDepth 100000 in
theorem has10 (w : World) : Calls Tryz.prog 42 #[.int .i64 10] w fun e w' => e = .returned (.tuple #[.bool false, .bool false, .bool true, .bool false]) ∧ w = w' := by
  go_enter Tryz.func42, Tryz.ntmps42
  go_wp2
  exact bodyPost_ret (v := .tuple #[.bool false, .bool false, .bool true, .bool false]) (by simp [results, Tryz.results42, go_sem]) rfl ⟨rfl, rfl⟩
set_option maxHeartbeats 1000000 in
set_option maxRecDepth 100000 in
theorem has11 (w : World) : Calls Tryz.prog 42 #[.int .i64 11] w fun e w' => e = .returned (.tuple #[.bool false, .bool false, .bool true, .bool false]) ∧ w = w' := by
  go_enter Tryz.func42, Tryz.ntmps42
  go_wp2
  exact bodyPost_ret (v := .tuple #[.bool false, .bool false, .bool true, .bool false]) (by simp [results, Tryz.results42, go_sem]) rfl ⟨rfl, rfl⟩
set_option maxHeartbeats 1000000 in
set_option maxRecDepth 100000 in
theorem rright1 (n : Int) (r o b : ByteArray) (w : World) (hr : r.size ≤ 100000) (ho : o.size ≤ 100000) (hb : b.size ≤ 100000) :
    Calls Tryz.prog 23 #[lnv 1 r o b n] w fun e w' => e = .returned (.bool (OpsM.right 1 r.data.toList o.data.toList b.data.toList n)) ∧ Below w.heap.size w w' := by
  have E := Lib.hid (show OpsM.right 1 r.data.toList o.data.toList b.data.toList n = (OpsM.regB r.data.toList && (OpsM.emp o.data.toList && OpsM.emp b.data.toList)) from rfl)
  have e1 := Lib.hid (emp_of r)
  have e2 := Lib.hid (emp_of o)
  have e3 := Lib.hid (emp_of b)
  have HR := Lib.hid (fun W => rreg_any r W)
  have HO := Lib.hid (fun W => rname_any o W ho)
  have HB := Lib.hid (fun W => rname_any b W hb)
  have hs := reg_sign r.data.toList
  clear hr ho hb
  rw [E.out]
  clear E
  generalize OpsM.regB r.data.toList = q0 at *
  generalize WordM.regNo r.data.toList = rn at *
  unfold lnv
  cases q0
  · simp only [Bool.not_false] at hs
    go_enter Tryz.func23, Tryz.ntmps23
    go_wp2_with fail
    refine (has1 _).mono ?_
    rintro e w0 ⟨rfl, rfl⟩
    go_wp2_with fail
    refine (HR.out _).mono ?_
    rintro e w1 ⟨rfl, hB⟩
    obtain ⟨c0, _⟩ := kept_box (v := .int .i64 1) hB 0 rfl
    obtain ⟨c1, _⟩ := kept_box (v := .string r) hB 1 rfl
    obtain ⟨c2, _⟩ := kept_box (v := .string o) hB 2 rfl
    obtain ⟨c3, _⟩ := kept_box (v := .string b) hB 3 rfl
    obtain ⟨c4, _⟩ := kept_box (v := .int .i64 n) hB 4 rfl
    go_wp2
    all_goals
      go_ret
      exact ⟨ret_bool (by (try simp only [e1.out, e2.out, e3.out, OpsM.nil0]); simp [*]; try rfl), box_below hB⟩
  · simp only [Bool.not_true] at hs
    by_cases ho : o.toList = []
    · skip
      by_cases hb : b.toList = []
      · skip
        go_enter Tryz.func23, Tryz.ntmps23
        go_wp2_with fail
        refine (has1 _).mono ?_
        rintro e w0 ⟨rfl, rfl⟩
        go_wp2_with fail
        refine (HR.out _).mono ?_
        rintro e w1 ⟨rfl, hB⟩
        obtain ⟨c0, _⟩ := kept_box (v := .int .i64 1) hB 0 rfl
        obtain ⟨c1, _⟩ := kept_box (v := .string r) hB 1 rfl
        obtain ⟨c2, _⟩ := kept_box (v := .string o) hB 2 rfl
        obtain ⟨c3, _⟩ := kept_box (v := .string b) hB 3 rfl
        obtain ⟨c4, _⟩ := kept_box (v := .int .i64 n) hB 4 rfl
        go_wp2
        all_goals
          go_ret
          exact ⟨ret_bool (by (try simp only [e1.out, e2.out, e3.out, OpsM.nil0]); simp [*]; try rfl), box_below hB⟩
      · have mb : (b.toList == []) = false := by simpa using hb
        have kb : b.toList.isEmpty = false := by simpa using hb
        go_enter Tryz.func23, Tryz.ntmps23
        go_wp2_with fail
        refine (has1 _).mono ?_
        rintro e w0 ⟨rfl, rfl⟩
        go_wp2_with fail
        refine (HR.out _).mono ?_
        rintro e w1 ⟨rfl, hB⟩
        obtain ⟨c0, _⟩ := kept_box (v := .int .i64 1) hB 0 rfl
        obtain ⟨c1, _⟩ := kept_box (v := .string r) hB 1 rfl
        obtain ⟨c2, _⟩ := kept_box (v := .string o) hB 2 rfl
        obtain ⟨c3, _⟩ := kept_box (v := .string b) hB 3 rfl
        obtain ⟨c4, _⟩ := kept_box (v := .int .i64 n) hB 4 rfl
        go_wp2
        all_goals
          go_ret
          exact ⟨ret_bool (by (try simp only [e1.out, e2.out, e3.out, OpsM.nil0]); simp [*]; try rfl), box_below hB⟩
    · have mo : (o.toList == []) = false := by simpa using ho
      have ko : o.toList.isEmpty = false := by simpa using ho
      go_enter Tryz.func23, Tryz.ntmps23
      go_wp2_with fail
      refine (has1 _).mono ?_
      rintro e w0 ⟨rfl, rfl⟩
      go_wp2_with fail
      refine (HR.out _).mono ?_
      rintro e w1 ⟨rfl, hB⟩
      obtain ⟨c0, _⟩ := kept_box (v := .int .i64 1) hB 0 rfl
      obtain ⟨c1, _⟩ := kept_box (v := .string r) hB 1 rfl
      obtain ⟨c2, _⟩ := kept_box (v := .string o) hB 2 rfl
      obtain ⟨c3, _⟩ := kept_box (v := .string b) hB 3 rfl
      obtain ⟨c4, _⟩ := kept_box (v := .int .i64 n) hB 4 rfl
      go_wp2
      all_goals
        go_ret
        exact ⟨ret_bool (by (try simp only [e1.out, e2.out, e3.out, OpsM.nil0]); simp [*]; try rfl), box_below hB⟩
set_option maxHeartbeats 1000000 in
set_option maxRecDepth 100000 in
theorem rright2 (n : Int) (r o b : ByteArray) (w : World) (hr : r.size ≤ 100000) (ho : o.size ≤ 100000) (hb : b.size ≤ 100000) :
    Calls Tryz.prog 23 #[lnv 2 r o b n] w fun e w' => e = .returned (.bool (OpsM.right 2 r.data.toList o.data.toList b.data.toList n)) ∧ Below w.heap.size w w' := by
  have E := Lib.hid (show OpsM.right 2 r.data.toList o.data.toList b.data.toList n = (OpsM.regB r.data.toList && (WordM.nameB o.data.toList && (OpsM.emp b.data.toList && OpsM.nil0 n))) from rfl)
  have e1 := Lib.hid (emp_of r)
  have e2 := Lib.hid (emp_of o)
  have e3 := Lib.hid (emp_of b)
  have HR := Lib.hid (fun W => rreg_any r W)
  have HO := Lib.hid (fun W => rname_any o W ho)
  have HB := Lib.hid (fun W => rname_any b W hb)
  have hs := reg_sign r.data.toList
  clear hr ho hb
  rw [E.out]
  clear E
  generalize OpsM.regB r.data.toList = q0 at *
  generalize WordM.regNo r.data.toList = rn at *
  generalize WordM.nameB o.data.toList = q1 at *
  unfold lnv
  cases q0
  · simp only [Bool.not_false] at hs
    go_enter Tryz.func23, Tryz.ntmps23
    go_wp2_with fail
    refine (has2 _).mono ?_
    rintro e w0 ⟨rfl, rfl⟩
    go_wp2_with fail
    refine (HR.out _).mono ?_
    rintro e w1 ⟨rfl, hB⟩
    obtain ⟨c0, _⟩ := kept_box (v := .int .i64 2) hB 0 rfl
    obtain ⟨c1, _⟩ := kept_box (v := .string r) hB 1 rfl
    obtain ⟨c2, _⟩ := kept_box (v := .string o) hB 2 rfl
    obtain ⟨c3, _⟩ := kept_box (v := .string b) hB 3 rfl
    obtain ⟨c4, _⟩ := kept_box (v := .int .i64 n) hB 4 rfl
    go_wp2
    all_goals
      go_ret
      exact ⟨ret_bool (by (try simp only [e1.out, e2.out, e3.out, OpsM.nil0]); simp [*]; try rfl), box_below hB⟩
  · simp only [Bool.not_true] at hs
    cases q1
    · go_enter Tryz.func23, Tryz.ntmps23
      go_wp2_with fail
      refine (has2 _).mono ?_
      rintro e w0 ⟨rfl, rfl⟩
      go_wp2_with fail
      refine (HR.out _).mono ?_
      rintro e w1 ⟨rfl, hB⟩
      obtain ⟨c0, _⟩ := kept_box (v := .int .i64 2) hB 0 rfl
      obtain ⟨c1, _⟩ := kept_box (v := .string r) hB 1 rfl
      obtain ⟨c2, _⟩ := kept_box (v := .string o) hB 2 rfl
      obtain ⟨c3, _⟩ := kept_box (v := .string b) hB 3 rfl
      obtain ⟨c4, _⟩ := kept_box (v := .int .i64 n) hB 4 rfl
      go_wp2_with fail
      refine (HO.out _).mono ?_
      rintro e w2 ⟨rfl, hB'⟩
      replace hB := chain hB hB'
      clear hB'
      clear c0 c1 c2 c3 c4
      obtain ⟨c0, _⟩ := kept_box (v := .int .i64 2) hB 0 rfl
      obtain ⟨c1, _⟩ := kept_box (v := .string r) hB 1 rfl
      obtain ⟨c2, _⟩ := kept_box (v := .string o) hB 2 rfl
      obtain ⟨c3, _⟩ := kept_box (v := .string b) hB 3 rfl
      obtain ⟨c4, _⟩ := kept_box (v := .int .i64 n) hB 4 rfl
      go_wp2
      all_goals
        go_ret
        exact ⟨ret_bool (by (try simp only [e1.out, e2.out, e3.out, OpsM.nil0]); simp [*]; try rfl), box_below hB⟩
    · skip
      by_cases hb : b.toList = []
      · skip
        go_enter Tryz.func23, Tryz.ntmps23
        go_wp2_with fail
        refine (has2 _).mono ?_
        rintro e w0 ⟨rfl, rfl⟩
        go_wp2_with fail
        refine (HR.out _).mono ?_
        rintro e w1 ⟨rfl, hB⟩
        obtain ⟨c0, _⟩ := kept_box (v := .int .i64 2) hB 0 rfl
        obtain ⟨c1, _⟩ := kept_box (v := .string r) hB 1 rfl
        obtain ⟨c2, _⟩ := kept_box (v := .string o) hB 2 rfl
        obtain ⟨c3, _⟩ := kept_box (v := .string b) hB 3 rfl
        obtain ⟨c4, _⟩ := kept_box (v := .int .i64 n) hB 4 rfl
        go_wp2_with fail
        refine (HO.out _).mono ?_
        rintro e w2 ⟨rfl, hB'⟩
        replace hB := chain hB hB'
        clear hB'
        clear c0 c1 c2 c3 c4
        obtain ⟨c0, _⟩ := kept_box (v := .int .i64 2) hB 0 rfl
        obtain ⟨c1, _⟩ := kept_box (v := .string r) hB 1 rfl
        obtain ⟨c2, _⟩ := kept_box (v := .string o) hB 2 rfl
        obtain ⟨c3, _⟩ := kept_box (v := .string b) hB 3 rfl
        obtain ⟨c4, _⟩ := kept_box (v := .int .i64 n) hB 4 rfl
        go_wp2
        all_goals
          go_ret
          exact ⟨ret_bool (by (try simp only [e1.out, e2.out, e3.out, OpsM.nil0]); simp [*]; try rfl), box_below hB⟩
      · have mb : (b.toList == []) = false := by simpa using hb
        have kb : b.toList.isEmpty = false := by simpa using hb
        go_enter Tryz.func23, Tryz.ntmps23
        go_wp2_with fail
        refine (has2 _).mono ?_
        rintro e w0 ⟨rfl, rfl⟩
        go_wp2_with fail
        refine (HR.out _).mono ?_
        rintro e w1 ⟨rfl, hB⟩
        obtain ⟨c0, _⟩ := kept_box (v := .int .i64 2) hB 0 rfl
        obtain ⟨c1, _⟩ := kept_box (v := .string r) hB 1 rfl
        obtain ⟨c2, _⟩ := kept_box (v := .string o) hB 2 rfl
        obtain ⟨c3, _⟩ := kept_box (v := .string b) hB 3 rfl
        obtain ⟨c4, _⟩ := kept_box (v := .int .i64 n) hB 4 rfl
        go_wp2_with fail
        refine (HO.out _).mono ?_
        rintro e w2 ⟨rfl, hB'⟩
        replace hB := chain hB hB'
        clear hB'
        clear c0 c1 c2 c3 c4
        obtain ⟨c0, _⟩ := kept_box (v := .int .i64 2) hB 0 rfl
        obtain ⟨c1, _⟩ := kept_box (v := .string r) hB 1 rfl
        obtain ⟨c2, _⟩ := kept_box (v := .string o) hB 2 rfl
        obtain ⟨c3, _⟩ := kept_box (v := .string b) hB 3 rfl
        obtain ⟨c4, _⟩ := kept_box (v := .int .i64 n) hB 4 rfl
        go_wp2
        all_goals
          go_ret
          exact ⟨ret_bool (by (try simp only [e1.out, e2.out, e3.out, OpsM.nil0]); simp [*]; try rfl), box_below hB⟩
set_option maxHeartbeats 1000000 in
set_option maxRecDepth 100000 in
theorem rright3 (n : Int) (r o b : ByteArray) (w : World) (hr : r.size ≤ 100000) (ho : o.size ≤ 100000) (hb : b.size ≤ 100000) :
    Calls Tryz.prog 23 #[lnv 3 r o b n] w fun e w' => e = .returned (.bool (OpsM.right 3 r.data.toList o.data.toList b.data.toList n)) ∧ Below w.heap.size w w' := by
  have E := Lib.hid (show OpsM.right 3 r.data.toList o.data.toList b.data.toList n = (OpsM.regB r.data.toList && (WordM.nameB o.data.toList && (OpsM.emp b.data.toList && OpsM.nil0 n))) from rfl)
  have e1 := Lib.hid (emp_of r)
  have e2 := Lib.hid (emp_of o)
  have e3 := Lib.hid (emp_of b)
  have HR := Lib.hid (fun W => rreg_any r W)
  have HO := Lib.hid (fun W => rname_any o W ho)
  have HB := Lib.hid (fun W => rname_any b W hb)
  have hs := reg_sign r.data.toList
  clear hr ho hb
  rw [E.out]
  clear E
  generalize OpsM.regB r.data.toList = q0 at *
  generalize WordM.regNo r.data.toList = rn at *
  generalize WordM.nameB o.data.toList = q1 at *
  unfold lnv
  cases q0
  · simp only [Bool.not_false] at hs
    go_enter Tryz.func23, Tryz.ntmps23
    go_wp2_with fail
    refine (has3 _).mono ?_
    rintro e w0 ⟨rfl, rfl⟩
    go_wp2_with fail
    refine (HR.out _).mono ?_
    rintro e w1 ⟨rfl, hB⟩
    obtain ⟨c0, _⟩ := kept_box (v := .int .i64 3) hB 0 rfl
    obtain ⟨c1, _⟩ := kept_box (v := .string r) hB 1 rfl
    obtain ⟨c2, _⟩ := kept_box (v := .string o) hB 2 rfl
    obtain ⟨c3, _⟩ := kept_box (v := .string b) hB 3 rfl
    obtain ⟨c4, _⟩ := kept_box (v := .int .i64 n) hB 4 rfl
    go_wp2
    all_goals
      go_ret
      exact ⟨ret_bool (by (try simp only [e1.out, e2.out, e3.out, OpsM.nil0]); simp [*]; try rfl), box_below hB⟩
  · simp only [Bool.not_true] at hs
    cases q1
    · go_enter Tryz.func23, Tryz.ntmps23
      go_wp2_with fail
      refine (has3 _).mono ?_
      rintro e w0 ⟨rfl, rfl⟩
      go_wp2_with fail
      refine (HR.out _).mono ?_
      rintro e w1 ⟨rfl, hB⟩
      obtain ⟨c0, _⟩ := kept_box (v := .int .i64 3) hB 0 rfl
      obtain ⟨c1, _⟩ := kept_box (v := .string r) hB 1 rfl
      obtain ⟨c2, _⟩ := kept_box (v := .string o) hB 2 rfl
      obtain ⟨c3, _⟩ := kept_box (v := .string b) hB 3 rfl
      obtain ⟨c4, _⟩ := kept_box (v := .int .i64 n) hB 4 rfl
      go_wp2_with fail
      refine (HO.out _).mono ?_
      rintro e w2 ⟨rfl, hB'⟩
      replace hB := chain hB hB'
      clear hB'
      clear c0 c1 c2 c3 c4
      obtain ⟨c0, _⟩ := kept_box (v := .int .i64 3) hB 0 rfl
      obtain ⟨c1, _⟩ := kept_box (v := .string r) hB 1 rfl
      obtain ⟨c2, _⟩ := kept_box (v := .string o) hB 2 rfl
      obtain ⟨c3, _⟩ := kept_box (v := .string b) hB 3 rfl
      obtain ⟨c4, _⟩ := kept_box (v := .int .i64 n) hB 4 rfl
      go_wp2
      all_goals
        go_ret
        exact ⟨ret_bool (by (try simp only [e1.out, e2.out, e3.out, OpsM.nil0]); simp [*]; try rfl), box_below hB⟩
    · skip
      by_cases hb : b.toList = []
      · skip
        go_enter Tryz.func23, Tryz.ntmps23
        go_wp2_with fail
        refine (has3 _).mono ?_
        rintro e w0 ⟨rfl, rfl⟩
        go_wp2_with fail
        refine (HR.out _).mono ?_
        rintro e w1 ⟨rfl, hB⟩
        obtain ⟨c0, _⟩ := kept_box (v := .int .i64 3) hB 0 rfl
        obtain ⟨c1, _⟩ := kept_box (v := .string r) hB 1 rfl
        obtain ⟨c2, _⟩ := kept_box (v := .string o) hB 2 rfl
        obtain ⟨c3, _⟩ := kept_box (v := .string b) hB 3 rfl
        obtain ⟨c4, _⟩ := kept_box (v := .int .i64 n) hB 4 rfl
        go_wp2_with fail
        refine (HO.out _).mono ?_
        rintro e w2 ⟨rfl, hB'⟩
        replace hB := chain hB hB'
        clear hB'
        clear c0 c1 c2 c3 c4
        obtain ⟨c0, _⟩ := kept_box (v := .int .i64 3) hB 0 rfl
        obtain ⟨c1, _⟩ := kept_box (v := .string r) hB 1 rfl
        obtain ⟨c2, _⟩ := kept_box (v := .string o) hB 2 rfl
        obtain ⟨c3, _⟩ := kept_box (v := .string b) hB 3 rfl
        obtain ⟨c4, _⟩ := kept_box (v := .int .i64 n) hB 4 rfl
        go_wp2
        all_goals
          go_ret
          exact ⟨ret_bool (by (try simp only [e1.out, e2.out, e3.out, OpsM.nil0]); simp [*]; try rfl), box_below hB⟩
      · have mb : (b.toList == []) = false := by simpa using hb
        have kb : b.toList.isEmpty = false := by simpa using hb
        go_enter Tryz.func23, Tryz.ntmps23
        go_wp2_with fail
        refine (has3 _).mono ?_
        rintro e w0 ⟨rfl, rfl⟩
        go_wp2_with fail
        refine (HR.out _).mono ?_
        rintro e w1 ⟨rfl, hB⟩
        obtain ⟨c0, _⟩ := kept_box (v := .int .i64 3) hB 0 rfl
        obtain ⟨c1, _⟩ := kept_box (v := .string r) hB 1 rfl
        obtain ⟨c2, _⟩ := kept_box (v := .string o) hB 2 rfl
        obtain ⟨c3, _⟩ := kept_box (v := .string b) hB 3 rfl
        obtain ⟨c4, _⟩ := kept_box (v := .int .i64 n) hB 4 rfl
        go_wp2_with fail
        refine (HO.out _).mono ?_
        rintro e w2 ⟨rfl, hB'⟩
        replace hB := chain hB hB'
        clear hB'
        clear c0 c1 c2 c3 c4
        obtain ⟨c0, _⟩ := kept_box (v := .int .i64 3) hB 0 rfl
        obtain ⟨c1, _⟩ := kept_box (v := .string r) hB 1 rfl
        obtain ⟨c2, _⟩ := kept_box (v := .string o) hB 2 rfl
        obtain ⟨c3, _⟩ := kept_box (v := .string b) hB 3 rfl
        obtain ⟨c4, _⟩ := kept_box (v := .int .i64 n) hB 4 rfl
        go_wp2
        all_goals
          go_ret
          exact ⟨ret_bool (by (try simp only [e1.out, e2.out, e3.out, OpsM.nil0]); simp [*]; try rfl), box_below hB⟩
set_option maxHeartbeats 1000000 in
set_option maxRecDepth 100000 in
theorem rright4 (n : Int) (r o b : ByteArray) (w : World) (hr : r.size ≤ 100000) (ho : o.size ≤ 100000) (hb : b.size ≤ 100000) :
    Calls Tryz.prog 23 #[lnv 4 r o b n] w fun e w' => e = .returned (.bool (OpsM.right 4 r.data.toList o.data.toList b.data.toList n)) ∧ Below w.heap.size w w' := by
  have E := Lib.hid (show OpsM.right 4 r.data.toList o.data.toList b.data.toList n = (WordM.nameB o.data.toList && (OpsM.emp r.data.toList && OpsM.emp b.data.toList)) from rfl)
  have e1 := Lib.hid (emp_of r)
  have e2 := Lib.hid (emp_of o)
  have e3 := Lib.hid (emp_of b)
  have HR := Lib.hid (fun W => rreg_any r W)
  have HO := Lib.hid (fun W => rname_any o W ho)
  have HB := Lib.hid (fun W => rname_any b W hb)
  have hs := reg_sign r.data.toList
  clear hr ho hb
  rw [E.out]
  clear E
  generalize WordM.nameB o.data.toList = q1 at *
  unfold lnv
  clear hs
  by_cases hr : r.toList = []
  · skip
    cases q1
    · go_enter Tryz.func23, Tryz.ntmps23
      go_wp2_with fail
      refine (has4 _).mono ?_
      rintro e w0 ⟨rfl, rfl⟩
      go_wp2_with fail
      refine (HO.out _).mono ?_
      rintro e w1 ⟨rfl, hB⟩
      obtain ⟨c0, _⟩ := kept_box (v := .int .i64 4) hB 0 rfl
      obtain ⟨c1, _⟩ := kept_box (v := .string r) hB 1 rfl
      obtain ⟨c2, _⟩ := kept_box (v := .string o) hB 2 rfl
      obtain ⟨c3, _⟩ := kept_box (v := .string b) hB 3 rfl
      obtain ⟨c4, _⟩ := kept_box (v := .int .i64 n) hB 4 rfl
      go_wp2
      all_goals
        go_ret
        exact ⟨ret_bool (by (try simp only [e1.out, e2.out, e3.out, OpsM.nil0]); simp [*]; try rfl), box_below hB⟩
    · skip
      by_cases hb : b.toList = []
      · skip
        go_enter Tryz.func23, Tryz.ntmps23
        go_wp2_with fail
        refine (has4 _).mono ?_
        rintro e w0 ⟨rfl, rfl⟩
        go_wp2_with fail
        refine (HO.out _).mono ?_
        rintro e w1 ⟨rfl, hB⟩
        obtain ⟨c0, _⟩ := kept_box (v := .int .i64 4) hB 0 rfl
        obtain ⟨c1, _⟩ := kept_box (v := .string r) hB 1 rfl
        obtain ⟨c2, _⟩ := kept_box (v := .string o) hB 2 rfl
        obtain ⟨c3, _⟩ := kept_box (v := .string b) hB 3 rfl
        obtain ⟨c4, _⟩ := kept_box (v := .int .i64 n) hB 4 rfl
        go_wp2
        all_goals
          go_ret
          exact ⟨ret_bool (by (try simp only [e1.out, e2.out, e3.out, OpsM.nil0]); simp [*]; try rfl), box_below hB⟩
      · have mb : (b.toList == []) = false := by simpa using hb
        have kb : b.toList.isEmpty = false := by simpa using hb
        go_enter Tryz.func23, Tryz.ntmps23
        go_wp2_with fail
        refine (has4 _).mono ?_
        rintro e w0 ⟨rfl, rfl⟩
        go_wp2_with fail
        refine (HO.out _).mono ?_
        rintro e w1 ⟨rfl, hB⟩
        obtain ⟨c0, _⟩ := kept_box (v := .int .i64 4) hB 0 rfl
        obtain ⟨c1, _⟩ := kept_box (v := .string r) hB 1 rfl
        obtain ⟨c2, _⟩ := kept_box (v := .string o) hB 2 rfl
        obtain ⟨c3, _⟩ := kept_box (v := .string b) hB 3 rfl
        obtain ⟨c4, _⟩ := kept_box (v := .int .i64 n) hB 4 rfl
        go_wp2
        all_goals
          go_ret
          exact ⟨ret_bool (by (try simp only [e1.out, e2.out, e3.out, OpsM.nil0]); simp [*]; try rfl), box_below hB⟩
  · have mr : (r.toList == []) = false := by simpa using hr
    have kr : r.toList.isEmpty = false := by simpa using hr
    go_enter Tryz.func23, Tryz.ntmps23
    go_wp2_with fail
    refine (has4 _).mono ?_
    rintro e w0 ⟨rfl, rfl⟩
    go_wp2
    all_goals
      go_ret
      exact ⟨ret_bool (by (try simp only [e1.out, e2.out, e3.out, OpsM.nil0]); simp [*]; try rfl), (Below.refl _ _).alloc (Nat.le_refl _) _⟩
set_option maxHeartbeats 1000000 in
set_option maxRecDepth 100000 in
theorem rright5 (n : Int) (r o b : ByteArray) (w : World) (hr : r.size ≤ 100000) (ho : o.size ≤ 100000) (hb : b.size ≤ 100000) :
    Calls Tryz.prog 23 #[lnv 5 r o b n] w fun e w' => e = .returned (.bool (OpsM.right 5 r.data.toList o.data.toList b.data.toList n)) ∧ Below w.heap.size w w' := by
  have E := Lib.hid (show OpsM.right 5 r.data.toList o.data.toList b.data.toList n = (OpsM.regB r.data.toList && (WordM.nameB o.data.toList && (OpsM.emp b.data.toList && OpsM.nil0 n))) from rfl)
  have e1 := Lib.hid (emp_of r)
  have e2 := Lib.hid (emp_of o)
  have e3 := Lib.hid (emp_of b)
  have HR := Lib.hid (fun W => rreg_any r W)
  have HO := Lib.hid (fun W => rname_any o W ho)
  have HB := Lib.hid (fun W => rname_any b W hb)
  have hs := reg_sign r.data.toList
  clear hr ho hb
  rw [E.out]
  clear E
  generalize OpsM.regB r.data.toList = q0 at *
  generalize WordM.regNo r.data.toList = rn at *
  generalize WordM.nameB o.data.toList = q1 at *
  unfold lnv
  cases q0
  · simp only [Bool.not_false] at hs
    go_enter Tryz.func23, Tryz.ntmps23
    go_wp2_with fail
    refine (has5 _).mono ?_
    rintro e w0 ⟨rfl, rfl⟩
    go_wp2_with fail
    refine (HR.out _).mono ?_
    rintro e w1 ⟨rfl, hB⟩
    obtain ⟨c0, _⟩ := kept_box (v := .int .i64 5) hB 0 rfl
    obtain ⟨c1, _⟩ := kept_box (v := .string r) hB 1 rfl
    obtain ⟨c2, _⟩ := kept_box (v := .string o) hB 2 rfl
    obtain ⟨c3, _⟩ := kept_box (v := .string b) hB 3 rfl
    obtain ⟨c4, _⟩ := kept_box (v := .int .i64 n) hB 4 rfl
    go_wp2
    all_goals
      go_ret
      exact ⟨ret_bool (by (try simp only [e1.out, e2.out, e3.out, OpsM.nil0]); simp [*]; try rfl), box_below hB⟩
  · simp only [Bool.not_true] at hs
    cases q1
    · go_enter Tryz.func23, Tryz.ntmps23
      go_wp2_with fail
      refine (has5 _).mono ?_
      rintro e w0 ⟨rfl, rfl⟩
      go_wp2_with fail
      refine (HR.out _).mono ?_
      rintro e w1 ⟨rfl, hB⟩
      obtain ⟨c0, _⟩ := kept_box (v := .int .i64 5) hB 0 rfl
      obtain ⟨c1, _⟩ := kept_box (v := .string r) hB 1 rfl
      obtain ⟨c2, _⟩ := kept_box (v := .string o) hB 2 rfl
      obtain ⟨c3, _⟩ := kept_box (v := .string b) hB 3 rfl
      obtain ⟨c4, _⟩ := kept_box (v := .int .i64 n) hB 4 rfl
      go_wp2_with fail
      refine (HO.out _).mono ?_
      rintro e w2 ⟨rfl, hB'⟩
      replace hB := chain hB hB'
      clear hB'
      clear c0 c1 c2 c3 c4
      obtain ⟨c0, _⟩ := kept_box (v := .int .i64 5) hB 0 rfl
      obtain ⟨c1, _⟩ := kept_box (v := .string r) hB 1 rfl
      obtain ⟨c2, _⟩ := kept_box (v := .string o) hB 2 rfl
      obtain ⟨c3, _⟩ := kept_box (v := .string b) hB 3 rfl
      obtain ⟨c4, _⟩ := kept_box (v := .int .i64 n) hB 4 rfl
      go_wp2
      all_goals
        go_ret
        exact ⟨ret_bool (by (try simp only [e1.out, e2.out, e3.out, OpsM.nil0]); simp [*]; try rfl), box_below hB⟩
    · skip
      by_cases hb : b.toList = []
      · skip
        go_enter Tryz.func23, Tryz.ntmps23
        go_wp2_with fail
        refine (has5 _).mono ?_
        rintro e w0 ⟨rfl, rfl⟩
        go_wp2_with fail
        refine (HR.out _).mono ?_
        rintro e w1 ⟨rfl, hB⟩
        obtain ⟨c0, _⟩ := kept_box (v := .int .i64 5) hB 0 rfl
        obtain ⟨c1, _⟩ := kept_box (v := .string r) hB 1 rfl
        obtain ⟨c2, _⟩ := kept_box (v := .string o) hB 2 rfl
        obtain ⟨c3, _⟩ := kept_box (v := .string b) hB 3 rfl
        obtain ⟨c4, _⟩ := kept_box (v := .int .i64 n) hB 4 rfl
        go_wp2_with fail
        refine (HO.out _).mono ?_
        rintro e w2 ⟨rfl, hB'⟩
        replace hB := chain hB hB'
        clear hB'
        clear c0 c1 c2 c3 c4
        obtain ⟨c0, _⟩ := kept_box (v := .int .i64 5) hB 0 rfl
        obtain ⟨c1, _⟩ := kept_box (v := .string r) hB 1 rfl
        obtain ⟨c2, _⟩ := kept_box (v := .string o) hB 2 rfl
        obtain ⟨c3, _⟩ := kept_box (v := .string b) hB 3 rfl
        obtain ⟨c4, _⟩ := kept_box (v := .int .i64 n) hB 4 rfl
        go_wp2
        all_goals
          go_ret
          exact ⟨ret_bool (by (try simp only [e1.out, e2.out, e3.out, OpsM.nil0]); simp [*]; try rfl), box_below hB⟩
      · have mb : (b.toList == []) = false := by simpa using hb
        have kb : b.toList.isEmpty = false := by simpa using hb
        go_enter Tryz.func23, Tryz.ntmps23
        go_wp2_with fail
        refine (has5 _).mono ?_
        rintro e w0 ⟨rfl, rfl⟩
        go_wp2_with fail
        refine (HR.out _).mono ?_
        rintro e w1 ⟨rfl, hB⟩
        obtain ⟨c0, _⟩ := kept_box (v := .int .i64 5) hB 0 rfl
        obtain ⟨c1, _⟩ := kept_box (v := .string r) hB 1 rfl
        obtain ⟨c2, _⟩ := kept_box (v := .string o) hB 2 rfl
        obtain ⟨c3, _⟩ := kept_box (v := .string b) hB 3 rfl
        obtain ⟨c4, _⟩ := kept_box (v := .int .i64 n) hB 4 rfl
        go_wp2_with fail
        refine (HO.out _).mono ?_
        rintro e w2 ⟨rfl, hB'⟩
        replace hB := chain hB hB'
        clear hB'
        clear c0 c1 c2 c3 c4
        obtain ⟨c0, _⟩ := kept_box (v := .int .i64 5) hB 0 rfl
        obtain ⟨c1, _⟩ := kept_box (v := .string r) hB 1 rfl
        obtain ⟨c2, _⟩ := kept_box (v := .string o) hB 2 rfl
        obtain ⟨c3, _⟩ := kept_box (v := .string b) hB 3 rfl
        obtain ⟨c4, _⟩ := kept_box (v := .int .i64 n) hB 4 rfl
        go_wp2
        all_goals
          go_ret
          exact ⟨ret_bool (by (try simp only [e1.out, e2.out, e3.out, OpsM.nil0]); simp [*]; try rfl), box_below hB⟩
set_option maxHeartbeats 1000000 in
set_option maxRecDepth 100000 in
theorem rright6 (n : Int) (r o b : ByteArray) (w : World) (hr : r.size ≤ 100000) (ho : o.size ≤ 100000) (hb : b.size ≤ 100000) :
    Calls Tryz.prog 23 #[lnv 6 r o b n] w fun e w' => e = .returned (.bool (OpsM.right 6 r.data.toList o.data.toList b.data.toList n)) ∧ Below w.heap.size w w' := by
  have E := Lib.hid (show OpsM.right 6 r.data.toList o.data.toList b.data.toList n = (OpsM.emp r.data.toList && (OpsM.emp o.data.toList && (OpsM.emp b.data.toList && OpsM.nil0 n))) from rfl)
  have e1 := Lib.hid (emp_of r)
  have e2 := Lib.hid (emp_of o)
  have e3 := Lib.hid (emp_of b)
  have HR := Lib.hid (fun W => rreg_any r W)
  have HO := Lib.hid (fun W => rname_any o W ho)
  have HB := Lib.hid (fun W => rname_any b W hb)
  have hs := reg_sign r.data.toList
  clear hr ho hb
  rw [E.out]
  clear E
  unfold lnv
  clear hs
  by_cases hr : r.toList = []
  · skip
    by_cases ho : o.toList = []
    · skip
      by_cases hb : b.toList = []
      · skip
        go_enter Tryz.func23, Tryz.ntmps23
        go_wp2_with fail
        refine (has6 _).mono ?_
        rintro e w0 ⟨rfl, rfl⟩
        go_wp2
        all_goals
          go_ret
          exact ⟨ret_bool (by (try simp only [e1.out, e2.out, e3.out, OpsM.nil0]); simp [*]; try rfl), (Below.refl _ _).alloc (Nat.le_refl _) _⟩
      · have mb : (b.toList == []) = false := by simpa using hb
        have kb : b.toList.isEmpty = false := by simpa using hb
        go_enter Tryz.func23, Tryz.ntmps23
        go_wp2_with fail
        refine (has6 _).mono ?_
        rintro e w0 ⟨rfl, rfl⟩
        go_wp2
        all_goals
          go_ret
          exact ⟨ret_bool (by (try simp only [e1.out, e2.out, e3.out, OpsM.nil0]); simp [*]; try rfl), (Below.refl _ _).alloc (Nat.le_refl _) _⟩
    · have mo : (o.toList == []) = false := by simpa using ho
      have ko : o.toList.isEmpty = false := by simpa using ho
      go_enter Tryz.func23, Tryz.ntmps23
      go_wp2_with fail
      refine (has6 _).mono ?_
      rintro e w0 ⟨rfl, rfl⟩
      go_wp2
      all_goals
        go_ret
        exact ⟨ret_bool (by (try simp only [e1.out, e2.out, e3.out, OpsM.nil0]); simp [*]; try rfl), (Below.refl _ _).alloc (Nat.le_refl _) _⟩
  · have mr : (r.toList == []) = false := by simpa using hr
    have kr : r.toList.isEmpty = false := by simpa using hr
    go_enter Tryz.func23, Tryz.ntmps23
    go_wp2_with fail
    refine (has6 _).mono ?_
    rintro e w0 ⟨rfl, rfl⟩
    go_wp2
    all_goals
      go_ret
      exact ⟨ret_bool (by (try simp only [e1.out, e2.out, e3.out, OpsM.nil0]); simp [*]; try rfl), (Below.refl _ _).alloc (Nat.le_refl _) _⟩
set_option maxHeartbeats 1000000 in
set_option maxRecDepth 100000 in
theorem rright7 (n : Int) (r o b : ByteArray) (w : World) (hr : r.size ≤ 100000) (ho : o.size ≤ 100000) (hb : b.size ≤ 100000) :
    Calls Tryz.prog 23 #[lnv 7 r o b n] w fun e w' => e = .returned (.bool (OpsM.right 7 r.data.toList o.data.toList b.data.toList n)) ∧ Below w.heap.size w w' := by
  have E := Lib.hid (show OpsM.right 7 r.data.toList o.data.toList b.data.toList n = (OpsM.regB r.data.toList && (OpsM.emp o.data.toList && OpsM.emp b.data.toList)) from rfl)
  have e1 := Lib.hid (emp_of r)
  have e2 := Lib.hid (emp_of o)
  have e3 := Lib.hid (emp_of b)
  have HR := Lib.hid (fun W => rreg_any r W)
  have HO := Lib.hid (fun W => rname_any o W ho)
  have HB := Lib.hid (fun W => rname_any b W hb)
  have hs := reg_sign r.data.toList
  clear hr ho hb
  rw [E.out]
  clear E
  generalize OpsM.regB r.data.toList = q0 at *
  generalize WordM.regNo r.data.toList = rn at *
  unfold lnv
  cases q0
  · simp only [Bool.not_false] at hs
    go_enter Tryz.func23, Tryz.ntmps23
    go_wp2_with fail
    refine (has7 _).mono ?_
    rintro e w0 ⟨rfl, rfl⟩
    go_wp2_with fail
    refine (HR.out _).mono ?_
    rintro e w1 ⟨rfl, hB⟩
    obtain ⟨c0, _⟩ := kept_box (v := .int .i64 7) hB 0 rfl
    obtain ⟨c1, _⟩ := kept_box (v := .string r) hB 1 rfl
    obtain ⟨c2, _⟩ := kept_box (v := .string o) hB 2 rfl
    obtain ⟨c3, _⟩ := kept_box (v := .string b) hB 3 rfl
    obtain ⟨c4, _⟩ := kept_box (v := .int .i64 n) hB 4 rfl
    go_wp2
    all_goals
      go_ret
      exact ⟨ret_bool (by (try simp only [e1.out, e2.out, e3.out, OpsM.nil0]); simp [*]; try rfl), box_below hB⟩
  · simp only [Bool.not_true] at hs
    by_cases ho : o.toList = []
    · skip
      by_cases hb : b.toList = []
      · skip
        go_enter Tryz.func23, Tryz.ntmps23
        go_wp2_with fail
        refine (has7 _).mono ?_
        rintro e w0 ⟨rfl, rfl⟩
        go_wp2_with fail
        refine (HR.out _).mono ?_
        rintro e w1 ⟨rfl, hB⟩
        obtain ⟨c0, _⟩ := kept_box (v := .int .i64 7) hB 0 rfl
        obtain ⟨c1, _⟩ := kept_box (v := .string r) hB 1 rfl
        obtain ⟨c2, _⟩ := kept_box (v := .string o) hB 2 rfl
        obtain ⟨c3, _⟩ := kept_box (v := .string b) hB 3 rfl
        obtain ⟨c4, _⟩ := kept_box (v := .int .i64 n) hB 4 rfl
        go_wp2
        all_goals
          go_ret
          exact ⟨ret_bool (by (try simp only [e1.out, e2.out, e3.out, OpsM.nil0]); simp [*]; try rfl), box_below hB⟩
      · have mb : (b.toList == []) = false := by simpa using hb
        have kb : b.toList.isEmpty = false := by simpa using hb
        go_enter Tryz.func23, Tryz.ntmps23
        go_wp2_with fail
        refine (has7 _).mono ?_
        rintro e w0 ⟨rfl, rfl⟩
        go_wp2_with fail
        refine (HR.out _).mono ?_
        rintro e w1 ⟨rfl, hB⟩
        obtain ⟨c0, _⟩ := kept_box (v := .int .i64 7) hB 0 rfl
        obtain ⟨c1, _⟩ := kept_box (v := .string r) hB 1 rfl
        obtain ⟨c2, _⟩ := kept_box (v := .string o) hB 2 rfl
        obtain ⟨c3, _⟩ := kept_box (v := .string b) hB 3 rfl
        obtain ⟨c4, _⟩ := kept_box (v := .int .i64 n) hB 4 rfl
        go_wp2
        all_goals
          go_ret
          exact ⟨ret_bool (by (try simp only [e1.out, e2.out, e3.out, OpsM.nil0]); simp [*]; try rfl), box_below hB⟩
    · have mo : (o.toList == []) = false := by simpa using ho
      have ko : o.toList.isEmpty = false := by simpa using ho
      go_enter Tryz.func23, Tryz.ntmps23
      go_wp2_with fail
      refine (has7 _).mono ?_
      rintro e w0 ⟨rfl, rfl⟩
      go_wp2_with fail
      refine (HR.out _).mono ?_
      rintro e w1 ⟨rfl, hB⟩
      obtain ⟨c0, _⟩ := kept_box (v := .int .i64 7) hB 0 rfl
      obtain ⟨c1, _⟩ := kept_box (v := .string r) hB 1 rfl
      obtain ⟨c2, _⟩ := kept_box (v := .string o) hB 2 rfl
      obtain ⟨c3, _⟩ := kept_box (v := .string b) hB 3 rfl
      obtain ⟨c4, _⟩ := kept_box (v := .int .i64 n) hB 4 rfl
      go_wp2
      all_goals
        go_ret
        exact ⟨ret_bool (by (try simp only [e1.out, e2.out, e3.out, OpsM.nil0]); simp [*]; try rfl), box_below hB⟩
set_option maxHeartbeats 1000000 in
set_option maxRecDepth 100000 in
theorem rright8 (n : Int) (r o b : ByteArray) (w : World) (hr : r.size ≤ 100000) (ho : o.size ≤ 100000) (hb : b.size ≤ 100000) :
    Calls Tryz.prog 23 #[lnv 8 r o b n] w fun e w' => e = .returned (.bool (OpsM.right 8 r.data.toList o.data.toList b.data.toList n)) ∧ Below w.heap.size w w' := by
  have E := Lib.hid (show OpsM.right 8 r.data.toList o.data.toList b.data.toList n = (WordM.nameB b.data.toList && (OpsM.emp r.data.toList && (OpsM.emp o.data.toList && OpsM.nil0 n))) from rfl)
  have e1 := Lib.hid (emp_of r)
  have e2 := Lib.hid (emp_of o)
  have e3 := Lib.hid (emp_of b)
  have HR := Lib.hid (fun W => rreg_any r W)
  have HO := Lib.hid (fun W => rname_any o W ho)
  have HB := Lib.hid (fun W => rname_any b W hb)
  have hs := reg_sign r.data.toList
  clear hr ho hb
  rw [E.out]
  clear E
  generalize WordM.nameB b.data.toList = q2 at *
  unfold lnv
  clear hs
  by_cases hr : r.toList = []
  · skip
    by_cases ho : o.toList = []
    · skip
      cases q2
      · go_enter Tryz.func23, Tryz.ntmps23
        go_wp2_with fail
        refine (has8 _).mono ?_
        rintro e w0 ⟨rfl, rfl⟩
        go_wp2_with fail
        refine (HB.out _).mono ?_
        rintro e w1 ⟨rfl, hB⟩
        obtain ⟨c0, _⟩ := kept_box (v := .int .i64 8) hB 0 rfl
        obtain ⟨c1, _⟩ := kept_box (v := .string r) hB 1 rfl
        obtain ⟨c2, _⟩ := kept_box (v := .string o) hB 2 rfl
        obtain ⟨c3, _⟩ := kept_box (v := .string b) hB 3 rfl
        obtain ⟨c4, _⟩ := kept_box (v := .int .i64 n) hB 4 rfl
        go_wp2
        all_goals
          go_ret
          exact ⟨ret_bool (by (try simp only [e1.out, e2.out, e3.out, OpsM.nil0]); simp [*]; try rfl), box_below hB⟩
      · skip
        go_enter Tryz.func23, Tryz.ntmps23
        go_wp2_with fail
        refine (has8 _).mono ?_
        rintro e w0 ⟨rfl, rfl⟩
        go_wp2_with fail
        refine (HB.out _).mono ?_
        rintro e w1 ⟨rfl, hB⟩
        obtain ⟨c0, _⟩ := kept_box (v := .int .i64 8) hB 0 rfl
        obtain ⟨c1, _⟩ := kept_box (v := .string r) hB 1 rfl
        obtain ⟨c2, _⟩ := kept_box (v := .string o) hB 2 rfl
        obtain ⟨c3, _⟩ := kept_box (v := .string b) hB 3 rfl
        obtain ⟨c4, _⟩ := kept_box (v := .int .i64 n) hB 4 rfl
        go_wp2
        all_goals
          go_ret
          exact ⟨ret_bool (by (try simp only [e1.out, e2.out, e3.out, OpsM.nil0]); simp [*]; try rfl), box_below hB⟩
    · have mo : (o.toList == []) = false := by simpa using ho
      have ko : o.toList.isEmpty = false := by simpa using ho
      go_enter Tryz.func23, Tryz.ntmps23
      go_wp2_with fail
      refine (has8 _).mono ?_
      rintro e w0 ⟨rfl, rfl⟩
      go_wp2
      all_goals
        go_ret
        exact ⟨ret_bool (by (try simp only [e1.out, e2.out, e3.out, OpsM.nil0]); simp [*]; try rfl), (Below.refl _ _).alloc (Nat.le_refl _) _⟩
  · have mr : (r.toList == []) = false := by simpa using hr
    have kr : r.toList.isEmpty = false := by simpa using hr
    go_enter Tryz.func23, Tryz.ntmps23
    go_wp2_with fail
    refine (has8 _).mono ?_
    rintro e w0 ⟨rfl, rfl⟩
    go_wp2
    all_goals
      go_ret
      exact ⟨ret_bool (by (try simp only [e1.out, e2.out, e3.out, OpsM.nil0]); simp [*]; try rfl), (Below.refl _ _).alloc (Nat.le_refl _) _⟩
set_option maxHeartbeats 1000000 in
set_option maxRecDepth 100000 in
theorem rright9 (n : Int) (r o b : ByteArray) (w : World) (hr : r.size ≤ 100000) (ho : o.size ≤ 100000) (hb : b.size ≤ 100000) :
    Calls Tryz.prog 23 #[lnv 9 r o b n] w fun e w' => e = .returned (.bool (OpsM.right 9 r.data.toList o.data.toList b.data.toList n)) ∧ Below w.heap.size w w' := by
  have E := Lib.hid (show OpsM.right 9 r.data.toList o.data.toList b.data.toList n = (WordM.nameB b.data.toList && (OpsM.emp r.data.toList && (OpsM.emp o.data.toList && OpsM.nil0 n))) from rfl)
  have e1 := Lib.hid (emp_of r)
  have e2 := Lib.hid (emp_of o)
  have e3 := Lib.hid (emp_of b)
  have HR := Lib.hid (fun W => rreg_any r W)
  have HO := Lib.hid (fun W => rname_any o W ho)
  have HB := Lib.hid (fun W => rname_any b W hb)
  have hs := reg_sign r.data.toList
  clear hr ho hb
  rw [E.out]
  clear E
  generalize WordM.nameB b.data.toList = q2 at *
  unfold lnv
  clear hs
  by_cases hr : r.toList = []
  · skip
    by_cases ho : o.toList = []
    · skip
      cases q2
      · go_enter Tryz.func23, Tryz.ntmps23
        go_wp2_with fail
        refine (has9 _).mono ?_
        rintro e w0 ⟨rfl, rfl⟩
        go_wp2_with fail
        refine (HB.out _).mono ?_
        rintro e w1 ⟨rfl, hB⟩
        obtain ⟨c0, _⟩ := kept_box (v := .int .i64 9) hB 0 rfl
        obtain ⟨c1, _⟩ := kept_box (v := .string r) hB 1 rfl
        obtain ⟨c2, _⟩ := kept_box (v := .string o) hB 2 rfl
        obtain ⟨c3, _⟩ := kept_box (v := .string b) hB 3 rfl
        obtain ⟨c4, _⟩ := kept_box (v := .int .i64 n) hB 4 rfl
        go_wp2
        all_goals
          go_ret
          exact ⟨ret_bool (by (try simp only [e1.out, e2.out, e3.out, OpsM.nil0]); simp [*]; try rfl), box_below hB⟩
      · skip
        go_enter Tryz.func23, Tryz.ntmps23
        go_wp2_with fail
        refine (has9 _).mono ?_
        rintro e w0 ⟨rfl, rfl⟩
        go_wp2_with fail
        refine (HB.out _).mono ?_
        rintro e w1 ⟨rfl, hB⟩
        obtain ⟨c0, _⟩ := kept_box (v := .int .i64 9) hB 0 rfl
        obtain ⟨c1, _⟩ := kept_box (v := .string r) hB 1 rfl
        obtain ⟨c2, _⟩ := kept_box (v := .string o) hB 2 rfl
        obtain ⟨c3, _⟩ := kept_box (v := .string b) hB 3 rfl
        obtain ⟨c4, _⟩ := kept_box (v := .int .i64 n) hB 4 rfl
        go_wp2
        all_goals
          go_ret
          exact ⟨ret_bool (by (try simp only [e1.out, e2.out, e3.out, OpsM.nil0]); simp [*]; try rfl), box_below hB⟩
    · have mo : (o.toList == []) = false := by simpa using ho
      have ko : o.toList.isEmpty = false := by simpa using ho
      go_enter Tryz.func23, Tryz.ntmps23
      go_wp2_with fail
      refine (has9 _).mono ?_
      rintro e w0 ⟨rfl, rfl⟩
      go_wp2
      all_goals
        go_ret
        exact ⟨ret_bool (by (try simp only [e1.out, e2.out, e3.out, OpsM.nil0]); simp [*]; try rfl), (Below.refl _ _).alloc (Nat.le_refl _) _⟩
  · have mr : (r.toList == []) = false := by simpa using hr
    have kr : r.toList.isEmpty = false := by simpa using hr
    go_enter Tryz.func23, Tryz.ntmps23
    go_wp2_with fail
    refine (has9 _).mono ?_
    rintro e w0 ⟨rfl, rfl⟩
    go_wp2
    all_goals
      go_ret
      exact ⟨ret_bool (by (try simp only [e1.out, e2.out, e3.out, OpsM.nil0]); simp [*]; try rfl), (Below.refl _ _).alloc (Nat.le_refl _) _⟩
set_option maxHeartbeats 1000000 in
set_option maxRecDepth 100000 in
theorem rright10 (n : Int) (r o b : ByteArray) (w : World) (hr : r.size ≤ 100000) (ho : o.size ≤ 100000) (hb : b.size ≤ 100000) :
    Calls Tryz.prog 23 #[lnv 10 r o b n] w fun e w' => e = .returned (.bool (OpsM.right 10 r.data.toList o.data.toList b.data.toList n)) ∧ Below w.heap.size w w' := by
  have E := Lib.hid (show OpsM.right 10 r.data.toList o.data.toList b.data.toList n = (WordM.nameB b.data.toList && (OpsM.emp r.data.toList && (OpsM.emp o.data.toList && OpsM.nil0 n))) from rfl)
  have e1 := Lib.hid (emp_of r)
  have e2 := Lib.hid (emp_of o)
  have e3 := Lib.hid (emp_of b)
  have HR := Lib.hid (fun W => rreg_any r W)
  have HO := Lib.hid (fun W => rname_any o W ho)
  have HB := Lib.hid (fun W => rname_any b W hb)
  have hs := reg_sign r.data.toList
  clear hr ho hb
  rw [E.out]
  clear E
  generalize WordM.nameB b.data.toList = q2 at *
  unfold lnv
  clear hs
  by_cases hr : r.toList = []
  · skip
    by_cases ho : o.toList = []
    · skip
      cases q2
      · go_enter Tryz.func23, Tryz.ntmps23
        go_wp2_with fail
        refine (has10 _).mono ?_
        rintro e w0 ⟨rfl, rfl⟩
        go_wp2_with fail
        refine (HB.out _).mono ?_
        rintro e w1 ⟨rfl, hB⟩
        obtain ⟨c0, _⟩ := kept_box (v := .int .i64 10) hB 0 rfl
        obtain ⟨c1, _⟩ := kept_box (v := .string r) hB 1 rfl
        obtain ⟨c2, _⟩ := kept_box (v := .string o) hB 2 rfl
        obtain ⟨c3, _⟩ := kept_box (v := .string b) hB 3 rfl
        obtain ⟨c4, _⟩ := kept_box (v := .int .i64 n) hB 4 rfl
        go_wp2
        all_goals
          go_ret
          exact ⟨ret_bool (by (try simp only [e1.out, e2.out, e3.out, OpsM.nil0]); simp [*]; try rfl), box_below hB⟩
      · skip
        go_enter Tryz.func23, Tryz.ntmps23
        go_wp2_with fail
        refine (has10 _).mono ?_
        rintro e w0 ⟨rfl, rfl⟩
        go_wp2_with fail
        refine (HB.out _).mono ?_
        rintro e w1 ⟨rfl, hB⟩
        obtain ⟨c0, _⟩ := kept_box (v := .int .i64 10) hB 0 rfl
        obtain ⟨c1, _⟩ := kept_box (v := .string r) hB 1 rfl
        obtain ⟨c2, _⟩ := kept_box (v := .string o) hB 2 rfl
        obtain ⟨c3, _⟩ := kept_box (v := .string b) hB 3 rfl
        obtain ⟨c4, _⟩ := kept_box (v := .int .i64 n) hB 4 rfl
        go_wp2
        all_goals
          go_ret
          exact ⟨ret_bool (by (try simp only [e1.out, e2.out, e3.out, OpsM.nil0]); simp [*]; try rfl), box_below hB⟩
    · have mo : (o.toList == []) = false := by simpa using ho
      have ko : o.toList.isEmpty = false := by simpa using ho
      go_enter Tryz.func23, Tryz.ntmps23
      go_wp2_with fail
      refine (has10 _).mono ?_
      rintro e w0 ⟨rfl, rfl⟩
      go_wp2
      all_goals
        go_ret
        exact ⟨ret_bool (by (try simp only [e1.out, e2.out, e3.out, OpsM.nil0]); simp [*]; try rfl), (Below.refl _ _).alloc (Nat.le_refl _) _⟩
  · have mr : (r.toList == []) = false := by simpa using hr
    have kr : r.toList.isEmpty = false := by simpa using hr
    go_enter Tryz.func23, Tryz.ntmps23
    go_wp2_with fail
    refine (has10 _).mono ?_
    rintro e w0 ⟨rfl, rfl⟩
    go_wp2
    all_goals
      go_ret
      exact ⟨ret_bool (by (try simp only [e1.out, e2.out, e3.out, OpsM.nil0]); simp [*]; try rfl), (Below.refl _ _).alloc (Nat.le_refl _) _⟩
set_option maxHeartbeats 1000000 in
set_option maxRecDepth 100000 in
theorem rright11 (n : Int) (r o b : ByteArray) (w : World) (hr : r.size ≤ 100000) (ho : o.size ≤ 100000) (hb : b.size ≤ 100000) :
    Calls Tryz.prog 23 #[lnv 11 r o b n] w fun e w' => e = .returned (.bool (OpsM.right 11 r.data.toList o.data.toList b.data.toList n)) ∧ Below w.heap.size w w' := by
  have E := Lib.hid (show OpsM.right 11 r.data.toList o.data.toList b.data.toList n = (WordM.nameB b.data.toList && (OpsM.emp r.data.toList && (OpsM.emp o.data.toList && OpsM.nil0 n))) from rfl)
  have e1 := Lib.hid (emp_of r)
  have e2 := Lib.hid (emp_of o)
  have e3 := Lib.hid (emp_of b)
  have HR := Lib.hid (fun W => rreg_any r W)
  have HO := Lib.hid (fun W => rname_any o W ho)
  have HB := Lib.hid (fun W => rname_any b W hb)
  have hs := reg_sign r.data.toList
  clear hr ho hb
  rw [E.out]
  clear E
  generalize WordM.nameB b.data.toList = q2 at *
  unfold lnv
  clear hs
  by_cases hr : r.toList = []
  · skip
    by_cases ho : o.toList = []
    · skip
      cases q2
      · go_enter Tryz.func23, Tryz.ntmps23
        go_wp2_with fail
        refine (has11 _).mono ?_
        rintro e w0 ⟨rfl, rfl⟩
        go_wp2_with fail
        refine (HB.out _).mono ?_
        rintro e w1 ⟨rfl, hB⟩
        obtain ⟨c0, _⟩ := kept_box (v := .int .i64 11) hB 0 rfl
        obtain ⟨c1, _⟩ := kept_box (v := .string r) hB 1 rfl
        obtain ⟨c2, _⟩ := kept_box (v := .string o) hB 2 rfl
        obtain ⟨c3, _⟩ := kept_box (v := .string b) hB 3 rfl
        obtain ⟨c4, _⟩ := kept_box (v := .int .i64 n) hB 4 rfl
        go_wp2
        all_goals
          go_ret
          exact ⟨ret_bool (by (try simp only [e1.out, e2.out, e3.out, OpsM.nil0]); simp [*]; try rfl), box_below hB⟩
      · skip
        go_enter Tryz.func23, Tryz.ntmps23
        go_wp2_with fail
        refine (has11 _).mono ?_
        rintro e w0 ⟨rfl, rfl⟩
        go_wp2_with fail
        refine (HB.out _).mono ?_
        rintro e w1 ⟨rfl, hB⟩
        obtain ⟨c0, _⟩ := kept_box (v := .int .i64 11) hB 0 rfl
        obtain ⟨c1, _⟩ := kept_box (v := .string r) hB 1 rfl
        obtain ⟨c2, _⟩ := kept_box (v := .string o) hB 2 rfl
        obtain ⟨c3, _⟩ := kept_box (v := .string b) hB 3 rfl
        obtain ⟨c4, _⟩ := kept_box (v := .int .i64 n) hB 4 rfl
        go_wp2
        all_goals
          go_ret
          exact ⟨ret_bool (by (try simp only [e1.out, e2.out, e3.out, OpsM.nil0]); simp [*]; try rfl), box_below hB⟩
    · have mo : (o.toList == []) = false := by simpa using ho
      have ko : o.toList.isEmpty = false := by simpa using ho
      go_enter Tryz.func23, Tryz.ntmps23
      go_wp2_with fail
      refine (has11 _).mono ?_
      rintro e w0 ⟨rfl, rfl⟩
      go_wp2
      all_goals
        go_ret
        exact ⟨ret_bool (by (try simp only [e1.out, e2.out, e3.out, OpsM.nil0]); simp [*]; try rfl), (Below.refl _ _).alloc (Nat.le_refl _) _⟩
  · have mr : (r.toList == []) = false := by simpa using hr
    have kr : r.toList.isEmpty = false := by simpa using hr
    go_enter Tryz.func23, Tryz.ntmps23
    go_wp2_with fail
    refine (has11 _).mono ?_
    rintro e w0 ⟨rfl, rfl⟩
    go_wp2
    all_goals
      go_ret
      exact ⟨ret_bool (by (try simp only [e1.out, e2.out, e3.out, OpsM.nil0]); simp [*]; try rfl), (Below.refl _ _).alloc (Nat.le_refl _) _⟩
set_option maxHeartbeats 1000000 in
set_option maxRecDepth 100000 in
theorem hasNo (op : Int) (w : World) (h : op < 1 ∨ 11 < op) : Calls Tryz.prog 42 #[.int .i64 op] w fun e w' => e = .returned (.tuple #[.bool false, .bool false, .bool false, .bool false]) ∧ w = w' := by
  have g1 : (op == 1) = false := beq_eq_false_iff_ne.2 (by omega)
  have g2 : (op == 2) = false := beq_eq_false_iff_ne.2 (by omega)
  have g3 : (op == 3) = false := beq_eq_false_iff_ne.2 (by omega)
  have g4 : (op == 4) = false := beq_eq_false_iff_ne.2 (by omega)
  have g5 : (op == 5) = false := beq_eq_false_iff_ne.2 (by omega)
  have g6 : (op == 6) = false := beq_eq_false_iff_ne.2 (by omega)
  have g7 : (op == 7) = false := beq_eq_false_iff_ne.2 (by omega)
  rcases h with h | h
  · have q1 : decide (8 ≤ op) = false := decide_eq_false (by omega)
    have h2 : op < 8 := by omega
    clear h
    go_enter Tryz.func42, Tryz.ntmps42
    go_wp2
    exact bodyPost_ret (v := .tuple #[.bool false, .bool false, .bool false, .bool false]) (by simp [results, Tryz.results42, go_sem]) rfl ⟨rfl, rfl⟩
  · have q1 : decide (8 ≤ op) = true := decide_eq_true (by omega)
    have q2 : decide (op ≤ 11) = false := decide_eq_false (by omega)
    have h2 : 8 ≤ op := by omega
    clear h2
    go_enter Tryz.func42, Tryz.ntmps42
    go_wp2
    exact bodyPost_ret (v := .tuple #[.bool false, .bool false, .bool false, .bool false]) (by simp [results, Tryz.results42, go_sem]) rfl ⟨rfl, rfl⟩
set_option maxHeartbeats 1000000 in
set_option maxRecDepth 100000 in
theorem rrightNo (op n : Int) (r o b : ByteArray) (w : World) (h : op < 1 ∨ 11 < op) :
    Calls Tryz.prog 23 #[lnv op r o b n] w fun e w' => e = .returned (.bool false) ∧ Below w.heap.size w w' := by
  have HH := Lib.hid (fun W => hasNo op W h)
  unfold lnv
  rcases h with h | h
  · have q1 : decide (op < 1) = true := decide_eq_true h
    go_enter Tryz.func23, Tryz.ntmps23
    go_wp2_with fail
    refine (HH.out _).mono ?_
    rintro e w0 ⟨rfl, rfl⟩
    go_wp2
    go_ret
    exact ⟨rfl, (Below.refl _ _).alloc (Nat.le_refl _) _⟩
  · have q1 : decide (op < 1) = false := decide_eq_false (by omega)
    have q2 : decide (11 < op) = true := decide_eq_true h
    go_enter Tryz.func23, Tryz.ntmps23
    go_wp2_with fail
    refine (HH.out _).mono ?_
    rintro e w0 ⟨rfl, rfl⟩
    go_wp2
    go_ret
    exact ⟨rfl, (Below.refl _ _).alloc (Nat.le_refl _) _⟩
theorem rright_any (op n : Int) (r o b : ByteArray) (w : World) (hr : r.size ≤ 100000) (ho : o.size ≤ 100000) (hb : b.size ≤ 100000) :
    Calls Tryz.prog 23 #[lnv op r o b n] w fun e w' => e = .returned (.bool (OpsM.right op r.data.toList o.data.toList b.data.toList n)) ∧ Below w.heap.size w w' := by
  by_cases h1 : op = 1
  · subst h1; exact rright1 n r o b w hr ho hb
  by_cases h2 : op = 2
  · subst h2; exact rright2 n r o b w hr ho hb
  by_cases h3 : op = 3
  · subst h3; exact rright3 n r o b w hr ho hb
  by_cases h4 : op = 4
  · subst h4; exact rright4 n r o b w hr ho hb
  by_cases h5 : op = 5
  · subst h5; exact rright5 n r o b w hr ho hb
  by_cases h6 : op = 6
  · subst h6; exact rright6 n r o b w hr ho hb
  by_cases h7 : op = 7
  · subst h7; exact rright7 n r o b w hr ho hb
  by_cases h8 : op = 8
  · subst h8; exact rright8 n r o b w hr ho hb
  by_cases h9 : op = 9
  · subst h9; exact rright9 n r o b w hr ho hb
  by_cases h10 : op = 10
  · subst h10; exact rright10 n r o b w hr ho hb
  by_cases h11 : op = 11
  · subst h11; exact rright11 n r o b w hr ho hb
  rw [show OpsM.right op r.data.toList o.data.toList b.data.toList n = false by simp [OpsM.right, h1, h2, h3, h4, h5, h6, h7, h8, h9, h10, h11]]
  exact rrightNo op n r o b w (by omega)
end Go.Proofs.YtkkjodjachbifaaGreatDoor
namespace Go.Proofs.YtkkjodjachbifaaGreatDoor
open Go.RowKit
set_option linter.unusedVariables false
set_option linter.unusedSimpArgs false
open WordM (L)

set_option maxHeartbeats 1000000 in
set_option maxRecDepth 100000 in
theorem rlwords1 (n : Int) (r o b : ByteArray) (w : World) (hn : NumM.inR n) (hr : r.size ≤ 100000) (ho : o.size ≤ 100000) (hb : b.size ≤ 100000) :
    Calls Tryz.prog 36 #[lnv 1 r o b n] w (RetStrs (OpsM.words 1 r.data.toList o.data.toList b.data.toList n) w) := by
  have E := Lib.hid (show OpsM.words 1 r.data.toList o.data.toList b.data.toList n = if OpsM.right 1 r.data.toList o.data.toList b.data.toList n then [OpsM.kmov, r.data.toList, NumM.text n] else [] from rfl)
  have HR := Lib.hid (fun W => rright1 n r o b W hr ho hb)
  have HT := Lib.hid (fun W => rtext_any n W hn)
  have z1 : (⟨#[91]⟩ : ByteArray).size = 1 := rfl
  have z2 : (⟨#[93]⟩ : ByteArray).size = 1 := rfl
  have z4 : (⟨#[58]⟩ : ByteArray).size = 1 := rfl
  have z3 : (⟨#[91]⟩ ++ o : ByteArray).size = 1 + o.size := by rw [ByteArray.size_append]; rfl
  have hc1 := fun W => run_string_add_sum (P := Tryz.prog) (w := W) ⟨#[91]⟩ o (by omega)
  have hc2 := fun W => run_string_add_sum (P := Tryz.prog) (w := W) (⟨#[91]⟩ ++ o) ⟨#[93]⟩ (by omega)
  have hE := show (⟨#[91]⟩ ++ o ++ ⟨#[93]⟩ : ByteArray) = ⟨(OpsM.brk o.data.toList).toArray⟩ by apply ByteArray.ext; rw [ByteArray.data_append, ByteArray.data_append]; apply Array.toList_inj.1; simp [OpsM.brk]
  rw [hE] at hc2
  clear z1 z2 z3 z4 hE hr ho hb
  rw [E.out]
  clear E
  generalize OpsM.right 1 r.data.toList o.data.toList b.data.toList n = res at *
  unfold lnv at *
  cases res
  · go_enter Tryz.func36, Tryz.ntmps36
    go_wp2_with fail
    refine (HR.out _).mono ?_
    rintro e w1 ⟨rfl, hB⟩
    go_wp2
    go_ret
    exact ret_nil (box_below hB)
  · go_enter Tryz.func36, Tryz.ntmps36
    go_wp2_with fail
    refine (HR.out _).mono ?_
    rintro e w1 ⟨rfl, hB⟩
    obtain ⟨c0, _⟩ := kept_box (v := .int .i64 1) hB 0 rfl
    obtain ⟨c1, _⟩ := kept_box (v := .string r) hB 1 rfl
    obtain ⟨c2, _⟩ := kept_box (v := .string o) hB 2 rfl
    obtain ⟨c3, _⟩ := kept_box (v := .string b) hB 3 rfl
    obtain ⟨c4, _⟩ := kept_box (v := .int .i64 n) hB 4 rfl
    go_wp2
    go_region_held3 (fun w' => w'.cell? ⟨w.heap.size, 1, none⟩ = some (.string r) ∧ w'.cell? ⟨w.heap.size, 4, none⟩ = some (.int .i64 n)) (first | go_keep | (exact held_below2 hB2 (by assumption)))
      (first | (go_at_call 31; refine (HT.out _).mono ?_; rintro e w' ⟨rfl, hB2⟩))
    all_goals
      go_wp2
      go_ret
      exact ret_lit [OpsM.kmov, r.data.toList, NumM.text n] (by simp) rfl rfl (by simp) ((box_below hB).trans ((below_undrew hB2).mono (box_below hB).size))
set_option maxHeartbeats 1000000 in
set_option maxRecDepth 100000 in
theorem rlwords2 (n : Int) (r o b : ByteArray) (w : World) (hn : NumM.inR n) (hr : r.size ≤ 100000) (ho : o.size ≤ 100000) (hb : b.size ≤ 100000) :
    Calls Tryz.prog 36 #[lnv 2 r o b n] w (RetStrs (OpsM.words 2 r.data.toList o.data.toList b.data.toList n) w) := by
  have E := Lib.hid (show OpsM.words 2 r.data.toList o.data.toList b.data.toList n = if OpsM.right 2 r.data.toList o.data.toList b.data.toList n then [OpsM.kmov, r.data.toList, OpsM.brk o.data.toList] else [] from rfl)
  have HR := Lib.hid (fun W => rright2 n r o b W hr ho hb)
  have HT := Lib.hid (fun W => rtext_any n W hn)
  have z1 : (⟨#[91]⟩ : ByteArray).size = 1 := rfl
  have z2 : (⟨#[93]⟩ : ByteArray).size = 1 := rfl
  have z4 : (⟨#[58]⟩ : ByteArray).size = 1 := rfl
  have z3 : (⟨#[91]⟩ ++ o : ByteArray).size = 1 + o.size := by rw [ByteArray.size_append]; rfl
  have hc1 := fun W => run_string_add_sum (P := Tryz.prog) (w := W) ⟨#[91]⟩ o (by omega)
  have hc2 := fun W => run_string_add_sum (P := Tryz.prog) (w := W) (⟨#[91]⟩ ++ o) ⟨#[93]⟩ (by omega)
  have hE := show (⟨#[91]⟩ ++ o ++ ⟨#[93]⟩ : ByteArray) = ⟨(OpsM.brk o.data.toList).toArray⟩ by apply ByteArray.ext; rw [ByteArray.data_append, ByteArray.data_append]; apply Array.toList_inj.1; simp [OpsM.brk]
  rw [hE] at hc2
  clear z1 z2 z3 z4 hE hr ho hb
  rw [E.out]
  clear E
  generalize OpsM.right 2 r.data.toList o.data.toList b.data.toList n = res at *
  unfold lnv at *
  cases res
  · go_enter Tryz.func36, Tryz.ntmps36
    go_wp2_with fail
    refine (HR.out _).mono ?_
    rintro e w1 ⟨rfl, hB⟩
    go_wp2
    go_ret
    exact ret_nil (box_below hB)
  · go_enter Tryz.func36, Tryz.ntmps36
    go_wp2_with fail
    refine (HR.out _).mono ?_
    rintro e w1 ⟨rfl, hB⟩
    obtain ⟨c0, _⟩ := kept_box (v := .int .i64 2) hB 0 rfl
    obtain ⟨c1, _⟩ := kept_box (v := .string r) hB 1 rfl
    obtain ⟨c2, _⟩ := kept_box (v := .string o) hB 2 rfl
    obtain ⟨c3, _⟩ := kept_box (v := .string b) hB 3 rfl
    obtain ⟨c4, _⟩ := kept_box (v := .int .i64 n) hB 4 rfl
    go_wp2
    go_ret
    exact ret_lit [OpsM.kmov, r.data.toList, OpsM.brk o.data.toList] (by simp) rfl rfl (by simp) (box_below hB)
set_option maxHeartbeats 1000000 in
set_option maxRecDepth 100000 in
theorem rlwords3 (n : Int) (r o b : ByteArray) (w : World) (hn : NumM.inR n) (hr : r.size ≤ 100000) (ho : o.size ≤ 100000) (hb : b.size ≤ 100000) :
    Calls Tryz.prog 36 #[lnv 3 r o b n] w (RetStrs (OpsM.words 3 r.data.toList o.data.toList b.data.toList n) w) := by
  have E := Lib.hid (show OpsM.words 3 r.data.toList o.data.toList b.data.toList n = if OpsM.right 3 r.data.toList o.data.toList b.data.toList n then [OpsM.kmov, OpsM.brk o.data.toList, r.data.toList] else [] from rfl)
  have HR := Lib.hid (fun W => rright3 n r o b W hr ho hb)
  have HT := Lib.hid (fun W => rtext_any n W hn)
  have z1 : (⟨#[91]⟩ : ByteArray).size = 1 := rfl
  have z2 : (⟨#[93]⟩ : ByteArray).size = 1 := rfl
  have z4 : (⟨#[58]⟩ : ByteArray).size = 1 := rfl
  have z3 : (⟨#[91]⟩ ++ o : ByteArray).size = 1 + o.size := by rw [ByteArray.size_append]; rfl
  have hc1 := fun W => run_string_add_sum (P := Tryz.prog) (w := W) ⟨#[91]⟩ o (by omega)
  have hc2 := fun W => run_string_add_sum (P := Tryz.prog) (w := W) (⟨#[91]⟩ ++ o) ⟨#[93]⟩ (by omega)
  have hE := show (⟨#[91]⟩ ++ o ++ ⟨#[93]⟩ : ByteArray) = ⟨(OpsM.brk o.data.toList).toArray⟩ by apply ByteArray.ext; rw [ByteArray.data_append, ByteArray.data_append]; apply Array.toList_inj.1; simp [OpsM.brk]
  rw [hE] at hc2
  clear z1 z2 z3 z4 hE hr ho hb
  rw [E.out]
  clear E
  generalize OpsM.right 3 r.data.toList o.data.toList b.data.toList n = res at *
  unfold lnv at *
  cases res
  · go_enter Tryz.func36, Tryz.ntmps36
    go_wp2_with fail
    refine (HR.out _).mono ?_
    rintro e w1 ⟨rfl, hB⟩
    go_wp2
    go_ret
    exact ret_nil (box_below hB)
  · go_enter Tryz.func36, Tryz.ntmps36
    go_wp2_with fail
    refine (HR.out _).mono ?_
    rintro e w1 ⟨rfl, hB⟩
    obtain ⟨c0, _⟩ := kept_box (v := .int .i64 3) hB 0 rfl
    obtain ⟨c1, _⟩ := kept_box (v := .string r) hB 1 rfl
    obtain ⟨c2, _⟩ := kept_box (v := .string o) hB 2 rfl
    obtain ⟨c3, _⟩ := kept_box (v := .string b) hB 3 rfl
    obtain ⟨c4, _⟩ := kept_box (v := .int .i64 n) hB 4 rfl
    go_wp2
    go_ret
    exact ret_lit [OpsM.kmov, OpsM.brk o.data.toList, r.data.toList] (by simp) rfl rfl (by simp) (box_below hB)
set_option maxHeartbeats 1000000 in
set_option maxRecDepth 100000 in
theorem rlwords4 (n : Int) (r o b : ByteArray) (w : World) (hn : NumM.inR n) (hr : r.size ≤ 100000) (ho : o.size ≤ 100000) (hb : b.size ≤ 100000) :
    Calls Tryz.prog 36 #[lnv 4 r o b n] w (RetStrs (OpsM.words 4 r.data.toList o.data.toList b.data.toList n) w) := by
  have E := Lib.hid (show OpsM.words 4 r.data.toList o.data.toList b.data.toList n = if OpsM.right 4 r.data.toList o.data.toList b.data.toList n then [OpsM.kmov, OpsM.brk o.data.toList, NumM.text n] else [] from rfl)
  have HR := Lib.hid (fun W => rright4 n r o b W hr ho hb)
  have HT := Lib.hid (fun W => rtext_any n W hn)
  have z1 : (⟨#[91]⟩ : ByteArray).size = 1 := rfl
  have z2 : (⟨#[93]⟩ : ByteArray).size = 1 := rfl
  have z4 : (⟨#[58]⟩ : ByteArray).size = 1 := rfl
  have z3 : (⟨#[91]⟩ ++ o : ByteArray).size = 1 + o.size := by rw [ByteArray.size_append]; rfl
  have hc1 := fun W => run_string_add_sum (P := Tryz.prog) (w := W) ⟨#[91]⟩ o (by omega)
  have hc2 := fun W => run_string_add_sum (P := Tryz.prog) (w := W) (⟨#[91]⟩ ++ o) ⟨#[93]⟩ (by omega)
  have hE := show (⟨#[91]⟩ ++ o ++ ⟨#[93]⟩ : ByteArray) = ⟨(OpsM.brk o.data.toList).toArray⟩ by apply ByteArray.ext; rw [ByteArray.data_append, ByteArray.data_append]; apply Array.toList_inj.1; simp [OpsM.brk]
  rw [hE] at hc2
  clear z1 z2 z3 z4 hE hr ho hb
  rw [E.out]
  clear E
  generalize OpsM.right 4 r.data.toList o.data.toList b.data.toList n = res at *
  unfold lnv at *
  cases res
  · go_enter Tryz.func36, Tryz.ntmps36
    go_wp2_with fail
    refine (HR.out _).mono ?_
    rintro e w1 ⟨rfl, hB⟩
    go_wp2
    go_ret
    exact ret_nil (box_below hB)
  · go_enter Tryz.func36, Tryz.ntmps36
    go_wp2_with fail
    refine (HR.out _).mono ?_
    rintro e w1 ⟨rfl, hB⟩
    obtain ⟨c0, _⟩ := kept_box (v := .int .i64 4) hB 0 rfl
    obtain ⟨c1, _⟩ := kept_box (v := .string r) hB 1 rfl
    obtain ⟨c2, _⟩ := kept_box (v := .string o) hB 2 rfl
    obtain ⟨c3, _⟩ := kept_box (v := .string b) hB 3 rfl
    obtain ⟨c4, _⟩ := kept_box (v := .int .i64 n) hB 4 rfl
    go_wp2_with fail
    refine (HT.out _).mono ?_
    rintro e w2 ⟨rfl, hB2⟩
    go_wp2
    go_ret
    exact ret_lit [OpsM.kmov, OpsM.brk o.data.toList, NumM.text n] (by simp) rfl rfl (by simp) ((box_below hB).trans (hB2.mono (box_below hB).size))
set_option maxHeartbeats 1000000 in
set_option maxRecDepth 100000 in
theorem rlwords5 (n : Int) (r o b : ByteArray) (w : World) (hn : NumM.inR n) (hr : r.size ≤ 100000) (ho : o.size ≤ 100000) (hb : b.size ≤ 100000) :
    Calls Tryz.prog 36 #[lnv 5 r o b n] w (RetStrs (OpsM.words 5 r.data.toList o.data.toList b.data.toList n) w) := by
  have E := Lib.hid (show OpsM.words 5 r.data.toList o.data.toList b.data.toList n = if OpsM.right 5 r.data.toList o.data.toList b.data.toList n then [OpsM.kxchg, OpsM.brk o.data.toList, r.data.toList] else [] from rfl)
  have HR := Lib.hid (fun W => rright5 n r o b W hr ho hb)
  have HT := Lib.hid (fun W => rtext_any n W hn)
  have z1 : (⟨#[91]⟩ : ByteArray).size = 1 := rfl
  have z2 : (⟨#[93]⟩ : ByteArray).size = 1 := rfl
  have z4 : (⟨#[58]⟩ : ByteArray).size = 1 := rfl
  have z3 : (⟨#[91]⟩ ++ o : ByteArray).size = 1 + o.size := by rw [ByteArray.size_append]; rfl
  have hc1 := fun W => run_string_add_sum (P := Tryz.prog) (w := W) ⟨#[91]⟩ o (by omega)
  have hc2 := fun W => run_string_add_sum (P := Tryz.prog) (w := W) (⟨#[91]⟩ ++ o) ⟨#[93]⟩ (by omega)
  have hE := show (⟨#[91]⟩ ++ o ++ ⟨#[93]⟩ : ByteArray) = ⟨(OpsM.brk o.data.toList).toArray⟩ by apply ByteArray.ext; rw [ByteArray.data_append, ByteArray.data_append]; apply Array.toList_inj.1; simp [OpsM.brk]
  rw [hE] at hc2
  clear z1 z2 z3 z4 hE hr ho hb
  rw [E.out]
  clear E
  generalize OpsM.right 5 r.data.toList o.data.toList b.data.toList n = res at *
  unfold lnv at *
  cases res
  · go_enter Tryz.func36, Tryz.ntmps36
    go_wp2_with fail
    refine (HR.out _).mono ?_
    rintro e w1 ⟨rfl, hB⟩
    go_wp2
    go_ret
    exact ret_nil (box_below hB)
  · go_enter Tryz.func36, Tryz.ntmps36
    go_wp2_with fail
    refine (HR.out _).mono ?_
    rintro e w1 ⟨rfl, hB⟩
    obtain ⟨c0, _⟩ := kept_box (v := .int .i64 5) hB 0 rfl
    obtain ⟨c1, _⟩ := kept_box (v := .string r) hB 1 rfl
    obtain ⟨c2, _⟩ := kept_box (v := .string o) hB 2 rfl
    obtain ⟨c3, _⟩ := kept_box (v := .string b) hB 3 rfl
    obtain ⟨c4, _⟩ := kept_box (v := .int .i64 n) hB 4 rfl
    go_wp2
    go_ret
    exact ret_lit [OpsM.kxchg, OpsM.brk o.data.toList, r.data.toList] (by simp) rfl rfl (by simp) (box_below hB)
set_option maxHeartbeats 1000000 in
set_option maxRecDepth 100000 in
theorem rlwords6 (n : Int) (r o b : ByteArray) (w : World) (hn : NumM.inR n) (hr : r.size ≤ 100000) (ho : o.size ≤ 100000) (hb : b.size ≤ 100000) :
    Calls Tryz.prog 36 #[lnv 6 r o b n] w (RetStrs (OpsM.words 6 r.data.toList o.data.toList b.data.toList n) w) := by
  have E := Lib.hid (show OpsM.words 6 r.data.toList o.data.toList b.data.toList n = if OpsM.right 6 r.data.toList o.data.toList b.data.toList n then [OpsM.kmfence] else [] from rfl)
  have HR := Lib.hid (fun W => rright6 n r o b W hr ho hb)
  have HT := Lib.hid (fun W => rtext_any n W hn)
  have z1 : (⟨#[91]⟩ : ByteArray).size = 1 := rfl
  have z2 : (⟨#[93]⟩ : ByteArray).size = 1 := rfl
  have z4 : (⟨#[58]⟩ : ByteArray).size = 1 := rfl
  have z3 : (⟨#[91]⟩ ++ o : ByteArray).size = 1 + o.size := by rw [ByteArray.size_append]; rfl
  have hc1 := fun W => run_string_add_sum (P := Tryz.prog) (w := W) ⟨#[91]⟩ o (by omega)
  have hc2 := fun W => run_string_add_sum (P := Tryz.prog) (w := W) (⟨#[91]⟩ ++ o) ⟨#[93]⟩ (by omega)
  have hE := show (⟨#[91]⟩ ++ o ++ ⟨#[93]⟩ : ByteArray) = ⟨(OpsM.brk o.data.toList).toArray⟩ by apply ByteArray.ext; rw [ByteArray.data_append, ByteArray.data_append]; apply Array.toList_inj.1; simp [OpsM.brk]
  rw [hE] at hc2
  clear z1 z2 z3 z4 hE hr ho hb
  rw [E.out]
  clear E
  generalize OpsM.right 6 r.data.toList o.data.toList b.data.toList n = res at *
  unfold lnv at *
  cases res
  · go_enter Tryz.func36, Tryz.ntmps36
    go_wp2_with fail
    refine (HR.out _).mono ?_
    rintro e w1 ⟨rfl, hB⟩
    go_wp2
    go_ret
    exact ret_nil (box_below hB)
  · go_enter Tryz.func36, Tryz.ntmps36
    go_wp2_with fail
    refine (HR.out _).mono ?_
    rintro e w1 ⟨rfl, hB⟩
    obtain ⟨c0, _⟩ := kept_box (v := .int .i64 6) hB 0 rfl
    obtain ⟨c1, _⟩ := kept_box (v := .string r) hB 1 rfl
    obtain ⟨c2, _⟩ := kept_box (v := .string o) hB 2 rfl
    obtain ⟨c3, _⟩ := kept_box (v := .string b) hB 3 rfl
    obtain ⟨c4, _⟩ := kept_box (v := .int .i64 n) hB 4 rfl
    go_wp2
    go_ret
    exact ret_lit [OpsM.kmfence] (by simp) rfl rfl (by simp) (box_below hB)
set_option maxHeartbeats 1000000 in
set_option maxRecDepth 100000 in
theorem rlwords7 (n : Int) (r o b : ByteArray) (w : World) (hn : NumM.inR n) (hr : r.size ≤ 100000) (ho : o.size ≤ 100000) (hb : b.size ≤ 100000) :
    Calls Tryz.prog 36 #[lnv 7 r o b n] w (RetStrs (OpsM.words 7 r.data.toList o.data.toList b.data.toList n) w) := by
  have E := Lib.hid (show OpsM.words 7 r.data.toList o.data.toList b.data.toList n = if OpsM.right 7 r.data.toList o.data.toList b.data.toList n then [OpsM.kcmp, r.data.toList, NumM.text n] else [] from rfl)
  have HR := Lib.hid (fun W => rright7 n r o b W hr ho hb)
  have HT := Lib.hid (fun W => rtext_any n W hn)
  have z1 : (⟨#[91]⟩ : ByteArray).size = 1 := rfl
  have z2 : (⟨#[93]⟩ : ByteArray).size = 1 := rfl
  have z4 : (⟨#[58]⟩ : ByteArray).size = 1 := rfl
  have z3 : (⟨#[91]⟩ ++ o : ByteArray).size = 1 + o.size := by rw [ByteArray.size_append]; rfl
  have hc1 := fun W => run_string_add_sum (P := Tryz.prog) (w := W) ⟨#[91]⟩ o (by omega)
  have hc2 := fun W => run_string_add_sum (P := Tryz.prog) (w := W) (⟨#[91]⟩ ++ o) ⟨#[93]⟩ (by omega)
  have hE := show (⟨#[91]⟩ ++ o ++ ⟨#[93]⟩ : ByteArray) = ⟨(OpsM.brk o.data.toList).toArray⟩ by apply ByteArray.ext; rw [ByteArray.data_append, ByteArray.data_append]; apply Array.toList_inj.1; simp [OpsM.brk]
  rw [hE] at hc2
  clear z1 z2 z3 z4 hE hr ho hb
  rw [E.out]
  clear E
  generalize OpsM.right 7 r.data.toList o.data.toList b.data.toList n = res at *
  unfold lnv at *
  cases res
  · go_enter Tryz.func36, Tryz.ntmps36
    go_wp2_with fail
    refine (HR.out _).mono ?_
    rintro e w1 ⟨rfl, hB⟩
    go_wp2
    go_ret
    exact ret_nil (box_below hB)
  · go_enter Tryz.func36, Tryz.ntmps36
    go_wp2_with fail
    refine (HR.out _).mono ?_
    rintro e w1 ⟨rfl, hB⟩
    obtain ⟨c0, _⟩ := kept_box (v := .int .i64 7) hB 0 rfl
    obtain ⟨c1, _⟩ := kept_box (v := .string r) hB 1 rfl
    obtain ⟨c2, _⟩ := kept_box (v := .string o) hB 2 rfl
    obtain ⟨c3, _⟩ := kept_box (v := .string b) hB 3 rfl
    obtain ⟨c4, _⟩ := kept_box (v := .int .i64 n) hB 4 rfl
    go_wp2
    go_region_held3 (fun w' => w'.cell? ⟨w.heap.size, 1, none⟩ = some (.string r) ∧ w'.cell? ⟨w.heap.size, 4, none⟩ = some (.int .i64 n)) (first | go_keep | (exact held_below2 hB2 (by assumption)))
      (first | (go_at_call 31; refine (HT.out _).mono ?_; rintro e w' ⟨rfl, hB2⟩))
    all_goals
      go_wp2
      go_ret
      exact ret_lit [OpsM.kcmp, r.data.toList, NumM.text n] (by simp) rfl rfl (by simp) ((box_below hB).trans ((below_undrew hB2).mono (box_below hB).size))
set_option maxHeartbeats 1000000 in
set_option maxRecDepth 100000 in
theorem rlwords8 (n : Int) (r o b : ByteArray) (w : World) (hn : NumM.inR n) (hr : r.size ≤ 100000) (ho : o.size ≤ 100000) (hb : b.size ≤ 100000) :
    Calls Tryz.prog 36 #[lnv 8 r o b n] w (RetStrs (OpsM.words 8 r.data.toList o.data.toList b.data.toList n) w) := by
  have E := Lib.hid (show OpsM.words 8 r.data.toList o.data.toList b.data.toList n = if OpsM.right 8 r.data.toList o.data.toList b.data.toList n then [OpsM.kjmp, b.data.toList] else [] from rfl)
  have HR := Lib.hid (fun W => rright8 n r o b W hr ho hb)
  have HT := Lib.hid (fun W => rtext_any n W hn)
  have z1 : (⟨#[91]⟩ : ByteArray).size = 1 := rfl
  have z2 : (⟨#[93]⟩ : ByteArray).size = 1 := rfl
  have z4 : (⟨#[58]⟩ : ByteArray).size = 1 := rfl
  have z3 : (⟨#[91]⟩ ++ o : ByteArray).size = 1 + o.size := by rw [ByteArray.size_append]; rfl
  have hc1 := fun W => run_string_add_sum (P := Tryz.prog) (w := W) ⟨#[91]⟩ o (by omega)
  have hc2 := fun W => run_string_add_sum (P := Tryz.prog) (w := W) (⟨#[91]⟩ ++ o) ⟨#[93]⟩ (by omega)
  have hE := show (⟨#[91]⟩ ++ o ++ ⟨#[93]⟩ : ByteArray) = ⟨(OpsM.brk o.data.toList).toArray⟩ by apply ByteArray.ext; rw [ByteArray.data_append, ByteArray.data_append]; apply Array.toList_inj.1; simp [OpsM.brk]
  rw [hE] at hc2
  clear z1 z2 z3 z4 hE hr ho hb
  rw [E.out]
  clear E
  generalize OpsM.right 8 r.data.toList o.data.toList b.data.toList n = res at *
  unfold lnv at *
  cases res
  · go_enter Tryz.func36, Tryz.ntmps36
    go_wp2_with fail
    refine (HR.out _).mono ?_
    rintro e w1 ⟨rfl, hB⟩
    go_wp2
    go_ret
    exact ret_nil (box_below hB)
  · go_enter Tryz.func36, Tryz.ntmps36
    go_wp2_with fail
    refine (HR.out _).mono ?_
    rintro e w1 ⟨rfl, hB⟩
    obtain ⟨c0, _⟩ := kept_box (v := .int .i64 8) hB 0 rfl
    obtain ⟨c1, _⟩ := kept_box (v := .string r) hB 1 rfl
    obtain ⟨c2, _⟩ := kept_box (v := .string o) hB 2 rfl
    obtain ⟨c3, _⟩ := kept_box (v := .string b) hB 3 rfl
    obtain ⟨c4, _⟩ := kept_box (v := .int .i64 n) hB 4 rfl
    go_wp2
    go_ret
    exact ret_lit [OpsM.kjmp, b.data.toList] (by simp) rfl rfl (by simp) (box_below hB)
set_option maxHeartbeats 1000000 in
set_option maxRecDepth 100000 in
theorem rlwords9 (n : Int) (r o b : ByteArray) (w : World) (hn : NumM.inR n) (hr : r.size ≤ 100000) (ho : o.size ≤ 100000) (hb : b.size ≤ 100000) :
    Calls Tryz.prog 36 #[lnv 9 r o b n] w (RetStrs (OpsM.words 9 r.data.toList o.data.toList b.data.toList n) w) := by
  have E := Lib.hid (show OpsM.words 9 r.data.toList o.data.toList b.data.toList n = if OpsM.right 9 r.data.toList o.data.toList b.data.toList n then [OpsM.kje, b.data.toList] else [] from rfl)
  have HR := Lib.hid (fun W => rright9 n r o b W hr ho hb)
  have HT := Lib.hid (fun W => rtext_any n W hn)
  have z1 : (⟨#[91]⟩ : ByteArray).size = 1 := rfl
  have z2 : (⟨#[93]⟩ : ByteArray).size = 1 := rfl
  have z4 : (⟨#[58]⟩ : ByteArray).size = 1 := rfl
  have z3 : (⟨#[91]⟩ ++ o : ByteArray).size = 1 + o.size := by rw [ByteArray.size_append]; rfl
  have hc1 := fun W => run_string_add_sum (P := Tryz.prog) (w := W) ⟨#[91]⟩ o (by omega)
  have hc2 := fun W => run_string_add_sum (P := Tryz.prog) (w := W) (⟨#[91]⟩ ++ o) ⟨#[93]⟩ (by omega)
  have hE := show (⟨#[91]⟩ ++ o ++ ⟨#[93]⟩ : ByteArray) = ⟨(OpsM.brk o.data.toList).toArray⟩ by apply ByteArray.ext; rw [ByteArray.data_append, ByteArray.data_append]; apply Array.toList_inj.1; simp [OpsM.brk]
  rw [hE] at hc2
  clear z1 z2 z3 z4 hE hr ho hb
  rw [E.out]
  clear E
  generalize OpsM.right 9 r.data.toList o.data.toList b.data.toList n = res at *
  unfold lnv at *
  cases res
  · go_enter Tryz.func36, Tryz.ntmps36
    go_wp2_with fail
    refine (HR.out _).mono ?_
    rintro e w1 ⟨rfl, hB⟩
    go_wp2
    go_ret
    exact ret_nil (box_below hB)
  · go_enter Tryz.func36, Tryz.ntmps36
    go_wp2_with fail
    refine (HR.out _).mono ?_
    rintro e w1 ⟨rfl, hB⟩
    obtain ⟨c0, _⟩ := kept_box (v := .int .i64 9) hB 0 rfl
    obtain ⟨c1, _⟩ := kept_box (v := .string r) hB 1 rfl
    obtain ⟨c2, _⟩ := kept_box (v := .string o) hB 2 rfl
    obtain ⟨c3, _⟩ := kept_box (v := .string b) hB 3 rfl
    obtain ⟨c4, _⟩ := kept_box (v := .int .i64 n) hB 4 rfl
    go_wp2
    go_ret
    exact ret_lit [OpsM.kje, b.data.toList] (by simp) rfl rfl (by simp) (box_below hB)
set_option maxHeartbeats 1000000 in
set_option maxRecDepth 100000 in
theorem rlwords10 (n : Int) (r o b : ByteArray) (w : World) (hn : NumM.inR n) (hr : r.size ≤ 100000) (ho : o.size ≤ 100000) (hb : b.size ≤ 100000) :
    Calls Tryz.prog 36 #[lnv 10 r o b n] w (RetStrs (OpsM.words 10 r.data.toList o.data.toList b.data.toList n) w) := by
  have E := Lib.hid (show OpsM.words 10 r.data.toList o.data.toList b.data.toList n = if OpsM.right 10 r.data.toList o.data.toList b.data.toList n then [OpsM.kjne, b.data.toList] else [] from rfl)
  have HR := Lib.hid (fun W => rright10 n r o b W hr ho hb)
  have HT := Lib.hid (fun W => rtext_any n W hn)
  have z1 : (⟨#[91]⟩ : ByteArray).size = 1 := rfl
  have z2 : (⟨#[93]⟩ : ByteArray).size = 1 := rfl
  have z4 : (⟨#[58]⟩ : ByteArray).size = 1 := rfl
  have z3 : (⟨#[91]⟩ ++ o : ByteArray).size = 1 + o.size := by rw [ByteArray.size_append]; rfl
  have hc1 := fun W => run_string_add_sum (P := Tryz.prog) (w := W) ⟨#[91]⟩ o (by omega)
  have hc2 := fun W => run_string_add_sum (P := Tryz.prog) (w := W) (⟨#[91]⟩ ++ o) ⟨#[93]⟩ (by omega)
  have hE := show (⟨#[91]⟩ ++ o ++ ⟨#[93]⟩ : ByteArray) = ⟨(OpsM.brk o.data.toList).toArray⟩ by apply ByteArray.ext; rw [ByteArray.data_append, ByteArray.data_append]; apply Array.toList_inj.1; simp [OpsM.brk]
  rw [hE] at hc2
  clear z1 z2 z3 z4 hE hr ho hb
  rw [E.out]
  clear E
  generalize OpsM.right 10 r.data.toList o.data.toList b.data.toList n = res at *
  unfold lnv at *
  cases res
  · go_enter Tryz.func36, Tryz.ntmps36
    go_wp2_with fail
    refine (HR.out _).mono ?_
    rintro e w1 ⟨rfl, hB⟩
    go_wp2
    go_ret
    exact ret_nil (box_below hB)
  · go_enter Tryz.func36, Tryz.ntmps36
    go_wp2_with fail
    refine (HR.out _).mono ?_
    rintro e w1 ⟨rfl, hB⟩
    obtain ⟨c0, _⟩ := kept_box (v := .int .i64 10) hB 0 rfl
    obtain ⟨c1, _⟩ := kept_box (v := .string r) hB 1 rfl
    obtain ⟨c2, _⟩ := kept_box (v := .string o) hB 2 rfl
    obtain ⟨c3, _⟩ := kept_box (v := .string b) hB 3 rfl
    obtain ⟨c4, _⟩ := kept_box (v := .int .i64 n) hB 4 rfl
    go_wp2
    go_ret
    exact ret_lit [OpsM.kjne, b.data.toList] (by simp) rfl rfl (by simp) (box_below hB)
set_option maxHeartbeats 1000000 in
set_option maxRecDepth 100000 in
theorem rlwords11 (n : Int) (r o b : ByteArray) (w : World) (hn : NumM.inR n) (hr : r.size ≤ 100000) (ho : o.size ≤ 100000) (hb : b.size ≤ 100000) :
    Calls Tryz.prog 36 #[lnv 11 r o b n] w (RetStrs (OpsM.words 11 r.data.toList o.data.toList b.data.toList n) w) := by
  have E := Lib.hid (show OpsM.words 11 r.data.toList o.data.toList b.data.toList n = if OpsM.right 11 r.data.toList o.data.toList b.data.toList n then [OpsM.col b.data.toList] else [] from rfl)
  have HR := Lib.hid (fun W => rright11 n r o b W hr ho hb)
  have HT := Lib.hid (fun W => rtext_any n W hn)
  have z1 : (⟨#[91]⟩ : ByteArray).size = 1 := rfl
  have z2 : (⟨#[93]⟩ : ByteArray).size = 1 := rfl
  have z4 : (⟨#[58]⟩ : ByteArray).size = 1 := rfl
  have z3 : (⟨#[91]⟩ ++ o : ByteArray).size = 1 + o.size := by rw [ByteArray.size_append]; rfl
  have hc1 := fun W => run_string_add_sum (P := Tryz.prog) (w := W) ⟨#[91]⟩ o (by omega)
  have hc2 := fun W => run_string_add_sum (P := Tryz.prog) (w := W) (⟨#[91]⟩ ++ o) ⟨#[93]⟩ (by omega)
  have hE := show (⟨#[91]⟩ ++ o ++ ⟨#[93]⟩ : ByteArray) = ⟨(OpsM.brk o.data.toList).toArray⟩ by apply ByteArray.ext; rw [ByteArray.data_append, ByteArray.data_append]; apply Array.toList_inj.1; simp [OpsM.brk]
  rw [hE] at hc2
  have hc3 := fun W => run_string_add_sum (P := Tryz.prog) (w := W) b ⟨#[58]⟩ (by omega)
  have hE2 := show (b ++ ⟨#[58]⟩ : ByteArray) = ⟨(OpsM.col b.data.toList).toArray⟩ by apply ByteArray.ext; rw [ByteArray.data_append]; apply Array.toList_inj.1; simp [OpsM.col]
  rw [hE2] at hc3
  clear hE2
  clear z1 z2 z3 z4 hE hr ho hb
  rw [E.out]
  clear E
  generalize OpsM.right 11 r.data.toList o.data.toList b.data.toList n = res at *
  unfold lnv at *
  cases res
  · go_enter Tryz.func36, Tryz.ntmps36
    go_wp2_with fail
    refine (HR.out _).mono ?_
    rintro e w1 ⟨rfl, hB⟩
    go_wp2
    go_ret
    exact ret_nil (box_below hB)
  · go_enter Tryz.func36, Tryz.ntmps36
    go_wp2_with fail
    refine (HR.out _).mono ?_
    rintro e w1 ⟨rfl, hB⟩
    obtain ⟨c0, _⟩ := kept_box (v := .int .i64 11) hB 0 rfl
    obtain ⟨c1, _⟩ := kept_box (v := .string r) hB 1 rfl
    obtain ⟨c2, _⟩ := kept_box (v := .string o) hB 2 rfl
    obtain ⟨c3, _⟩ := kept_box (v := .string b) hB 3 rfl
    obtain ⟨c4, _⟩ := kept_box (v := .int .i64 n) hB 4 rfl
    go_wp2
    go_ret
    exact ret_lit [OpsM.col b.data.toList] (by simp) rfl rfl (by simp) (box_below hB)
set_option maxHeartbeats 1000000 in
set_option maxRecDepth 100000 in
theorem rlwordsNo (op n : Int) (r o b : ByteArray) (w : World) (h : op < 1 ∨ 11 < op) :
    Calls Tryz.prog 36 #[lnv op r o b n] w (RetStrs [] w) := by
  have HR := Lib.hid (fun W => rrightNo op n r o b W h)
  clear h
  unfold lnv at *
  go_enter Tryz.func36, Tryz.ntmps36
  go_wp2_with fail
  refine (HR.out _).mono ?_
  rintro e w1 ⟨rfl, hB⟩
  go_wp2
  go_ret
  exact ret_nil (box_below hB)
theorem rlwords_any (op n : Int) (r o b : ByteArray) (w : World) (hn : NumM.inR n) (hr : r.size ≤ 100000) (ho : o.size ≤ 100000) (hb : b.size ≤ 100000) :
    Calls Tryz.prog 36 #[lnv op r o b n] w (RetStrs (OpsM.words op r.data.toList o.data.toList b.data.toList n) w) := by
  by_cases h1 : op = 1
  · subst h1; exact rlwords1 n r o b w hn hr ho hb
  by_cases h2 : op = 2
  · subst h2; exact rlwords2 n r o b w hn hr ho hb
  by_cases h3 : op = 3
  · subst h3; exact rlwords3 n r o b w hn hr ho hb
  by_cases h4 : op = 4
  · subst h4; exact rlwords4 n r o b w hn hr ho hb
  by_cases h5 : op = 5
  · subst h5; exact rlwords5 n r o b w hn hr ho hb
  by_cases h6 : op = 6
  · subst h6; exact rlwords6 n r o b w hn hr ho hb
  by_cases h7 : op = 7
  · subst h7; exact rlwords7 n r o b w hn hr ho hb
  by_cases h8 : op = 8
  · subst h8; exact rlwords8 n r o b w hn hr ho hb
  by_cases h9 : op = 9
  · subst h9; exact rlwords9 n r o b w hn hr ho hb
  by_cases h10 : op = 10
  · subst h10; exact rlwords10 n r o b w hn hr ho hb
  by_cases h11 : op = 11
  · subst h11; exact rlwords11 n r o b w hn hr ho hb
  rw [show OpsM.words op r.data.toList o.data.toList b.data.toList n = [] by unfold OpsM.words; rw [right_no op n _ _ _ h1 h2 h3 h4 h5 h6 h7 h8 h9 h10 h11]; rfl]
  exact rlwordsNo op n r o b w (by omega)
end Go.Proofs.YtkkjodjachbifaaGreatDoor
namespace Go.Proofs.YtkkjodjachbifaaGreatDoor
open Go.RowKit
set_option linter.unusedVariables false
set_option linter.unusedSimpArgs false
open WordM (L)

theorem rrightw_any (l : OpsM.Ln) (w : World) (hr : l.reg.length ≤ 100000) (ho : l.loc.length ≤ 100000) (hb : l.label.length ≤ 100000) :
    Calls Tryz.prog 23 #[lnw l] w fun e w' => e = .returned (.bool (OpsM.rightL l)) ∧ Below w.heap.size w w' := rright_any _ _ _ _ _ w (by rw [size_l]; exact hr) (by rw [size_l]; exact ho) (by rw [size_l]; exact hb)
theorem rwordsw_any (l : OpsM.Ln) (w : World) (hn : NumM.inR l.n) (hr : l.reg.length ≤ 100000) (ho : l.loc.length ≤ 100000) (hb : l.label.length ≤ 100000) :
    Calls Tryz.prog 36 #[lnw l] w (RetStrs (OpsM.wordsL l) w) :=
  rlwords_any _ _ _ _ _ w hn (by rw [size_l]; exact hr) (by rw [size_l]; exact ho) (by rw [size_l]; exact hb)
/-- What is known of the words, their candidates, and what comes out. -/
structure GFacts (w : World) (v : Value) (ls : List L) (cs : List OpsM.Ln) (res : OpsM.Ln × Bool) : Prop where
  S : Strs w.heap.size w v ls
  L : ∀ l ∈ cs, l.reg.length ≤ 100000 ∧ l.loc.length ≤ 100000 ∧ l.label.length ≤ 100000
  R : ∀ l ∈ cs, NumM.inR l.n
  F : ∀ k (h : k < cs.length), (∀ j (h : j < cs.length), j < k → OpsM.okL ls cs[j] = false) → OpsM.okL ls cs[k] = true → res = (cs[k], true)
  M : (∀ j (h : j < cs.length), j < cs.length → OpsM.okL ls cs[j] = false) → res = (OpsM.zero, false)
theorem cands_at {w : World} {g : Nat} {cs : List OpsM.Ln} {arr z : Array Value} {t : TypeId} (hg : g = w.heap.size) (ha : arr = (lncs cs).toArray ++ z) : Cands (w.alloc (.cells arr t)) g cs := by
  subst hg; subst ha; exact cands_new w cs z t
theorem cands_drew {w : World} {g : Nat} {cs : List OpsM.Ln} (h : Cands w g cs) : Cands w.drew g cs := h
theorem grel_start {ls : List L} {cs : List OpsM.Ln} {w W : World} {g : Nat} {t : TypeId} (hB : Below (w.heap.size + 1) (w.alloc (.cells #[.int .i64 0, .string ⟨#[]⟩, .string ⟨#[]⟩, .string ⟨#[]⟩, .int .i64 0] t)) W) (hC : Cands W g cs) : GRel ls cs w g (.int .i64 0) W :=
  ⟨0, Nat.zero_le _, rfl, fun j _ h => absurd h (Nat.not_lt_zero j), ((Below.refl _ _).alloc (Nat.le_refl _) _).trans (hB.mono (by omega)), hC, box0_new hB⟩
end Go.Proofs.YtkkjodjachbifaaGreatDoor
