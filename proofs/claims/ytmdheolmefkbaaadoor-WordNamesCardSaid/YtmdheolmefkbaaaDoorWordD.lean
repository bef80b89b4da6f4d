/-
  THE DOCUMENT's LINES AND WORDS, over any world.
-/
import Derived.Test.YtmdheolmefkbaaaDoorWordC
namespace Go.Proofs.YtmdheolmefkbaaaDoor
open Go.RowKit
set_option linter.unusedVariables false
open WordM (L)

theorem own_pre {base e g n k cap : Nat} {w : World} {xs : List Value} (h : w.ownsRow base e 1 (.slice (some ⟨g, 0, none⟩) n cap) n xs) (hk : k ≤ n) : w.ownsRow base e 1 (.slice (some ⟨g, 0, none⟩) k cap) k (xs.take k) := by
  obtain ⟨h0, h⟩ := h
  rcases h with ⟨h, _⟩ | ⟨g', cap', cur, hv, h2, h3, h4, h5, h6, h7⟩
  · cases h
  · injection hv with e1 e2 e3
    injection e1 with e1
    injection e1 with e1
    subst e1; subst e3
    refine ⟨by simp; omega, .inr ⟨g, cap, cur, rfl, h2, h3, by omega, h5, h6, ?_⟩⟩
    rw [← h7, List.take_take]
    congr 1; omega
theorem lines_cut (s : L) : (∃ r, WordM.split 10 s = r ++ [[]] ∧ WordM.lines s = r) ∨ (∃ r x, WordM.split 10 s = r ++ [x] ∧ WordM.lines s = r ++ [x] ∧ x ≠ []) := by
  rcases WordM.split_chunks 10 s with e | ⟨e, r, x, h, hx⟩
  · exact .inl ⟨_, e, rfl⟩
  · exact .inr ⟨r, x, e.trans h, h, hx⟩
/-- A row of one text at least: where it lies, and what its last cell has. -/
theorem own_last {base T : Nat} {w : World} {v : Value} {r : List L} {x : L} (h : w.ownsRow base T 1 v (r ++ [x]).length (svs (r ++ [x]))) :
    ∃ g cap, v = .slice (some ⟨g, 0, none⟩) (r.length + 1) cap ∧ r.length + 1 ≤ cap ∧ cap ≤ maxLen ∧ w.cell? ⟨g, r.length, none⟩ = some (.string ⟨x.toArray⟩) := by
  have hs := strs_own h
  obtain ⟨A, c, rfl, h1, h2, h3⟩ := hs
  have hl : (r ++ [x]).length = r.length + 1 := by simp
  rw [hl] at h1
  obtain ⟨b, rfl, _, hc⟩ := h3 (by omega)
  refine ⟨b, c, by rw [hl], h1, h2, ?_⟩
  have := hc r.length (by omega)
  rw [this]; simp [sv]

set_option maxHeartbeats 1000000 in
set_option maxRecDepth 100000 in
theorem rlines_any (s : ByteArray) (w : World) (hs : s.size ≤ 100000) :
    Calls Tryd.prog 12 #[.string s] w (RetStrs (WordM.lines s.data.toList) w) := by
  have hcut := fun W => rcut_any s 10 W hs
  rcases lines_cut s.data.toList with ⟨r, e1, e2⟩ | ⟨r, x, e1, e2, hx⟩
  · rw [e1] at hcut
    have HC := Lib.hid hcut
    rw [e2]
    clear hcut e1 e2
    go_enter Tryd.func12, Tryd.ntmps12
    go_wp2_with fail
    refine (HC.out _).mono ?_
    rintro e w1 ⟨v, rfl, ho, hB⟩
    obtain ⟨g, cap, rfl, hc1, hc2, hc⟩ := own_last ho
    have hp := own_pre (k := r.length) (by simpa using ho) (by omega)
    have HP := Lib.hid hp
    unfold maxLen at hc2
    clear ho hp
    go_wp2
    go_ret
    refine ⟨_, rfl, ?_, hB⟩
    have h2 := HP.out
    rw [svs_app, List.take_left' (svs_len r)] at h2
    exact h2
  · rw [e1] at hcut
    have HC := Lib.hid hcut
    rw [e2]
    clear hcut e1 e2
    go_enter Tryd.func12, Tryd.ntmps12
    go_wp2_with fail
    refine (HC.out _).mono ?_
    rintro e w1 ⟨v, rfl, ho, hB⟩
    obtain ⟨g, cap, hv, hc1, hc2, hc⟩ := own_last ho
    have HP := Lib.hid ho
    subst hv
    obtain ⟨X, hX⟩ : ∃ X : ByteArray, X = ⟨x.toArray⟩ := ⟨_, rfl⟩
    have hXl : X.toList = x := by rw [hX, Lib.toList_data]
    rw [← hX] at hc
    have q1 : (X.toList == []) = false := by rw [hXl]; simpa using hx
    have q2 : ¬ X.toList = [] := by rw [hXl]; exact hx
    have q3 : X.toList.isEmpty = false := by rw [hXl]; simpa using hx
    clear hX hXl hx ho
    unfold maxLen at hc2
    go_wp2
    go_ret
    exact ⟨_, rfl, HP.out, hB⟩

/-- At a round of the document's Words: of the first k pieces those that are not empty. -/
def WRel (ls : List L) (w1 : World) (v i : Value) (wr : World) : Prop :=
  ∃ k : Nat, k ≤ ls.length ∧ i = .int .i64 k ∧ wr.ownsRow w1.heap.size 9 1 v ((ls.take k).filter WordM.full).length (svs ((ls.take k).filter WordM.full)) ∧ Below w1.heap.size w1 wr
theorem take_filter (ls : List L) (k : Nat) (h : k < ls.length) : (ls.take (k + 1)).filter WordM.full = (ls.take k).filter WordM.full ++ if WordM.full ls[k] then [ls[k]] else [] := by
  rw [List.take_succ_eq_append_getElem h, List.filter_append]
  by_cases e : WordM.full ls[k] = true <;> simp [e]
theorem filter_len (ls : List L) (k : Nat) : ((ls.take k).filter WordM.full).length ≤ k := Nat.le_trans (List.length_filter_le _ _) (List.length_take_le _ _)
theorem wrel_hit {ls : List L} {w1 wr w2 : World} {v v' : Value} {k : Nat} {o : Obj} (h : k < ls.length) (hx : WordM.full ls[k] = true)
    (hown : wr.ownsRow w1.heap.size 9 1 v ((ls.take k).filter WordM.full).length (svs ((ls.take k).filter WordM.full))) (hB : Below w1.heap.size w1 wr)
    (hown' : w2.ownsRow w1.heap.size 9 1 v' (((ls.take k).filter WordM.full).length + 1) (svs ((ls.take k).filter WordM.full) ++ [.string ⟨(ls[k]).toArray⟩])) (hg : (wr.alloc o).grownBy w2 v.ownBlock) :
    WRel ls w1 v' (.int .i64 ((k : Int) + 1)) w2 := by
  refine ⟨k + 1, by omega, by go_num, ?_, below_append (hB.alloc hB.size o) (hown.alloc o) (Nat.le_refl _) (by have := hB.size; simp; omega) hg⟩
  rw [take_filter ls k h, if_pos hx, svs_snoc, List.length_append]
  exact hown'
theorem wrel_miss {ls : List L} {w1 wr : World} {v : Value} {k : Nat} (h : k < ls.length) (hx : WordM.full ls[k] = false)
    (hown : wr.ownsRow w1.heap.size 9 1 v ((ls.take k).filter WordM.full).length (svs ((ls.take k).filter WordM.full))) (hB : Below w1.heap.size w1 wr) :
    WRel ls w1 v (.int .i64 ((k : Int) + 1)) wr := by
  refine ⟨k + 1, by omega, by go_num, ?_, hB⟩
  rw [take_filter ls k h, hx]
  simpa using hown
theorem split_len (c : UInt8) (l : L) : (WordM.split c l).length ≤ l.length + 1 := by
  induction l with
  | nil => exact Nat.le_refl _
  | cons b l ih =>
    unfold WordM.split
    split
    · simp; exact ih
    · cases e : WordM.split c l with
      | nil => simp [WordM.consHd]
      | cons x r => rw [e] at ih; simp [WordM.consHd] at ih ⊢; omega

set_option maxHeartbeats 1000000 in
set_option maxRecDepth 100000 in
theorem rwords_any (s : ByteArray) (w : World) (hs : s.size ≤ 100000) :
    Calls Tryd.prog 14 #[.string s] w (RetStrs (WordM.words s.data.toList) w) := by
  have hcut := fun W => rcut_any s 32 W hs
  have HF := Lib.hid (WordM.words_split s.data.toList)
  have hsl := split_len 32 s.data.toList
  rw [← Lib.size_eq] at hsl
  generalize WordM.split 32 s.data.toList = ls at *
  have HC := Lib.hid hcut
  clear hcut
  obtain ⟨i0, hi, hz0, hz1, hz2⟩ := info_parts info_string
  go_enter Tryd.func14, Tryd.ntmps14
  go_wp2_with fail
  refine (HC.out _).mono ?_
  rintro e w1 ⟨v, rfl, ho, hB1⟩
  obtain ⟨A, c, rfl, hc1, hc2, hc3⟩ := strs_own ho
  clear ho
  unfold maxLen at hc2
  go_wp2
  go_loopw [3, 5] (fun v i wr => WRel ls w1 v i wr) (fun _ i _ => ls.length - (intOf i).toNat)
  case atStart => exact ⟨0, Nat.zero_le _, rfl, World.ownsRow_nil _ _ _ _, Below.refl _ _⟩
  case round =>
    obtain ⟨k, hk, rfl, hown, hB⟩ := hrel
    have hfl := filter_len ls k
    by_cases hlt : k < ls.length
    · obtain ⟨b, rfl, hb, hcl⟩ := hc3 (by omega)
      obtain ⟨X, hX⟩ : ∃ X : ByteArray, X = ⟨(ls[k]).toArray⟩ := ⟨_, rfl⟩
      have hXl : X.toList = ls[k] := by rw [hX, Lib.toList_data]
      have hc := (hB.cell (p := ⟨b, k, none⟩) hb).trans (hcl k hlt)
      rw [show sv ls[k] = .string X by rw [hX]; rfl] at hc
      by_cases hx : WordM.full ls[k] = true
      · have q1 : (X.toList == []) = false := by rw [hXl]; simpa [WordM.full] using hx
        have q2 : ¬ X.toList = [] := by rw [hXl]; simpa [WordM.full] using hx
        have q3 : X.toList.isEmpty = false := by rw [hXl]; simpa [WordM.full] using hx
        have HX := Lib.hid hX
        have Hx := Lib.hid hx
        clear hX hXl hcl hc3 hx
        go_wp2_with (at_builtin; refine wpList_append_own _ rfl _ _ 24 rfl w1.heap.size 9 i0 (.string ⟨#[]⟩) 1 16 Tryd.underlying24 hi hz0 hz1 hz2 rfl (by decide) _ _ _ rfl (hown.alloc _) ⟨wr.heap.size, 0, none⟩ 1 1 [.string X] rfl rfl (cell_one_new _ _ _) (by simp [Value.oneCell']) (by unfold maxLen; omega) (by omega) (by have := hB.size; simp; omega) ?_; intro v' w2 hown' hgrow _)
        go_roundw
        case rel => exact wrel_hit hlt Hx.out hown hB (by rw [← HX.out]; exact hown') hgrow
        case measure => simp [intOf]; omega
      · have hx2 : WordM.full ls[k] = false := by simpa using hx
        have q2 : X.toList = [] := by rw [hXl]; simpa [WordM.full] using hx
        have q1 : (X.toList == []) = true := by rw [q2]; rfl
        have q3 : X.toList.isEmpty = true := by rw [q2]; rfl
        have Hx := Lib.hid hx2
        clear hX hXl hcl hc3 hx hx2
        go_wp2
        go_roundw
        case rel => exact wrel_miss hlt Hx.out hown hB
        case measure => simp [intOf]; omega
    · obtain rfl : ls.length = k := by omega
      clear hc3
      go_wp2
      go_ret
      refine ⟨_, rfl, ?_, chain hB1 hB⟩
      rw [List.take_length, HF.out] at hown
      exact own_base hown hB1.size
end Go.Proofs.YtmdheolmefkbaaaDoor
