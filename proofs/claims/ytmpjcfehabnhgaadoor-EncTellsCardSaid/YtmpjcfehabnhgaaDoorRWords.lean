/-
  the document's cut and Words, over any world.
-/
import Derived.Test.YtmpjcfehabnhgaaDoorK00
namespace Go.Proofs.YtmpjcfehabnhgaaDoor
open Go.RowKit
open WordM (L)
set_option linter.unusedVariables false
/-- At a round of the document's cut: i bytes are read, those from k on are not cut off yet. -/
def CutRel (s : ByteArray) (c : UInt8) (w : World) (v i from_ : Value) (wr : World) : Prop :=
  ∃ (k f : Nat) (out : List L), k ≤ s.size ∧ f ≤ k ∧ i = .int .i64 k ∧ from_ = .int .i64 f ∧ out.length ≤ k ∧
    WordM.split c s.data.toList = out ++ WordM.split c (s.data.toList.drop f) ∧ (∀ j (h : j < s.size), f ≤ j → j < k → s[j] ≠ c) ∧
    wr.ownsRow w.heap.size 9 1 v out.length (svs out) ∧ Below w.heap.size w wr
theorem drop_part (s : ByteArray) (f k : Nat) (hf : f ≤ k) (hk : k ≤ s.size) : s.data.toList.drop f = (s.extract f k).data.toList ++ s.data.toList.drop k := by
  rw [Lib.extract_data]
  have := List.take_append_drop (k - f) (s.data.toList.drop f)
  rw [List.drop_drop, show f + (k - f) = k by omega] at this
  exact this.symm
theorem part_free (s : ByteArray) (c : UInt8) (f k : Nat) (hf : f ≤ k) (hk : k ≤ s.size) (h : ∀ j (h : j < s.size), f ≤ j → j < k → s[j] ≠ c) : c ∉ (s.extract f k).data.toList := by
  intro hm
  rw [Lib.extract_data, List.mem_iff_getElem] at hm
  obtain ⟨j, hj, e⟩ := hm
  have hl := Lib.size_eq s
  simp only [List.length_take, List.length_drop] at hj
  refine h (f + j) (by omega) (by omega) (by omega) ?_
  rw [← e]
  simp [List.getElem_take, List.getElem_drop]
  rfl
theorem rcut_hit {s : ByteArray} {c : UInt8} {w wr w1 : World} {v v' : Value} {k f : Nat} {out : List L} {o : Obj} (hk : k < s.size) (hf : f ≤ k) (ho : out.length ≤ k)
    (hs : WordM.split c s.data.toList = out ++ WordM.split c (s.data.toList.drop f)) (hno : ∀ j (h : j < s.size), f ≤ j → j < k → s[j] ≠ c) (hc : s[k] = c)
    (hown : wr.ownsRow w.heap.size 9 1 v out.length (svs out)) (hB : Below w.heap.size w wr)
    (hown' : w1.ownsRow w.heap.size 9 1 v' (out.length + 1) (svs out ++ [.string (s.extract f k)])) (hg : (wr.alloc o).grownBy w1 v.ownBlock) :
    CutRel s c w v' (.int .i64 ((k : Int) + 1)) (.int .i64 ((k : Int) + 1)) w1 := by
  refine ⟨k + 1, k + 1, out ++ [(s.extract f k).data.toList], by omega, by omega, by go_num, by go_num, by simp; omega, ?_, fun j _ h1 h2 => by omega, ?_, ?_⟩
  · rw [hs, drop_part s f k hf (by omega), drop_at s k hk, hc, WordM.split_app c _ _ (part_free s c f k hf (by omega) hno)]; simp
  · rw [svs_snoc, sv_data, List.length_append]; exact hown'
  · exact below_append (hB.alloc hB.size o) (hown.alloc o) (Nat.le_refl _) (by have := hB.size; simp; omega) hg
theorem rcut_miss {s : ByteArray} {c : UInt8} {w wr : World} {v : Value} {k f : Nat} {out : List L} (hk : k < s.size) (hf : f ≤ k) (ho : out.length ≤ k)
    (hs : WordM.split c s.data.toList = out ++ WordM.split c (s.data.toList.drop f)) (hno : ∀ j (h : j < s.size), f ≤ j → j < k → s[j] ≠ c) (hc : s[k] ≠ c)
    (hown : wr.ownsRow w.heap.size 9 1 v out.length (svs out)) (hB : Below w.heap.size w wr) :
    CutRel s c w v (.int .i64 ((k : Int) + 1)) (.int .i64 f) wr :=
  ⟨k + 1, f, out, by omega, by omega, by go_num, rfl, by omega, hs, fun j h h1 h2 => by
    by_cases e : j = k
    · subst e; exact hc
    · exact hno j h h1 (by omega), hown, hB⟩
theorem rcut_end {s : ByteArray} {c : UInt8} {w wr w1 : World} {v v' : Value} {f : Nat} {out : List L} {o : Obj} (hf : f ≤ s.size)
    (hs : WordM.split c s.data.toList = out ++ WordM.split c (s.data.toList.drop f)) (hno : ∀ j (h : j < s.size), f ≤ j → j < s.size → s[j] ≠ c)
    (hown : wr.ownsRow w.heap.size 9 1 v out.length (svs out)) (hB : Below w.heap.size w wr)
    (hown' : w1.ownsRow w.heap.size 9 1 v' (out.length + 1) (svs out ++ [.string (s.extract f s.size)])) (hg : (wr.alloc o).grownBy w1 v.ownBlock) :
    RetStrs (WordM.split c s.data.toList) w (.returned v') w1 := by
  have e : WordM.split c s.data.toList = out ++ [(s.extract f s.size).data.toList] := by
    rw [hs, drop_part s f s.size hf (Nat.le_refl _), show s.data.toList.drop s.size = [] by rw [Lib.size_eq]; simp, List.append_nil, WordM.split_none c _ (part_free s c f s.size hf (Nat.le_refl _) hno)]
  refine ⟨v', rfl, ?_, below_append (hB.alloc hB.size o) (hown.alloc o) (Nat.le_refl _) (by have := hB.size; simp; omega) hg⟩
  rw [e, svs_snoc, sv_data, List.length_append]; exact hown'
set_option maxHeartbeats 1000000 in
set_option maxRecDepth 100000 in
theorem rcut_any (s : ByteArray) (c : UInt8) (w : World) (hs : s.size ≤ 1000000000000) :
    Calls Tryd.prog 46 #[.string s, .int .u8 c.toNat] w (RetStrs (WordM.split c s.data.toList) w) := by
  obtain ⟨i0, hi, hz0, hz1, hz2⟩ := info_parts info_string
  go_enter Tryd.func46, Tryd.ntmps46
  go_wp2
  go_loopw [5, 6, 7] (fun v f i wr => CutRel s c w v i f wr) (fun _ _ i _ => s.size - (intOf i).toNat)
  case atStart => exact ⟨0, 0, [], Nat.zero_le _, Nat.le_refl _, rfl, rfl, Nat.le_refl _, rfl, fun j _ _ h => absurd h (by omega), World.ownsRow_nil _ _ _ _, Below.refl _ _⟩
  case round =>
    obtain ⟨k, f, out, hk, hf, rfl, rfl, ho, hsp, hno, hown, hB⟩ := hrel
    have HS := Lib.hid hsp
    have HN := Lib.hid hno
    clear hsp hno
    by_cases hlt : k < s.size
    · by_cases hc : s[k] = c
      · have q : ((s[k].toNat : Int) == (c.toNat : Int)) = true := by rw [u8_beq]; exact decide_eq_true hc
        have HC := Lib.hid hc
        clear hc
        go_wp2_with (at_builtin; refine wpList_append_own _ rfl _ _ 58 rfl w.heap.size 9 i0 (.string ⟨#[]⟩) 1 16 Tryd.underlying58 hi hz0 hz1 hz2 rfl (by decide) _ _ _ rfl (hown.alloc _) ⟨wr.heap.size, 0, none⟩ 1 1 [.string (s.extract f k)] rfl rfl (cell_one_new _ _ _) (by simp [Value.oneCell']) (by unfold maxLen; omega) (by omega) (by have := hB.size; simp; omega) ?_; intro v' w1 hown' hgrow _)
        go_roundw
        case rel => exact rcut_hit hlt hf ho HS.out HN.out HC.out hown hB hown' hgrow
        case measure => simp [intOf]; omega
      · have q : ((s[k].toNat : Int) == (c.toNat : Int)) = false := by rw [u8_beq]; exact decide_eq_false hc
        have HC := Lib.hid hc
        clear hc
        go_wp2
        go_roundw
        case rel => exact rcut_miss hlt hf ho HS.out HN.out HC.out hown hB
        case measure => simp [intOf]; omega
    · obtain rfl : s.size = k := by omega
      go_wp2_with (at_builtin; refine wpList_append_own _ rfl _ _ 58 rfl w.heap.size 9 i0 (.string ⟨#[]⟩) 1 16 Tryd.underlying58 hi hz0 hz1 hz2 rfl (by decide) _ _ _ rfl (hown.alloc _) ⟨wr.heap.size, 0, none⟩ 1 1 [.string (s.extract f s.size)] rfl rfl (cell_one_new _ _ _) (by simp [Value.oneCell']) (by unfold maxLen; omega) (by omega) (by have := hB.size; simp; omega) ?_; intro v' w1 hown' hgrow _)
      go_ret
      exact rcut_end hf HS.out HN.out hown hB hown' hgrow
theorem own_pre {base e g n k cap : Nat} {w : World} {xs : List Value} (h : w.ownsRow base e 1 (.slice (some ⟨g, 0, none⟩) n cap) n xs) (hk : k ≤ n) : w.ownsRow base e 1 (.slice (some ⟨g, 0, none⟩) k cap) k (xs.take k) := by
  obtain ⟨h0, h⟩ := h
  rcases h with ⟨h, _⟩ | ⟨g', cap', cur, hv, h2, h3, h4, h5, h6, h7⟩
  · cases h
  · injection hv with e1 e2 e3
    injection e1 with e1
    injection e1 with e1
    subst e1; subst e3
    refine ⟨by simp; omega, .inr ⟨g, cap, cur, rfl, h2, h3, by omega, h5, h6, ?_⟩⟩
    rw [← h7, List.take_take]
    congr 1; omega
/-- At a round of the document's Words: of the first k pieces those that are not empty. -/
def WRel (ls : List L) (w1 : World) (v i : Value) (wr : World) : Prop :=
  ∃ k : Nat, k ≤ ls.length ∧ i = .int .i64 k ∧ wr.ownsRow w1.heap.size 9 1 v ((ls.take k).filter WordM.full).length (svs ((ls.take k).filter WordM.full)) ∧ Below w1.heap.size w1 wr
theorem take_filter (ls : List L) (k : Nat) (h : k < ls.length) : (ls.take (k + 1)).filter WordM.full = (ls.take k).filter WordM.full ++ if WordM.full ls[k] then [ls[k]] else [] := by
  rw [List.take_succ_eq_append_getElem h, List.filter_append]
  by_cases e : WordM.full ls[k] = true <;> simp [e]
theorem filter_len (ls : List L) (k : Nat) : ((ls.take k).filter WordM.full).length ≤ k := Nat.le_trans (List.length_filter_le _ _) (List.length_take_le _ _)
theorem wrel_hit {ls : List L} {w1 wr w2 : World} {v v' : Value} {k : Nat} {o : Obj} (h : k < ls.length) (hx : WordM.full ls[k] = true)
    (hown : wr.ownsRow w1.heap.size 9 1 v ((ls.take k).filter WordM.full).length (svs ((ls.take k).filter WordM.full))) (hB : Below w1.heap.size w1 wr)
    (hown' : w2.ownsRow w1.heap.size 9 1 v' (((ls.take k).filter WordM.full).length + 1) (svs ((ls.take k).filter WordM.full) ++ [.string ⟨(ls[k]).toArray⟩])) (hg : (wr.alloc o).grownBy w2 v.ownBlock) :
    WRel ls w1 v' (.int .i64 ((k : Int) + 1)) w2 := by
  refine ⟨k + 1, by omega, by go_num, ?_, below_append (hB.alloc hB.size o) (hown.alloc o) (Nat.le_refl _) (by have := hB.size; simp; omega) hg⟩
  rw [take_filter ls k h, if_pos hx, svs_snoc, List.length_append]
  exact hown'
theorem wrel_miss {ls : List L} {w1 wr : World} {v : Value} {k : Nat} (h : k < ls.length) (hx : WordM.full ls[k] = false)
    (hown : wr.ownsRow w1.heap.size 9 1 v ((ls.take k).filter WordM.full).length (svs ((ls.take k).filter WordM.full))) (hB : Below w1.heap.size w1 wr) :
    WRel ls w1 v (.int .i64 ((k : Int) + 1)) wr := by
  refine ⟨k + 1, by omega, by go_num, ?_, hB⟩
  rw [take_filter ls k h, hx]
  simpa using hown
theorem split_len (c : UInt8) (l : L) : (WordM.split c l).length ≤ l.length + 1 := by
  induction l with
  | nil => exact Nat.le_refl _
  | cons b l ih =>
    unfold WordM.split
    split
    · simp; exact ih
    · cases e : WordM.split c l with
      | nil => simp [WordM.consHd]
      | cons x r => rw [e] at ih; simp [WordM.consHd] at ih ⊢; omega
set_option maxHeartbeats 1000000 in
set_option maxRecDepth 100000 in
theorem rwords_any (s : ByteArray) (w : World) (hs : s.size ≤ 100000) :
    Calls Tryd.prog 30 #[.string s] w (RetStrs (WordM.words s.data.toList) w) := by
  have hcut := fun W => rcut_any s 32 W (by omega)
  have HF := Lib.hid (WordM.words_split s.data.toList)
  have hsl := split_len 32 s.data.toList
  rw [← Lib.size_eq] at hsl
  generalize WordM.split 32 s.data.toList = ls at *
  have HC := Lib.hid hcut
  clear hcut
  obtain ⟨i0, hi, hz0, hz1, hz2⟩ := info_parts info_string
  go_enter Tryd.func30, Tryd.ntmps30
  go_wp2_with fail
  refine (HC.out _).mono ?_
  rintro e w1 ⟨v, rfl, ho, hB1⟩
  obtain ⟨A, c, rfl, hc1, hc2, hc3⟩ := strs_own ho
  clear ho
  unfold maxLen at hc2
  go_wp2
  go_loopw [3, 5] (fun v i wr => WRel ls w1 v i wr) (fun _ i _ => ls.length - (intOf i).toNat)
  case atStart => exact ⟨0, Nat.zero_le _, rfl, World.ownsRow_nil _ _ _ _, Below.refl _ _⟩
  case round =>
    obtain ⟨k, hk, rfl, hown, hB⟩ := hrel
    have hfl := filter_len ls k
    by_cases hlt : k < ls.length
    · obtain ⟨b, f, rfl, hb, hcl⟩ := hc3 (by omega)
      obtain ⟨X, hX⟩ : ∃ X : ByteArray, X = ⟨(ls[k]).toArray⟩ := ⟨_, rfl⟩
      have hXl : X.toList = ls[k] := by rw [hX, Lib.toList_data]
      have hc := (hB.cell (p := ⟨b, f + k, none⟩) hb).trans (hcl k hlt)
      rw [show sv ls[k] = .string X by rw [hX]; rfl] at hc
      by_cases hx : WordM.full ls[k] = true
      · have q1 : (X.toList == []) = false := by rw [hXl]; simpa [WordM.full] using hx
        have q2 : ¬ X.toList = [] := by rw [hXl]; simpa [WordM.full] using hx
        have q3 : X.toList.isEmpty = false := by rw [hXl]; simpa [WordM.full] using hx
        have HX := Lib.hid hX
        have Hx := Lib.hid hx
        clear hX hXl hcl hc3 hx
        go_wp2_with (at_builtin; refine wpList_append_own _ rfl _ _ 58 rfl w1.heap.size 9 i0 (.string ⟨#[]⟩) 1 16 Tryd.underlying58 hi hz0 hz1 hz2 rfl (by decide) _ _ _ rfl (hown.alloc _) ⟨wr.heap.size, 0, none⟩ 1 1 [.string X] rfl rfl (cell_one_new _ _ _) (by simp [Value.oneCell']) (by unfold maxLen; omega) (by omega) (by have := hB.size; simp; omega) ?_; intro v' w2 hown' hgrow _)
        go_roundw
        case rel => exact wrel_hit hlt Hx.out hown hB (by rw [← HX.out]; exact hown') hgrow
        case measure => simp [intOf]; omega
      · have hx2 : WordM.full ls[k] = false := by simpa using hx
        have q2 : X.toList = [] := by rw [hXl]; simpa [WordM.full] using hx
        have q1 : (X.toList == []) = true := by rw [q2]; rfl
        have q3 : X.toList.isEmpty = true := by rw [q2]; rfl
        have Hx := Lib.hid hx2
        clear hX hXl hcl hc3 hx hx2
        go_wp2
        go_roundw
        case rel => exact wrel_miss hlt Hx.out hown hB
        case measure => simp [intOf]; omega
    · obtain rfl : ls.length = k := by omega
      clear hc3
      go_wp2
      go_ret
      refine ⟨_, rfl, ?_, chain hB1 hB⟩
      rw [List.take_length, HF.out] at hown
      exact own_base hown hB1.size
end Go.Proofs.YtmpjcfehabnhgaaDoor
