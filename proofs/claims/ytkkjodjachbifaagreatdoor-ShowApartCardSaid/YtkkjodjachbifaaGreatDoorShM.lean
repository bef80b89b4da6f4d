/-
  PLAIN MATHEMATICS of OpsWords: the words of a right line have no blank, and with one more word behind them there is no line of three.
  the document's cut and Words, over any world.
  the document's Lines, over any world.
  The document's Same: are two programs alike?
  A LINE's TEXT, as mathematics: its words come back; unlike right lines have unlike texts.
  THE LINES OF A PROGRAM's TEXT, as mathematics; unlike right programs have unlike texts.
-/
import Derived.Test.YtkkjodjachbifaaGreatDoorOpsN
import Derived.Test.YtkkjodjachbifaaGreatDoorStrs
import Derived.Test.YtkkjodjachbifaaGreatDoorFile
import Derived.Test.YtkkjodjachbifaaGreatDoorFrame
import Derived.Deep.QuietTactic
import Derived.Test.YtkkjodjachbifaaGreatDoorShw
import Derived.Test.YtkkjodjachbifaaGreatDoorVMm
namespace Go.Proofs.YtkkjodjachbifaaGreatDoor.OpsM
open WordM (L)
set_option linter.unusedVariables false

/-- A byte that is no blank, all of them. -/
def plain (l : L) : Prop := l ≠ [] ∧ (32 : UInt8) ∉ l
theorem plain_reg {r : L} (h : regB r = true) : plain r := by
  rcases reg_cases h with rfl | rfl | rfl | rfl <;> exact ⟨by decide, by decide⟩
theorem free_name {o : L} (h : WordM.nameB o = true) : plain o := by
  unfold WordM.nameB at h
  simp only [Bool.and_eq_true] at h
  obtain ⟨h0, _, _, ha⟩ := (WordM.speltB_iff o).1 h.1.1
  refine ⟨h0, fun hm => ?_⟩
  obtain ⟨k, hk, e⟩ := List.mem_iff_getElem.1 hm
  have := ha k hk
  rw [e] at this
  exact absurd this (by decide)
theorem free_digs (n : Nat) (h : n < 10 ^ 20) : plain (NumM.digs n) :=
  ⟨NumM.digs_ne n h, fun hm => absurd (NumM.digs_digit n h 32 hm).1 (by decide)⟩
theorem plain_text {n : Int} (h : NumM.inR n) : plain (NumM.text n) := by
  have hb : n.natAbs < 10 ^ 20 := by have := NumM.natAbs_lt n h; omega
  have hd := free_digs n.natAbs hb
  unfold NumM.text
  split
  · refine ⟨by simp, fun hm => ?_⟩
    rcases List.mem_cons.1 hm with e | e
    · exact absurd e (by decide)
    · exact hd.2 e
  · exact hd
theorem plain_brk {o : L} (h : plain o) : plain (brk o) := by
  refine ⟨by simp [brk], fun hm => ?_⟩
  have hm : (32 : UInt8) ∈ (91 : UInt8) :: (o ++ [93]) := hm
  rcases List.mem_cons.1 hm with e | e
  · exact absurd e (by decide)
  · rcases List.mem_append.1 e with e | e
    · exact h.2 e
    · exact absurd e (by decide)
theorem plain_col {o : L} (h : plain o) : plain (col o) := by
  refine ⟨by simp [col], fun hm => ?_⟩
  have hm : (32 : UInt8) ∈ o ++ [58] := hm
  rcases List.mem_append.1 hm with e | e
  · exact h.2 e
  · exact absurd e (by decide)
theorem plain3 {a b c : L} (ha : plain a) (hb : plain b) (hc : plain c) : ∀ x ∈ [a, b, c], plain x := by
  intro x hx
  simp only [List.mem_cons, List.not_mem_nil, or_false] at hx
  rcases hx with rfl | rfl | rfl
  · exact ha
  · exact hb
  · exact hc
theorem plain2 {a b : L} (ha : plain a) (hb : plain b) : ∀ x ∈ [a, b], plain x := by
  intro x hx
  simp only [List.mem_cons, List.not_mem_nil, or_false] at hx
  rcases hx with rfl | rfl
  · exact ha
  · exact hb
theorem plain1 {a : L} (ha : plain a) : ∀ x ∈ [a], plain x := by
  intro x hx
  simp only [List.mem_cons, List.not_mem_nil, or_false] at hx
  exact hx ▸ ha
theorem kplain : plain kmov ∧ plain kxchg ∧ plain kmfence ∧ plain kcmp ∧ plain kjmp ∧ plain kje ∧ plain kjne :=
  ⟨⟨by decide, by decide⟩, ⟨by decide, by decide⟩, ⟨by decide, by decide⟩, ⟨by decide, by decide⟩, ⟨by decide, by decide⟩, ⟨by decide, by decide⟩, ⟨by decide, by decide⟩⟩
theorem words_plain {l : Ln} (h : rightL l = true) (hn : NumM.inR l.n) : ∀ x ∈ wordsL l, plain x := by
  obtain ⟨k1, k2, k3, k4, k5, k6, k7⟩ := kplain
  rw [words_of h]
  rcases right_cases h with ⟨ho, hk⟩ | ⟨ho, hk⟩ | ⟨ho, hk⟩ | ⟨ho, hk⟩ | ⟨ho, hk⟩ | ⟨ho, hk⟩ | ⟨ho, hk⟩ | ⟨ho, hk⟩ | ⟨ho, hk⟩ | ⟨ho, hk⟩ | ⟨ho, hk⟩
  · obtain ⟨h1, h2, h3⟩ := okNum_iff.1 hk
    rw [show wordsR l.op l.reg l.loc l.label l.n = [kmov, l.reg, NumM.text l.n] by simp [wordsR, ho]]
    exact plain3 k1 (plain_reg h1) (plain_text hn)
  · obtain ⟨h1, h2, h3, h4⟩ := okLoc_iff.1 hk
    rw [show wordsR l.op l.reg l.loc l.label l.n = [kmov, l.reg, brk l.loc] by simp [wordsR, ho]]
    exact plain3 k1 (plain_reg h1) (plain_brk (free_name h2))
  · obtain ⟨h1, h2, h3, h4⟩ := okLoc_iff.1 hk
    rw [show wordsR l.op l.reg l.loc l.label l.n = [kmov, brk l.loc, l.reg] by simp [wordsR, ho]]
    exact plain3 k1 (plain_brk (free_name h2)) (plain_reg h1)
  · obtain ⟨h1, h2, h3⟩ := okPut_iff.1 hk
    rw [show wordsR l.op l.reg l.loc l.label l.n = [kmov, brk l.loc, NumM.text l.n] by simp [wordsR, ho]]
    exact plain3 k1 (plain_brk (free_name h1)) (plain_text hn)
  · obtain ⟨h1, h2, h3, h4⟩ := okLoc_iff.1 hk
    rw [show wordsR l.op l.reg l.loc l.label l.n = [kxchg, brk l.loc, l.reg] by simp [wordsR, ho]]
    exact plain3 k2 (plain_brk (free_name h2)) (plain_reg h1)
  · rw [show wordsR l.op l.reg l.loc l.label l.n = [kmfence] by simp [wordsR, ho]]
    exact plain1 k3
  · obtain ⟨h1, h2, h3⟩ := okNum_iff.1 hk
    rw [show wordsR l.op l.reg l.loc l.label l.n = [kcmp, l.reg, NumM.text l.n] by simp [wordsR, ho]]
    exact plain3 k4 (plain_reg h1) (plain_text hn)
  · obtain ⟨h1, h2, h3, h4⟩ := okLab_iff.1 hk
    rw [show wordsR l.op l.reg l.loc l.label l.n = [kjmp, l.label] by simp [wordsR, ho]]
    exact plain2 k5 (free_name h1)
  · obtain ⟨h1, h2, h3, h4⟩ := okLab_iff.1 hk
    rw [show wordsR l.op l.reg l.loc l.label l.n = [kje, l.label] by simp [wordsR, ho]]
    exact plain2 k6 (free_name h1)
  · obtain ⟨h1, h2, h3, h4⟩ := okLab_iff.1 hk
    rw [show wordsR l.op l.reg l.loc l.label l.n = [kjne, l.label] by simp [wordsR, ho]]
    exact plain2 k7 (free_name h1)
  · obtain ⟨h1, h2, h3, h4⟩ := okLab_iff.1 hk
    rw [show wordsR l.op l.reg l.loc l.label l.n = [col l.label] by simp [wordsR, ho]]
    exact plain1 (plain_col (free_name h1))
/-- Each word of a right line is one word. -/
theorem words_single {l : Ln} (h : rightL l = true) (hn : NumM.inR l.n) : ∀ x ∈ wordsL l, WordM.words x = [x] := fun x hx =>
  WordM.words_one x (words_plain h hn x hx).2 (words_plain h hn x hx).1
theorem get_four (ws : List L) (s : L) (h : ws.length = 3) : get (ws ++ [s]) = (zero, false) := by
  match ws, h with
  | [a, b, c], _ =>
    unfold get
    rw [if_neg]
    show ¬ (rightL (made [a, b, c, s]) && decide (wordsL (made [a, b, c, s]) = [a, b, c, s])) = true
    rw [show made [a, b, c, s] = zero from rfl, show rightL zero = false by decide +kernel]
    simp
end Go.Proofs.YtkkjodjachbifaaGreatDoor.OpsM
namespace Go.Proofs.YtkkjodjachbifaaGreatDoor
open Go.RowKit
open WordM (L)
set_option linter.unusedVariables false
/-- At a round of the document's cut: i bytes are read, those from k on are not cut off yet. -/
def CutRel (s : ByteArray) (c : UInt8) (w : World) (v i from_ : Value) (wr : World) : Prop :=
  ∃ (k f : Nat) (out : List L), k ≤ s.size ∧ f ≤ k ∧ i = .int .i64 k ∧ from_ = .int .i64 f ∧ out.length ≤ k ∧
    WordM.split c s.data.toList = out ++ WordM.split c (s.data.toList.drop f) ∧ (∀ j (h : j < s.size), f ≤ j → j < k → s[j] ≠ c) ∧
    wr.ownsRow w.heap.size 9 1 v out.length (svs out) ∧ Below w.heap.size w wr
theorem drop_part (s : ByteArray) (f k : Nat) (hf : f ≤ k) (hk : k ≤ s.size) : s.data.toList.drop f = (s.extract f k).data.toList ++ s.data.toList.drop k := by
  rw [Lib.extract_data]
  have := List.take_append_drop (k - f) (s.data.toList.drop f)
  rw [List.drop_drop, show f + (k - f) = k by omega] at this
  exact this.symm
theorem part_free (s : ByteArray) (c : UInt8) (f k : Nat) (hf : f ≤ k) (hk : k ≤ s.size) (h : ∀ j (h : j < s.size), f ≤ j → j < k → s[j] ≠ c) : c ∉ (s.extract f k).data.toList := by
  intro hm
  rw [Lib.extract_data, List.mem_iff_getElem] at hm
  obtain ⟨j, hj, e⟩ := hm
  have hl := Lib.size_eq s
  simp only [List.length_take, List.length_drop] at hj
  refine h (f + j) (by omega) (by omega) (by omega) ?_
  rw [← e]
  simp [List.getElem_take, List.getElem_drop]
  rfl
theorem rcut_hit {s : ByteArray} {c : UInt8} {w wr w1 : World} {v v' : Value} {k f : Nat} {out : List L} {o : Obj} (hk : k < s.size) (hf : f ≤ k) (ho : out.length ≤ k)
    (hs : WordM.split c s.data.toList = out ++ WordM.split c (s.data.toList.drop f)) (hno : ∀ j (h : j < s.size), f ≤ j → j < k → s[j] ≠ c) (hc : s[k] = c)
    (hown : wr.ownsRow w.heap.size 9 1 v out.length (svs out)) (hB : Below w.heap.size w wr)
    (hown' : w1.ownsRow w.heap.size 9 1 v' (out.length + 1) (svs out ++ [.string (s.extract f k)])) (hg : (wr.alloc o).grownBy w1 v.ownBlock) :
    CutRel s c w v' (.int .i64 ((k : Int) + 1)) (.int .i64 ((k : Int) + 1)) w1 := by
  refine ⟨k + 1, k + 1, out ++ [(s.extract f k).data.toList], by omega, by omega, by go_num, by go_num, by simp; omega, ?_, fun j _ h1 h2 => by omega, ?_, ?_⟩
  · rw [hs, drop_part s f k hf (by omega), drop_at s k hk, hc, WordM.split_app c _ _ (part_free s c f k hf (by omega) hno)]; simp
  · rw [svs_snoc, sv_data, List.length_append]; exact hown'
  · exact below_append (hB.alloc hB.size o) (hown.alloc o) (Nat.le_refl _) (by have := hB.size; simp; omega) hg
theorem rcut_miss {s : ByteArray} {c : UInt8} {w wr : World} {v : Value} {k f : Nat} {out : List L} (hk : k < s.size) (hf : f ≤ k) (ho : out.length ≤ k)
    (hs : WordM.split c s.data.toList = out ++ WordM.split c (s.data.toList.drop f)) (hno : ∀ j (h : j < s.size), f ≤ j → j < k → s[j] ≠ c) (hc : s[k] ≠ c)
    (hown : wr.ownsRow w.heap.size 9 1 v out.length (svs out)) (hB : Below w.heap.size w wr) :
    CutRel s c w v (.int .i64 ((k : Int) + 1)) (.int .i64 f) wr :=
  ⟨k + 1, f, out, by omega, by omega, by go_num, rfl, by omega, hs, fun j h h1 h2 => by
    by_cases e : j = k
    · subst e; exact hc
    · exact hno j h h1 (by omega), hown, hB⟩
theorem rcut_end {s : ByteArray} {c : UInt8} {w wr w1 : World} {v v' : Value} {f : Nat} {out : List L} {o : Obj} (hf : f ≤ s.size)
    (hs : WordM.split c s.data.toList = out ++ WordM.split c (s.data.toList.drop f)) (hno : ∀ j (h : j < s.size), f ≤ j → j < s.size → s[j] ≠ c)
    (hown : wr.ownsRow w.heap.size 9 1 v out.length (svs out)) (hB : Below w.heap.size w wr)
    (hown' : w1.ownsRow w.heap.size 9 1 v' (out.length + 1) (svs out ++ [.string (s.extract f s.size)])) (hg : (wr.alloc o).grownBy w1 v.ownBlock) :
    RetStrs (WordM.split c s.data.toList) w (.returned v') w1 := by
  have e : WordM.split c s.data.toList = out ++ [(s.extract f s.size).data.toList] := by
    rw [hs, drop_part s f s.size hf (Nat.le_refl _), show s.data.toList.drop s.size = [] by rw [Lib.size_eq]; simp, List.append_nil, WordM.split_none c _ (part_free s c f s.size hf (Nat.le_refl _) hno)]
  refine ⟨v', rfl, ?_, below_append (hB.alloc hB.size o) (hown.alloc o) (Nat.le_refl _) (by have := hB.size; simp; omega) hg⟩
  rw [e, svs_snoc, sv_data, List.length_append]; exact hown'
set_option maxHeartbeats 1000000 in
set_option maxRecDepth 100000 in
theorem rcut_any (s : ByteArray) (c : UInt8) (w : World) (hs : s.size ≤ 1000000000000) :
    Calls Tryz.prog 39 #[.string s, .int .u8 c.toNat] w (RetStrs (WordM.split c s.data.toList) w) := by
  obtain ⟨i0, hi, hz0, hz1, hz2⟩ := info_parts info_string
  go_enter Tryz.func39, Tryz.ntmps39
  go_wp2
  go_loopw [5, 6, 7] (fun v f i wr => CutRel s c w v i f wr) (fun _ _ i _ => s.size - (intOf i).toNat)
  case atStart => exact ⟨0, 0, [], Nat.zero_le _, Nat.le_refl _, rfl, rfl, Nat.le_refl _, rfl, fun j _ _ h => absurd h (by omega), World.ownsRow_nil _ _ _ _, Below.refl _ _⟩
  case round =>
    obtain ⟨k, f, out, hk, hf, rfl, rfl, ho, hsp, hno, hown, hB⟩ := hrel
    have HS := Lib.hid hsp
    have HN := Lib.hid hno
    clear hsp hno
    by_cases hlt : k < s.size
    · by_cases hc : s[k] = c
      · have q : ((s[k].toNat : Int) == (c.toNat : Int)) = true := by rw [u8_beq]; exact decide_eq_true hc
        have HC := Lib.hid hc
        clear hc
        go_wp2_with (at_builtin; refine wpList_append_own _ rfl _ _ 40 rfl w.heap.size 9 i0 (.string ⟨#[]⟩) 1 16 Tryz.underlying40 hi hz0 hz1 hz2 rfl (by decide) _ _ _ rfl (hown.alloc _) ⟨wr.heap.size, 0, none⟩ 1 1 [.string (s.extract f k)] rfl rfl (cell_one_new _ _ _) (by simp [Value.oneCell']) (by unfold maxLen; omega) (by omega) (by have := hB.size; simp; omega) ?_; intro v' w1 hown' hgrow _)
        go_roundw
        case rel => exact rcut_hit hlt hf ho HS.out HN.out HC.out hown hB hown' hgrow
        case measure => simp [intOf]; omega
      · have q : ((s[k].toNat : Int) == (c.toNat : Int)) = false := by rw [u8_beq]; exact decide_eq_false hc
        have HC := Lib.hid hc
        clear hc
        go_wp2
        go_roundw
        case rel => exact rcut_miss hlt hf ho HS.out HN.out HC.out hown hB
        case measure => simp [intOf]; omega
    · obtain rfl : s.size = k := by omega
      go_wp2_with (at_builtin; refine wpList_append_own _ rfl _ _ 40 rfl w.heap.size 9 i0 (.string ⟨#[]⟩) 1 16 Tryz.underlying40 hi hz0 hz1 hz2 rfl (by decide) _ _ _ rfl (hown.alloc _) ⟨wr.heap.size, 0, none⟩ 1 1 [.string (s.extract f s.size)] rfl rfl (cell_one_new _ _ _) (by simp [Value.oneCell']) (by unfold maxLen; omega) (by omega) (by have := hB.size; simp; omega) ?_; intro v' w1 hown' hgrow _)
      go_ret
      exact rcut_end hf HS.out HN.out hown hB hown' hgrow
theorem own_pre {base e g n k cap : Nat} {w : World} {xs : List Value} (h : w.ownsRow base e 1 (.slice (some ⟨g, 0, none⟩) n cap) n xs) (hk : k ≤ n) : w.ownsRow base e 1 (.slice (some ⟨g, 0, none⟩) k cap) k (xs.take k) := by
  obtain ⟨h0, h⟩ := h
  rcases h with ⟨h, _⟩ | ⟨g', cap', cur, hv, h2, h3, h4, h5, h6, h7⟩
  · cases h
  · injection hv with e1 e2 e3
    injection e1 with e1
    injection e1 with e1
    subst e1; subst e3
    refine ⟨by simp; omega, .inr ⟨g, cap, cur, rfl, h2, h3, by omega, h5, h6, ?_⟩⟩
    rw [← h7, List.take_take]
    congr 1; omega
/-- At a round of the document's Words: of the first k pieces those that are not empty. -/
def WRel (ls : List L) (w1 : World) (v i : Value) (wr : World) : Prop :=
  ∃ k : Nat, k ≤ ls.length ∧ i = .int .i64 k ∧ wr.ownsRow w1.heap.size 9 1 v ((ls.take k).filter WordM.full).length (svs ((ls.take k).filter WordM.full)) ∧ Below w1.heap.size w1 wr
theorem take_filter (ls : List L) (k : Nat) (h : k < ls.length) : (ls.take (k + 1)).filter WordM.full = (ls.take k).filter WordM.full ++ if WordM.full ls[k] then [ls[k]] else [] := by
  rw [List.take_succ_eq_append_getElem h, List.filter_append]
  by_cases e : WordM.full ls[k] = true <;> simp [e]
theorem filter_len (ls : List L) (k : Nat) : ((ls.take k).filter WordM.full).length ≤ k := Nat.le_trans (List.length_filter_le _ _) (List.length_take_le _ _)
theorem wrel_hit {ls : List L} {w1 wr w2 : World} {v v' : Value} {k : Nat} {o : Obj} (h : k < ls.length) (hx : WordM.full ls[k] = true)
    (hown : wr.ownsRow w1.heap.size 9 1 v ((ls.take k).filter WordM.full).length (svs ((ls.take k).filter WordM.full))) (hB : Below w1.heap.size w1 wr)
    (hown' : w2.ownsRow w1.heap.size 9 1 v' (((ls.take k).filter WordM.full).length + 1) (svs ((ls.take k).filter WordM.full) ++ [.string ⟨(ls[k]).toArray⟩])) (hg : (wr.alloc o).grownBy w2 v.ownBlock) :
    WRel ls w1 v' (.int .i64 ((k : Int) + 1)) w2 := by
  refine ⟨k + 1, by omega, by go_num, ?_, below_append (hB.alloc hB.size o) (hown.alloc o) (Nat.le_refl _) (by have := hB.size; simp; omega) hg⟩
  rw [take_filter ls k h, if_pos hx, svs_snoc, List.length_append]
  exact hown'
theorem wrel_miss {ls : List L} {w1 wr : World} {v : Value} {k : Nat} (h : k < ls.length) (hx : WordM.full ls[k] = false)
    (hown : wr.ownsRow w1.heap.size 9 1 v ((ls.take k).filter WordM.full).length (svs ((ls.take k).filter WordM.full))) (hB : Below w1.heap.size w1 wr) :
    WRel ls w1 v (.int .i64 ((k : Int) + 1)) wr := by
  refine ⟨k + 1, by omega, by go_num, ?_, hB⟩
  rw [take_filter ls k h, hx]
  simpa using hown
theorem split_len (c : UInt8) (l : L) : (WordM.split c l).length ≤ l.length + 1 := by
  induction l with
  | nil => exact Nat.le_refl _
  | cons b l ih =>
    unfold WordM.split
    split
    · simp; exact ih
    · cases e : WordM.split c l with
      | nil => simp [WordM.consHd]
      | cons x r => rw [e] at ih; simp [WordM.consHd] at ih ⊢; omega
set_option maxHeartbeats 1000000 in
set_option maxRecDepth 100000 in
theorem rwords_any (s : ByteArray) (w : World) (hs : s.size ≤ 100000) :
    Calls Tryz.prog 20 #[.string s] w (RetStrs (WordM.words s.data.toList) w) := by
  have hcut := fun W => rcut_any s 32 W (by omega)
  have HF := Lib.hid (WordM.words_split s.data.toList)
  have hsl := split_len 32 s.data.toList
  rw [← Lib.size_eq] at hsl
  generalize WordM.split 32 s.data.toList = ls at *
  have HC := Lib.hid hcut
  clear hcut
  obtain ⟨i0, hi, hz0, hz1, hz2⟩ := info_parts info_string
  go_enter Tryz.func20, Tryz.ntmps20
  go_wp2_with fail
  refine (HC.out _).mono ?_
  rintro e w1 ⟨v, rfl, ho, hB1⟩
  obtain ⟨A, c, rfl, hc1, hc2, hc3⟩ := strs_own ho
  clear ho
  unfold maxLen at hc2
  go_wp2
  go_loopw [3, 5] (fun v i wr => WRel ls w1 v i wr) (fun _ i _ => ls.length - (intOf i).toNat)
  case atStart => exact ⟨0, Nat.zero_le _, rfl, World.ownsRow_nil _ _ _ _, Below.refl _ _⟩
  case round =>
    obtain ⟨k, hk, rfl, hown, hB⟩ := hrel
    have hfl := filter_len ls k
    by_cases hlt : k < ls.length
    · obtain ⟨b, f, rfl, hb, hcl⟩ := hc3 (by omega)
      obtain ⟨X, hX⟩ : ∃ X : ByteArray, X = ⟨(ls[k]).toArray⟩ := ⟨_, rfl⟩
      have hXl : X.toList = ls[k] := by rw [hX, Lib.toList_data]
      have hc := (hB.cell (p := ⟨b, f + k, none⟩) hb).trans (hcl k hlt)
      rw [show sv ls[k] = .string X by rw [hX]; rfl] at hc
      by_cases hx : WordM.full ls[k] = true
      · have q1 : (X.toList == []) = false := by rw [hXl]; simpa [WordM.full] using hx
        have q2 : ¬ X.toList = [] := by rw [hXl]; simpa [WordM.full] using hx
        have q3 : X.toList.isEmpty = false := by rw [hXl]; simpa [WordM.full] using hx
        have HX := Lib.hid hX
        have Hx := Lib.hid hx
        clear hX hXl hcl hc3 hx
        go_wp2_with (at_builtin; refine wpList_append_own _ rfl _ _ 40 rfl w1.heap.size 9 i0 (.string ⟨#[]⟩) 1 16 Tryz.underlying40 hi hz0 hz1 hz2 rfl (by decide) _ _ _ rfl (hown.alloc _) ⟨wr.heap.size, 0, none⟩ 1 1 [.string X] rfl rfl (cell_one_new _ _ _) (by simp [Value.oneCell']) (by unfold maxLen; omega) (by omega) (by have := hB.size; simp; omega) ?_; intro v' w2 hown' hgrow _)
        go_roundw
        case rel => exact wrel_hit hlt Hx.out hown hB (by rw [← HX.out]; exact hown') hgrow
        case measure => simp [intOf]; omega
      · have hx2 : WordM.full ls[k] = false := by simpa using hx
        have q2 : X.toList = [] := by rw [hXl]; simpa [WordM.full] using hx
        have q1 : (X.toList == []) = true := by rw [q2]; rfl
        have q3 : X.toList.isEmpty = true := by rw [q2]; rfl
        have Hx := Lib.hid hx2
        clear hX hXl hcl hc3 hx hx2
        go_wp2
        go_roundw
        case rel => exact wrel_miss hlt Hx.out hown hB
        case measure => simp [intOf]; omega
    · obtain rfl : ls.length = k := by omega
      clear hc3
      go_wp2
      go_ret
      refine ⟨_, rfl, ?_, chain hB1 hB⟩
      rw [List.take_length, HF.out] at hown
      exact own_base hown hB1.size
end Go.Proofs.YtkkjodjachbifaaGreatDoor
namespace Go.Proofs.YtkkjodjachbifaaGreatDoor
open Go.RowKit
set_option linter.unusedVariables false
set_option linter.unusedSimpArgs false
open WordM (L)
theorem lines_cut (s : L) : (∃ r, WordM.split 10 s = r ++ [[]] ∧ WordM.lines s = r) ∨ (∃ r x, WordM.split 10 s = r ++ [x] ∧ WordM.lines s = r ++ [x] ∧ x ≠ []) := by
  rcases WordM.split_chunks 10 s with e | ⟨e, r, x, h, hx⟩
  · exact .inl ⟨_, e, rfl⟩
  · exact .inr ⟨r, x, e.trans h, h, hx⟩
/-- A row of one text at least: where it lies, and what its last cell has. -/
theorem own_last {base T : Nat} {w : World} {v : Value} {r : List L} {x : L} (h : w.ownsRow base T 1 v (r ++ [x]).length (svs (r ++ [x]))) :
    ∃ g cap, v = .slice (some ⟨g, 0, none⟩) (r.length + 1) cap ∧ r.length + 1 ≤ cap ∧ cap ≤ maxLen ∧ w.cell? ⟨g, r.length, none⟩ = some (.string ⟨x.toArray⟩) := by
  have hl : (r ++ [x]).length = r.length + 1 := by simp
  obtain ⟨h0, h⟩ := h
  rcases h with ⟨rfl, h1⟩ | ⟨g, cap, cur, rfl, h2, h3, h4, h5, h6, h7⟩
  · omega
  · refine ⟨g, cap, by rw [hl], by omega, h5, ?_⟩
    have : w.cell? ⟨g, r.length, none⟩ = cur[r.length]? := by simp [World.cell?, h3]
    rw [this]
    have e : (svs (r ++ [x]))[r.length]? = some (sv x) := by simp [svs]
    rw [← h7, List.getElem?_take_of_lt (by omega), Array.getElem?_toList] at e
    exact e
set_option maxHeartbeats 1000000 in
set_option maxRecDepth 100000 in
theorem rlines_any (s : ByteArray) (w : World) (hs : s.size ≤ 1000000000000) :
    Calls Tryz.prog 19 #[.string s] w (RetStrs (WordM.lines s.data.toList) w) := by
  have hcut := fun W => rcut_any s 10 W hs
  rcases lines_cut s.data.toList with ⟨r, e1, e2⟩ | ⟨r, x, e1, e2, hx⟩
  · rw [e1] at hcut
    have HC := Lib.hid hcut
    rw [e2]
    clear hcut e1 e2
    go_enter Tryz.func19, Tryz.ntmps19
    go_wp2_with fail
    refine (HC.out _).mono ?_
    rintro e w1 ⟨v, rfl, ho, hB⟩
    obtain ⟨g, cap, rfl, hc1, hc2, hc⟩ := own_last ho
    have hp := own_pre (k := r.length) (by simpa using ho) (by omega)
    have HP := Lib.hid hp
    unfold maxLen at hc2
    clear ho hp
    go_wp2
    go_ret
    refine ⟨_, rfl, ?_, hB⟩
    have h2 := HP.out
    rw [svs_app, List.take_left' (svs_len r)] at h2
    exact h2
  · rw [e1] at hcut
    have HC := Lib.hid hcut
    rw [e2]
    clear hcut e1 e2
    go_enter Tryz.func19, Tryz.ntmps19
    go_wp2_with fail
    refine (HC.out _).mono ?_
    rintro e w1 ⟨v, rfl, ho, hB⟩
    obtain ⟨g, cap, hv, hc1, hc2, hc⟩ := own_last ho
    have HP := Lib.hid ho
    subst hv
    obtain ⟨X, hX⟩ : ∃ X : ByteArray, X = ⟨x.toArray⟩ := ⟨_, rfl⟩
    have hXl : X.toList = x := by rw [hX, Lib.toList_data]
    rw [← hX] at hc
    have q1 : (X.toList == []) = false := by rw [hXl]; simpa using hx
    have q2 : ¬ X.toList = [] := by rw [hXl]; exact hx
    have q3 : X.toList.isEmpty = false := by rw [hXl]; simpa using hx
    clear hX hXl hx ho
    unfold maxLen at hc2
    go_wp2
    go_ret
    exact ⟨_, rfl, HP.out, hB⟩

end Go.Proofs.YtkkjodjachbifaaGreatDoor
namespace Go.Proofs.YtkkjodjachbifaaGreatDoor
open Go.RowKit
set_option linter.unusedVariables false
set_option linter.unusedSimpArgs false
open WordM (L)
open VM

/-- What Same hands back. -/
def RetSm (F G : Fl) (w : World) (e : Ending) (w' : World) : Prop := (∃ b, e = .returned (.bool b) ∧ (b = true ↔ F = G)) ∧ Below w.heap.size w w'
theorem RetSm.no {F G : Fl} {w w' : World} (hB : Below w.heap.size w w') (h : F ≠ G) : RetSm F G w (.returned (.bool false)) w' := ⟨⟨false, rfl, ⟨fun c => (by cases c), fun c => absurd c h⟩⟩, hB⟩
theorem RetSm.yes {F G : Fl} {w w' : World} (hB : Below w.heap.size w w') (h : F = G) : RetSm F G w (.returned (.bool true)) w' := ⟨⟨true, rfl, ⟨fun _ => h, fun _ => rfl⟩⟩, hB⟩
/-- The first k of two rows are alike. -/
def Up {α : Type} (a b : List α) (k : Nat) : Prop := ∀ j (h : j < a.length) (h' : j < b.length), j < k → a[j] = b[j]
theorem Up.next {α : Type} {a b : List α} {k : Nat} {x y : α} (h : Up a b k) (ha : k < a.length) (hb : k < b.length) (hx : x = a[k]) (hy : y = b[k]) (e : x = y) : Up a b (k + 1) := fun j h1 h2 h3 => by
  by_cases c : j = k
  · subst c; rw [← hx, ← hy, e]
  · exact h j h1 h2 (by omega)
theorem Up.all {α : Type} {a b : List α} (h : Up a b a.length) (hl : a.length = b.length) : a = b := List.ext_getElem hl (fun j h1 h2 => h j h1 h2 h1)
theorem Up.none {α : Type} (a b : List α) : Up a b 0 := fun j _ _ h => absurd h (Nat.not_lt_zero j)
theorem Up.not {α : Type} {a b : List α} {k : Nat} {x y : α} (ha : k < a.length) (hb : k < b.length) (hx : x = a[k]) (hy : y = b[k]) (e : x ≠ y) : a ≠ b := fun c => e (by subst c; rw [hx, hy])
def SmK (F G : Fl) (vi vt vc ui ut uc : Value) (w wr : World) : Prop :=
  Below w.heap.size w wr ∧ FlBox wr w.heap.size ⟨F.name.toArray⟩ vi vt vc F.all ∧ FlBox wr (w.heap.size + 1) ⟨G.name.toArray⟩ ui ut uc G.all
def S1Rel (F G : Fl) (vi vt vc ui ut uc : Value) (w : World) (i : Value) (wr : World) : Prop :=
  ∃ k : Nat, k ≤ F.init.length ∧ i = .int .i64 k ∧ Up F.init G.init k ∧ SmK F G vi vt vc ui ut uc w wr
def S2Rel (F G : Fl) (vi vt vc ui ut uc : Value) (w : World) (i : Value) (wr : World) : Prop :=
  ∃ k : Nat, k ≤ F.ths.length ∧ i = .int .i64 k ∧ Up F.ths G.ths k ∧ SmK F G vi vt vc ui ut uc w wr
def S3Rel (F G : Fl) (ls ms : List OpsM.Ln) (vi vt vc ui ut uc : Value) (w : World) (i : Value) (wr : World) : Prop :=
  ∃ k : Nat, k ≤ ls.length ∧ i = .int .i64 k ∧ Up ls ms k ∧ SmK F G vi vt vc ui ut uc w wr
def S4Rel (F G : Fl) (vi vt vc ui ut uc : Value) (w : World) (i : Value) (wr : World) : Prop :=
  ∃ k : Nat, k ≤ F.cond.length ∧ i = .int .i64 k ∧ Up F.cond G.cond k ∧ SmK F G vi vt vc ui ut uc w wr
set_option maxHeartbeats 8000000 in
set_option maxRecDepth 100000 in
theorem csame_any {B : Nat} {v u : Value} {F G : Fl} (w : World) (hv : FlV B w v F) (hu : FlV B w u G) (hBB : B ≤ w.heap.size) :
    Calls Tryz.prog 18 #[v, u] w (RetSm F G w) := by
  obtain ⟨vi, vt, vc, rfl, hm⟩ := hv
  obtain ⟨ui, ut, uc, rfl, hn⟩ := hu
  unfold flv
  obtain ⟨hmi, hmt, hmc⟩ := hm
  obtain ⟨hni, hnt, hnc⟩ := hn
  obtain ⟨A0, c0, rfl, hi1, hi2, hi3⟩ := hmi
  obtain ⟨A2, c2, rfl, hb1, hb2, hb3⟩ := hmt
  obtain ⟨A1, c1, rfl, ha1, ha2, ha3⟩ := hmc
  obtain ⟨D0, d0, rfl, gi1, gi2, gi3⟩ := hni
  obtain ⟨D2, d2, rfl, gb1, gb2, gb3⟩ := hnt
  obtain ⟨D1, d1, rfl, ga1, ga2, ga3⟩ := hnc
  have hB0 := below_al (below_al (Below.refl w.heap.size w) (.cells #[.string ⟨F.name.toArray⟩, .slice A0 F.init.length c0, .slice A2 F.ths.length c2, .bool F.all, .slice A1 F.cond.length c1] 26)) (.cells #[.string ⟨G.name.toArray⟩, .slice D0 G.init.length d0, .slice D2 G.ths.length d2, .bool G.all, .slice D1 G.cond.length d1] 26)
  have hb1' : Below (w.alloc (.cells #[.string ⟨F.name.toArray⟩, .slice A0 F.init.length c0, .slice A2 F.ths.length c2, .bool F.all, .slice A1 F.cond.length c1] 26)).heap.size (w.alloc (.cells #[.string ⟨F.name.toArray⟩, .slice A0 F.init.length c0, .slice A2 F.ths.length c2, .bool F.all, .slice A1 F.cond.length c1] 26)) ((w.alloc (.cells #[.string ⟨F.name.toArray⟩, .slice A0 F.init.length c0, .slice A2 F.ths.length c2, .bool F.all, .slice A1 F.cond.length c1] 26)).alloc (.cells #[.string ⟨G.name.toArray⟩, .slice D0 G.init.length d0, .slice D2 G.ths.length d2, .bool G.all, .slice D1 G.cond.length d1] 26)) := below_al (Below.refl _ _) _
  have hbx := (FlBox.at (w := w) rfl ⟨F.name.toArray⟩ (.slice A0 F.init.length c0) (.slice A2 F.ths.length c2) (.slice A1 F.cond.length c1) F.all 26).below hb1'
  have hsz : (w.alloc (.cells #[.string ⟨F.name.toArray⟩, .slice A0 F.init.length c0, .slice A2 F.ths.length c2, .bool F.all, .slice A1 F.cond.length c1] 26)).heap.size = w.heap.size + 1 := by simp
  have hby := FlBox.at (w := w.alloc (.cells #[.string ⟨F.name.toArray⟩, .slice A0 F.init.length c0, .slice A2 F.ths.length c2, .bool F.all, .slice A1 F.cond.length c1] 26)) hsz.symm ⟨G.name.toArray⟩ (.slice D0 G.init.length d0) (.slice D2 G.ths.length d2) (.slice D1 G.cond.length d1) G.all 26
  unfold maxLen at hb2 ha2 hi2 gb2 ga2 gi2
  have HBX := Lib.hid hbx
  have HBY := Lib.hid hby
  obtain ⟨t0, t1, t2, t3, t4⟩ := hbx
  obtain ⟨s0, s1, s2, s3, s4⟩ := hby
  clear hb1' hsz
  go_enter Tryz.func18, Tryz.ntmps18
  by_cases e1 : F.name = G.name
  case neg =>
    have q : (F.name == G.name) = false := beq_eq_false_iff_ne.2 e1
    have E := Lib.hid e1
    clear e1
    go_wp2
    go_ret
    exact RetSm.no hB0 (fun c => E.out (by rw [c]))
  have E1 := Lib.hid e1
  have q1 : (F.name == G.name) = true := beq_iff_eq.2 e1
  clear e1
  by_cases e2 : F.all = G.all
  case neg =>
    have q : (F.all == G.all) = false := beq_eq_false_iff_ne.2 e2
    have E := Lib.hid e2
    clear e2
    go_wp2
    go_ret
    exact RetSm.no hB0 (fun c => E.out (by rw [c]))
  have E2 := Lib.hid e2
  have q2 : (F.all == G.all) = true := beq_iff_eq.2 e2
  clear e2
  by_cases e3 : F.init.length = G.init.length
  case neg =>
    have q : ((F.init.length : Int) != (G.init.length : Int)) = true := bne_iff_ne.2 (by omega)
    have E := Lib.hid e3
    clear e3
    go_wp2
    go_ret
    exact RetSm.no hB0 (fun c => E.out (by rw [c]))
  have E3 := Lib.hid e3
  have q3 : ((F.init.length : Int) != (G.init.length : Int)) = false := by rw [show (F.init.length : Int) = (G.init.length : Int) by omega]; exact bne_self_eq_false _
  clear e3
  by_cases e4 : F.ths.length = G.ths.length
  case neg =>
    have q : ((F.ths.length : Int) != (G.ths.length : Int)) = true := bne_iff_ne.2 (by omega)
    have E := Lib.hid e4
    clear e4
    go_wp2
    go_ret
    exact RetSm.no hB0 (fun c => E.out (by rw [c]))
  have E4 := Lib.hid e4
  have q4 : ((F.ths.length : Int) != (G.ths.length : Int)) = false := by rw [show (F.ths.length : Int) = (G.ths.length : Int) by omega]; exact bne_self_eq_false _
  clear e4
  by_cases e5 : F.cond.length = G.cond.length
  case neg =>
    have q : ((F.cond.length : Int) != (G.cond.length : Int)) = true := bne_iff_ne.2 (by omega)
    have E := Lib.hid e5
    clear e5
    go_wp2
    go_ret
    exact RetSm.no hB0 (fun c => E.out (by rw [c]))
  have E5 := Lib.hid e5
  have q5 : ((F.cond.length : Int) != (G.cond.length : Int)) = false := by rw [show (F.cond.length : Int) = (G.cond.length : Int) by omega]; exact bne_self_eq_false _
  clear e5
  go_wp2
  go_loopw [5] (fun i wr => S1Rel F G (.slice A0 F.init.length c0) (.slice A2 F.ths.length c2) (.slice A1 F.cond.length c1) (.slice D0 G.init.length d0) (.slice D2 G.ths.length d2) (.slice D1 G.cond.length d1) w i wr) (fun i _ => F.init.length - (intOf i).toNat)
  case atStart => exact ⟨0, Nat.zero_le _, rfl, Up.none _ _, hB0, HBX.out, HBY.out⟩
  case round =>
    clear t0 t1 t2 t3 t4 s0 s1 s2 s3 s4 hB0 HBX HBY q1 q2 q3 q4 q5
    obtain ⟨k, hk, rfl, hall, hB, hbx, hby⟩ := hrel
    have HBX := Lib.hid hbx
    have HBY := Lib.hid hby
    obtain ⟨t0, t1, t2, t3, t4⟩ := hbx
    obtain ⟨s0, s1, s2, s3, s4⟩ := hby
    have HA1 := Lib.hid hall
    clear hall
    by_cases hlt : k < F.init.length
    · have hlt' : k < G.init.length := by have := E3.out; omega
      obtain ⟨b1, f1, rfl, hb1, hcl⟩ := hi3 (by omega)
      obtain ⟨b2, f2, rfl, hb2, hcl2⟩ := gi3 (by omega)
      obtain ⟨y0, y1⟩ := (hcl k hlt).below (hB.mono hBB) hb1
      obtain ⟨z0, z1⟩ := (hcl2 k hlt').below (hB.mono hBB) hb2
      obtain ⟨x, hx⟩ : ∃ x, x = F.init[k] := ⟨_, rfl⟩
      obtain ⟨y, hy⟩ : ∃ x, x = G.init[k] := ⟨_, rfl⟩
      rw [← hx] at y0 y1
      rw [← hy] at z0 z1
      have HX := Lib.hid hx
      have HY := Lib.hid hy
      clear hx hy hcl hi3 hcl2 gi3
      by_cases he : x = y
      · have HE := Lib.hid he
        subst he
        go_wp2
        go_quiet (fail)
        go_wp2
        go_roundw
        case rel => exact ⟨k + 1, by omega, by go_num, HA1.out.next hlt hlt' HX.out HY.out rfl, below_drewN hB _, HBX.out, HBY.out⟩
        case measure => simp [intOf]; omega
      · have HN := Lib.hid (fun c : F = G => Up.not hlt hlt' HX.out HY.out he (by rw [c]))
        have hd : ¬ x.1 = y.1 ∨ (x.1 = y.1 ∧ ¬ x.2 = y.2) := by
          by_cases c1 : x.1 = y.1
          · exact Or.inr ⟨c1, fun c2 => he (Prod.ext c1 c2)⟩
          · exact Or.inl c1
        clear he
        rcases hd with c1 | ⟨c1, c2⟩
        · go_wp2
          go_quiet (fail)
          go_wp2
          go_ret
          exact RetSm.no (below_drewN hB _) HN.out
        · go_wp2
          go_quiet (fail)
          go_wp2
          go_ret
          exact RetSm.no (below_drewN hB _) HN.out
    · obtain rfl : F.init.length = k := by omega
      clear hi3 gi3
      go_wp2
      go_loopw [6] (fun i wr => S2Rel F G (.slice A0 F.init.length c0) (.slice A2 F.ths.length c2) (.slice A1 F.cond.length c1) (.slice D0 G.init.length d0) (.slice D2 G.ths.length d2) (.slice D1 G.cond.length d1) w i wr) (fun i _ => F.ths.length - (intOf i).toNat)
      case atStart => exact ⟨0, Nat.zero_le _, rfl, Up.none _ _, hB, HBX.out, HBY.out⟩
      case round =>
        clear t0 t1 t2 t3 t4 s0 s1 s2 s3 s4 hB HBX HBY
        obtain ⟨k, hk, rfl, hall, hB, hbx, hby⟩ := hrel
        have HBX := Lib.hid hbx
        have HBY := Lib.hid hby
        obtain ⟨t0, t1, t2, t3, t4⟩ := hbx
        obtain ⟨s0, s1, s2, s3, s4⟩ := hby
        have HA2 := Lib.hid hall
        clear hall
        by_cases hlt : k < F.ths.length
        · have hlt' : k < G.ths.length := by have := E4.out; omega
          obtain ⟨b1, f1, rfl, hb1, hcl⟩ := hb3 (by omega)
          obtain ⟨b2, f2, rfl, hb2, hcl2⟩ := gb3 (by omega)
          obtain ⟨vl, d0w, hLn⟩ := hcl k hlt
          obtain ⟨ul, d1w, hLm⟩ := hcl2 k hlt'
          obtain ⟨ls, hx⟩ : ∃ x, x = F.ths[k] := ⟨_, rfl⟩
          obtain ⟨ms, hy⟩ : ∃ x, x = G.ths[k] := ⟨_, rfl⟩
          rw [← hx] at hLn
          rw [← hy] at hLm
          have HX := Lib.hid hx
          have HY := Lib.hid hy
          obtain ⟨A3, c3, rfl, he1, he2, he3⟩ := hLn
          obtain ⟨A4, c4, rfl, ge1, ge2, ge3⟩ := hLm
          unfold maxLen at he2 ge2
          have D0' := Lib.hid d0w
          have D1' := Lib.hid d1w
          have y0 := ((hB.mono hBB).cell (p := ⟨b1, f1 + k, none⟩) hb1).trans d0w
          have z0 := ((hB.mono hBB).cell (p := ⟨b2, f2 + k, none⟩) hb2).trans d1w
          clear hx hy hcl hcl2 hb3 gb3 d0w d1w
          by_cases hl : ls.length = ms.length
          case neg =>
            have q : ((ls.length : Int) != (ms.length : Int)) = true := bne_iff_ne.2 (by omega)
            have HN := Lib.hid (fun c : F = G => Up.not hlt hlt' HX.out HY.out (fun e => hl (by rw [e])) (by rw [c]))
            clear hl
            go_wp2
            go_quiet (fail)
            go_wp2
            go_ret
            exact RetSm.no (below_drewN hB _) HN.out
          have q : ((ls.length : Int) != (ms.length : Int)) = false := by rw [show (ls.length : Int) = (ms.length : Int) by omega]; exact bne_self_eq_false _
          have HL := Lib.hid hl
          clear hl
          go_wp2
          go_quiet (fail)
          go_wp2
          go_loopw [7] (fun i wr => S3Rel F G ls ms (.slice A0 F.init.length c0) (.slice (some ⟨b1, f1, none⟩) F.ths.length c2) (.slice A1 F.cond.length c1) (.slice D0 G.init.length d0) (.slice (some ⟨b2, f2, none⟩) G.ths.length d2) (.slice D1 G.cond.length d1) w i wr) (fun i _ => ls.length - (intOf i).toNat)
          case atStart => exact ⟨0, Nat.zero_le _, rfl, Up.none _ _, below_drewN hB _, HBX.out, HBY.out⟩
          case round =>
            clear y0 z0 q
            clear t0 t1 t2 t3 t4 s0 s1 s2 s3 s4 hB HBX HBY
            obtain ⟨m, hm, rfl, hall, hB, hbx, hby⟩ := hrel
            have HBX := Lib.hid hbx
            have HBY := Lib.hid hby
            obtain ⟨t0, t1, t2, t3, t4⟩ := hbx
            obtain ⟨s0, s1, s2, s3, s4⟩ := hby
            have HA3 := Lib.hid hall
            clear hall
            have y0 := ((hB.mono hBB).cell (p := ⟨b1, f1 + k, none⟩) hb1).trans D0'.out
            have z0 := ((hB.mono hBB).cell (p := ⟨b2, f2 + k, none⟩) hb2).trans D1'.out
            by_cases hlm : m < ls.length
            · have hlm' : m < ms.length := by have := HL.out; omega
              obtain ⟨b3, f3, rfl, hb3, hc3⟩ := he3 (by omega)
              obtain ⟨b4, f4, rfl, hb4, hc4⟩ := ge3 (by omega)
              obtain ⟨l0, l1, l2, l3, l4⟩ := (hc3 m hlm).below (hB.mono hBB) hb3
              obtain ⟨m0, m1, m2, m3, m4⟩ := (hc4 m hlm').below (hB.mono hBB) hb4
              obtain ⟨x, hx⟩ : ∃ x, x = ls[m] := ⟨_, rfl⟩
              obtain ⟨y, hy⟩ : ∃ x, x = ms[m] := ⟨_, rfl⟩
              rw [← hx] at l0 l1 l2 l3 l4
              rw [← hy] at m0 m1 m2 m3 m4
              have HX2 := Lib.hid hx
              have HY2 := Lib.hid hy
              clear hx hy hc3 hc4 he3 ge3
              by_cases he : x = y
              · have HE := Lib.hid he
                subst he
                go_wp2
                go_quiet (fail)
                go_wp2
                go_roundw
                case rel => exact ⟨m + 1, by omega, by go_num, HA3.out.next hlm hlm' HX2.out HY2.out rfl, below_drewN hB _, HBX.out, HBY.out⟩
                case measure => simp [intOf]; omega
              · have HN := Lib.hid (fun c : F = G => Up.not hlt hlt' HX.out HY.out (fun e => Up.not hlm hlm' HX2.out HY2.out he e) (by rw [c]))
                have hd : ¬ x.op = y.op ∨ (x.op = y.op ∧ ¬ x.reg = y.reg) ∨ (x.op = y.op ∧ x.reg = y.reg ∧ ¬ x.loc = y.loc) ∨ (x.op = y.op ∧ x.reg = y.reg ∧ x.loc = y.loc ∧ ¬ x.label = y.label) ∨ (x.op = y.op ∧ x.reg = y.reg ∧ x.loc = y.loc ∧ x.label = y.label ∧ ¬ x.n = y.n) := by
                  by_cases c1 : x.op = y.op
                  · by_cases c2 : x.reg = y.reg
                    · by_cases c3 : x.loc = y.loc
                      · by_cases c4 : x.label = y.label
                        · by_cases c5 : x.n = y.n
                          · exact absurd (OpsM.Ln.same c1 c2 c3 c4 c5) he
                          · exact Or.inr (Or.inr (Or.inr (Or.inr ⟨c1, c2, c3, c4, c5⟩)))
                        · exact Or.inr (Or.inr (Or.inr (Or.inl ⟨c1, c2, c3, c4⟩)))
                      · exact Or.inr (Or.inr (Or.inl ⟨c1, c2, c3⟩))
                    · exact Or.inr (Or.inl ⟨c1, c2⟩)
                  · exact Or.inl c1
                clear he
                rcases hd with c1 | ⟨c1, c2⟩ | ⟨c1, c2, c3⟩ | ⟨c1, c2, c3, c4⟩ | ⟨c1, c2, c3, c4, c5⟩
                · go_wp2
                  go_quiet (fail)
                  go_wp2
                  go_ret
                  exact RetSm.no (below_drewN hB _) HN.out
                · go_wp2
                  go_quiet (fail)
                  go_wp2
                  go_ret
                  exact RetSm.no (below_drewN hB _) HN.out
                · go_wp2
                  go_quiet (fail)
                  go_wp2
                  go_ret
                  exact RetSm.no (below_drewN hB _) HN.out
                · go_wp2
                  go_quiet (fail)
                  go_wp2
                  go_ret
                  exact RetSm.no (below_drewN hB _) HN.out
                · go_wp2
                  go_quiet (fail)
                  go_wp2
                  go_ret
                  exact RetSm.no (below_drewN hB _) HN.out
            · obtain rfl : ls.length = m := by omega
              clear he3 ge3
              go_wp2
              go_roundw
              case rel => exact ⟨k + 1, by omega, by go_num, HA2.out.next hlt hlt' HX.out HY.out (HA3.out.all HL.out), hB, HBX.out, HBY.out⟩
              case measure => simp [intOf]; omega
        · obtain rfl : F.ths.length = k := by omega
          clear hb3 gb3
          go_wp2
          go_loopw [8] (fun i wr => S4Rel F G (.slice A0 F.init.length c0) (.slice A2 F.ths.length c2) (.slice A1 F.cond.length c1) (.slice D0 G.init.length d0) (.slice D2 G.ths.length d2) (.slice D1 G.cond.length d1) w i wr) (fun i _ => F.cond.length - (intOf i).toNat)
          case atStart => exact ⟨0, Nat.zero_le _, rfl, Up.none _ _, hB, HBX.out, HBY.out⟩
          case round =>
            clear t0 t1 t2 t3 t4 s0 s1 s2 s3 s4 hB HBX HBY
            obtain ⟨k, hk, rfl, hall, hB, hbx, hby⟩ := hrel
            have HBX := Lib.hid hbx
            have HBY := Lib.hid hby
            obtain ⟨t0, t1, t2, t3, t4⟩ := hbx
            obtain ⟨s0, s1, s2, s3, s4⟩ := hby
            have HA4 := Lib.hid hall
            clear hall
            by_cases hlt : k < F.cond.length
            · have hlt' : k < G.cond.length := by have := E5.out; omega
              obtain ⟨b1, f1, rfl, hb1, hcl⟩ := ha3 (by omega)
              obtain ⟨b2, f2, rfl, hb2, hcl2⟩ := ga3 (by omega)
              obtain ⟨y0, y1, y2⟩ := (hcl k hlt).below (hB.mono hBB) hb1
              obtain ⟨z0, z1, z2⟩ := (hcl2 k hlt').below (hB.mono hBB) hb2
              obtain ⟨x, hx⟩ : ∃ x, x = F.cond[k] := ⟨_, rfl⟩
              obtain ⟨y, hy⟩ : ∃ x, x = G.cond[k] := ⟨_, rfl⟩
              rw [← hx] at y0 y1 y2
              rw [← hy] at z0 z1 z2
              have HX := Lib.hid hx
              have HY := Lib.hid hy
              clear hx hy hcl ha3 hcl2 ga3
              by_cases he : x = y
              · have HE := Lib.hid he
                subst he
                go_wp2
                go_quiet (fail)
                go_wp2
                go_roundw
                case rel => exact ⟨k + 1, by omega, by go_num, HA4.out.next hlt hlt' HX.out HY.out rfl, below_drewN hB _, HBX.out, HBY.out⟩
                case measure => simp [intOf]; omega
              · have HN := Lib.hid (fun c : F = G => Up.not hlt hlt' HX.out HY.out he (by rw [c]))
                have hd : ¬ x.t = y.t ∨ (x.t = y.t ∧ ¬ x.nm = y.nm) ∨ (x.t = y.t ∧ x.nm = y.nm ∧ ¬ x.n = y.n) := by
                  by_cases c1 : x.t = y.t
                  · by_cases c2 : x.nm = y.nm
                    · by_cases c3 : x.n = y.n
                      · exact absurd (AtomM.At.same c1 c2 c3) he
                      · exact Or.inr (Or.inr ⟨c1, c2, c3⟩)
                    · exact Or.inr (Or.inl ⟨c1, c2⟩)
                  · exact Or.inl c1
                clear he
                rcases hd with c1 | ⟨c1, c2⟩ | ⟨c1, c2, c3⟩
                · go_wp2
                  go_quiet (fail)
                  go_wp2
                  go_ret
                  exact RetSm.no (below_drewN hB _) HN.out
                · go_wp2
                  go_quiet (fail)
                  go_wp2
                  go_ret
                  exact RetSm.no (below_drewN hB _) HN.out
                · go_wp2
                  go_quiet (fail)
                  go_wp2
                  go_ret
                  exact RetSm.no (below_drewN hB _) HN.out
            · obtain rfl : F.cond.length = k := by omega
              clear ha3 ga3
              have HF := Lib.hid (show F = G by
                have a1 := E1.out; have a2 := E2.out; have a3 := HA1.out.all E3.out; have a4 := HA2.out.all E4.out; have a5 := HA4.out.all E5.out
                cases F; cases G; simp_all)
              go_wp2
              go_ret
              exact RetSm.yes hB HF.out
end Go.Proofs.YtkkjodjachbifaaGreatDoor
namespace Go.Proofs.YtkkjodjachbifaaGreatDoor
open Go.RowKit
set_option linter.unusedVariables false
open WordM (L)
theorem words_join : ∀ (ws : List L), (∀ x ∈ ws, OpsM.plain x) → WordM.words (joinL ws) = ws
  | [], _ => rfl
  | [x], h => by
    have hx := h x (by simp)
    rw [joinL_cons]
    simp only [List.map_nil, List.flatten_nil, List.append_nil]
    exact WordM.words_one x hx.2 hx.1
  | x :: y :: r, h => by
    have hx := h x (by simp)
    have e : joinL (x :: y :: r) = x ++ 32 :: joinL (y :: r) := by rw [joinL_cons, joinL_cons]; simp
    rw [e, WordM.words_cat, WordM.words_one x hx.2 hx.1, words_join (y :: r) (fun z hz => h z (by simp [hz]))]
    rfl
theorem line_words {x : OpsM.Ln} (hn : NumM.inR x.n) : WordM.words (lineS x) = OpsM.wordsL x := by
  unfold lineS
  cases h : OpsM.rightL x
  · rw [OpsM.get_wrong h]; rfl
  · exact words_join _ (OpsM.words_plain h hn)
theorem line_get {x : OpsM.Ln} (h : OpsM.rightL x = true) (hn : NumM.inR x.n) : OpsM.get (OpsM.wordsL x) = (x, true) := OpsM.get_words h hn
theorem line_get0 {x : OpsM.Ln} (h : OpsM.rightL x = false) : OpsM.get (OpsM.wordsL x) = (OpsM.zero, false) := by rw [OpsM.get_wrong h, OpsM.get_nil]
theorem line_nil {x : OpsM.Ln} (h : OpsM.rightL x = false) : lineS x = [] := by unfold lineS; rw [OpsM.get_wrong h]; rfl
theorem line_ne {x : OpsM.Ln} (h : OpsM.rightL x = true) (hn : NumM.inR x.n) : lineS x ≠ [] := by
  intro e
  have h1 := line_words hn
  rw [e] at h1
  have h2 := OpsM.get_words h hn
  rw [← h1, show WordM.words [] = [] from rfl, OpsM.get_nil] at h2
  injection h2 with _ h3
  cases h3
theorem line_inj {x y : OpsM.Ln} (hx : OpsM.rightL x = true) (hy : OpsM.rightL y = true) (nx : NumM.inR x.n) (ny : NumM.inR y.n) (h : lineS x = lineS y) : x = y := by
  have h1 := line_words nx
  rw [h, line_words ny] at h1
  have h2 := OpsM.get_words hx nx
  rw [← h1, OpsM.get_words hy ny] at h2
  injection h2 with h3 _
  exact h3.symm
end Go.Proofs.YtkkjodjachbifaaGreatDoor
namespace Go.Proofs.YtkkjodjachbifaaGreatDoor
open Go.RowKit
set_option linter.unusedVariables false
set_option linter.unusedSimpArgs false
open WordM (L)
open VM

/-- Every byte of it stands above a blank. -/
def ink (x : L) : Prop := ∀ b ∈ x, 32 < b.toNat
theorem ink_lf {x : L} (h : ink x) : (10 : UInt8) ∉ x := fun m => absurd (h 10 m) (by decide)
theorem ink_bl {x : L} (h : ink x) : (32 : UInt8) ∉ x := fun m => absurd (h 32 m) (by decide)
theorem ink_nil : ink [] := fun b h => by cases h
theorem ink_app {a b : L} (ha : ink a) (hb : ink b) : ink (a ++ b) := fun c h => (List.mem_append.1 h).elim (ha c) (hb c)
theorem ink_cons {c : UInt8} {a : L} (hc : 32 < c.toNat) (ha : ink a) : ink (c :: a) := fun b h => by
  rcases List.mem_cons.1 h with rfl | h
  · exact hc
  · exact ha b h
theorem ink_name {l : L} (h : WordM.nameB l = true) : ink l := fun b hb => by
  have := AtomM.name_alnum h b hb
  unfold WordM.alnum WordM.letterB WordM.digitB at this
  have h1 : b.toNat < 256 := b.toNat_lt
  by_cases c : 32 < b.toNat
  · exact c
  · exfalso
    have hb : ∀ n : Nat, n ≤ 32 → (WordM.alnum (UInt8.ofNat n)) = false := by decide
    have := hb b.toNat (by omega)
    rw [UInt8.ofNat_toNat, AtomM.name_alnum h b (by assumption)] at this
    cases this
theorem ink_reg {r : L} (h : OpsM.regB r = true) : ink r := by
  rcases OpsM.reg_cases h with rfl | rfl | rfl | rfl <;> unfold ink <;> decide
theorem ink_text {n : Int} (h : NumM.inR n) : ink (NumM.text n) := by
  have hb : n.natAbs < 10 ^ 20 := by have := NumM.natAbs_lt n h; omega
  have hd : ink (NumM.digs n.natAbs) := fun b hm => by have := (NumM.digs_digit n.natAbs hb b hm).1; omega
  unfold NumM.text
  split
  · exact ink_cons (by decide) hd
  · exact hd
theorem right_parts {x : OpsM.Ln} (h : OpsM.rightL x = true) : ink x.reg ∧ ink x.loc ∧ ink x.label := by
  rcases OpsM.right_cases h with ⟨ho, hk⟩ | ⟨ho, hk⟩ | ⟨ho, hk⟩ | ⟨ho, hk⟩ | ⟨ho, hk⟩ | ⟨ho, hk⟩ | ⟨ho, hk⟩ | ⟨ho, hk⟩ | ⟨ho, hk⟩ | ⟨ho, hk⟩ | ⟨ho, hk⟩
  all_goals first
    | (obtain ⟨h1, h2, h3⟩ := OpsM.okNum_iff.1 hk; rw [h2, h3]; exact ⟨ink_reg h1, ink_nil, ink_nil⟩)
    | (obtain ⟨h1, h2, h3, h4⟩ := OpsM.okLoc_iff.1 hk; rw [h3]; exact ⟨ink_reg h1, ink_name h2, ink_nil⟩)
    | (obtain ⟨h1, h2, h3⟩ := OpsM.okPut_iff.1 hk; rw [h2, h3]; exact ⟨ink_nil, ink_name h1, ink_nil⟩)
    | (obtain ⟨h1, h2, h3, h4⟩ := OpsM.okFen_iff.1 hk; rw [h1, h2, h3]; exact ⟨ink_nil, ink_nil, ink_nil⟩)
    | (obtain ⟨h1, h2, h3, h4⟩ := OpsM.okLab_iff.1 hk; rw [h2, h3]; exact ⟨ink_nil, ink_nil, ink_name h1⟩)
theorem words_ink {x : OpsM.Ln} (h : OpsM.rightL x = true) (hn : NumM.inR x.n) : ∀ s ∈ OpsM.wordsL x, ink s := by
  obtain ⟨h1, h2, h3⟩ := right_parts h
  rw [OpsM.words_of h]
  exact (OpsM.wordsR_all ink x.op x.reg x.loc x.label x.n (by unfold ink; decide) (by unfold ink; decide) (by unfold ink; decide) (by unfold ink; decide) (by unfold ink; decide) (by unfold ink; decide) (by unfold ink; decide) h1
    (ink_cons (by decide) (ink_app h2 (by unfold ink; decide))) (ink_text hn) h3 (ink_app h3 (by unfold ink; decide))).1
theorem join_lf : ∀ (ws : List L), (∀ x ∈ ws, ink x) → (10 : UInt8) ∉ joinL ws
  | [], _ => by decide
  | x :: r, h => by
    rw [joinL_cons]
    intro m
    rcases List.mem_append.1 m with m | m
    · exact ink_lf (h x (by simp)) m
    · obtain ⟨l, hl, hm⟩ := List.mem_flatten.1 m
      obtain ⟨y, hy, rfl⟩ := List.mem_map.1 hl
      rcases List.mem_cons.1 hm with e | e
      · exact absurd e (by decide)
      · exact ink_lf (h y (by simp [hy])) e
/-- What a right program has. -/
structure FR (F : Fl) : Prop where
  name : WordM.nameB F.name = true
  init : ∀ c ∈ F.init, WordM.nameB c.1 = true ∧ NumM.inR c.2
  ths : ∀ ls ∈ F.ths, ∀ x ∈ ls, OpsM.rightL x = true ∧ NumM.inR x.n
  cond : ∀ a ∈ F.cond, AtomM.askedA a = true ∧ NumM.inR a.n
theorem fr_of {F : Fl} (h : VM.right F = true) (hp : FlP F) : FR F := by
  obtain ⟨h1, h2, h3, _⟩ := right_zero h
  refine ⟨(frameC_zero h1).1, fun c hc => ?_, fun ls hl x hx => ?_, fun a ha => ?_⟩
  · refine ⟨?_, hp.init c hc⟩
    obtain ⟨j, hj, rfl⟩ := List.mem_iff_getElem.1 hc
    exact cell_name hj (cellsC_zero (frameC_zero h1).2 j hj)
  · refine ⟨?_, (hp.ths ls hl x hx).2⟩
    obtain ⟨j, hj, rfl⟩ := List.mem_iff_getElem.1 hl
    have := lineT_zero h2 j hj
    rw [getD_at _ _ _ hj] at this
    exact line_right this hx
  · refine ⟨?_, (hp.cond a ha).2⟩
    obtain ⟨j, hj, rfl⟩ := List.mem_iff_getElem.1 ha
    exact atom_asked hj (atomT_zero h3 j hj)
theorem plain_of {x : L} (h : ink x) (hn : x ≠ []) : OpsM.plain x := ⟨hn, ink_bl h⟩
theorem word_ink {a : AtomM.At} (h : AtomM.askedA a = true) (hn : NumM.inR a.n) : ink (AtomM.wordA a) := by
  rcases AtomM.asked_cases h with ⟨h1, h2⟩ | ⟨h1, h2⟩
  · rw [AtomM.word_own h h1]
    exact ink_app (ink_name h2) (ink_cons (by decide) (ink_text hn))
  · rw [AtomM.word_reg h h1]
    exact ink_app (ink_app (ink_text (AtomM.thread_text h1).2.1) (ink_cons (by decide) (ink_reg h2))) (ink_cons (by decide) (ink_text hn))
theorem name_ne' {l : L} (h : WordM.nameB l = true) : l ≠ [] := AtomM.name_ne h
theorem text_ne {n : Int} (h : NumM.inR n) : NumM.text n ≠ [] := (OpsM.plain_text h).1
def inkw (x : L) : Prop := ink x ∧ x ≠ []
theorem head_ink {F : Fl} (h : FR F) : ∀ x ∈ [kx86, F.name], inkw x := by
  intro x hx
  simp only [List.mem_cons, List.not_mem_nil, or_false] at hx
  rcases hx with rfl | rfl
  · exact ⟨by unfold ink; decide, by decide⟩
  · exact ⟨ink_name h.name, name_ne' h.name⟩
theorem init_ink {F : Fl} (h : FR F) : ∀ x ∈ initW F.init, inkw x := by
  intro x hx
  rcases List.mem_cons.1 hx with e | e
  · subst e; exact ⟨by unfold ink; decide, by decide⟩
  · obtain ⟨l, hl, hxl⟩ := List.mem_flatten.1 e
    obtain ⟨c, hc, rfl⟩ := List.mem_map.1 hl
    simp only [List.mem_cons, List.not_mem_nil, or_false] at hxl
    rcases hxl with rfl | rfl
    · exact ⟨ink_name (h.init c hc).1, name_ne' (h.init c hc).1⟩
    · exact ⟨ink_text (h.init c hc).2, text_ne (h.init c hc).2⟩
theorem end_ink {F : Fl} (h : FR F) : ∀ x ∈ endW F.all F.cond, inkw x := by
  intro x hx
  rcases List.mem_cons.1 hx with e | e
  · subst e; cases F.all <;> exact ⟨by unfold ink; decide, by decide⟩
  · obtain ⟨a, ha, rfl⟩ := List.mem_map.1 e
    exact ⟨word_ink (h.cond a ha).1 (h.cond a ha).2, AtomM.word_ne (h.cond a ha).1⟩
theorem inkw_words {ws : List L} (h : ∀ x ∈ ws, inkw x) : WordM.words (joinL ws) = ws := words_join ws (fun x hx => plain_of (h x hx).1 (h x hx).2)
theorem inkw_lf {ws : List L} (h : ∀ x ∈ ws, inkw x) : (10 : UInt8) ∉ joinL ws := join_lf ws (fun x hx => (h x hx).1)

def bodyL (ts : List (List OpsM.Ln)) : List L := (ts.map (fun ls => kthread :: ls.map lineS)).flatten
def linesL (F : Fl) : List L := joinL [kx86, F.name] :: joinL (initW F.init) :: (bodyL F.ths ++ [joinL (endW F.all F.cond)])
def unl (ls : List L) : L := (ls.map (fun x => x ++ [10])).flatten
theorem unl_app (a b : List L) : unl (a ++ b) = unl a ++ unl b := by unfold unl; rw [List.map_append, List.flatten_append]
theorem unl_cons (a : L) (b : List L) : unl (a :: b) = a ++ [10] ++ unl b := by unfold unl; rw [List.map_cons, List.flatten_cons]
theorem lines_unl : ∀ ls : List L, (∀ x ∈ ls, (10 : UInt8) ∉ x) → WordM.lines (unl ls) = ls
  | [], _ => rfl
  | x :: r, h => by
    have e : unl (x :: r) = x ++ 10 :: unl r := by rw [unl_cons]; simp
    rw [e]
    unfold WordM.lines
    rw [WordM.chunks_app 10 x _ (h x (by simp))]
    exact congrArg _ (lines_unl r (fun y hy => h y (by simp [hy])))
theorem lnsTx_unl (ls : List OpsM.Ln) : lnsTx ls = unl (ls.map lineS) := by
  unfold lnsTx unl
  rw [List.map_map]; rfl
theorem bodyL_cons (ls : List OpsM.Ln) (r : List (List OpsM.Ln)) : bodyL (ls :: r) = (kthread :: ls.map lineS) ++ bodyL r := by unfold bodyL; rw [List.map_cons, List.flatten_cons]
theorem thsTx_unl : ∀ ts : List (List OpsM.Ln), thsTx ts = unl (bodyL ts)
  | [] => rfl
  | ls :: r => by
    have e : thsTx (ls :: r) = thrTx ls ++ thsTx r := by unfold thsTx; rw [List.map_cons, List.flatten_cons]
    have e2 : lineTx [kthread] = kthread ++ [10] := by decide
    rw [e, bodyL_cons, unl_app, unl_cons, thsTx_unl r, ← lnsTx_unl]
    unfold thrTx
    rw [e2]
theorem print_unl (F : Fl) : printR F = unl (linesL F) := by
  unfold printR linesL
  rw [unl_cons, unl_cons, unl_app, unl_cons, thsTx_unl]
  unfold lineTx
  simp [unl]
theorem body_lf {ts : List (List OpsM.Ln)} (h : ∀ ls ∈ ts, ∀ x ∈ ls, OpsM.rightL x = true ∧ NumM.inR x.n) : ∀ x ∈ bodyL ts, (10 : UInt8) ∉ x := by
  intro x hx
  obtain ⟨l, hl, hxl⟩ := List.mem_flatten.1 hx
  obtain ⟨ls, hls, rfl⟩ := List.mem_map.1 hl
  rcases List.mem_cons.1 hxl with e | e
  · subst e; decide
  · obtain ⟨y, hy, rfl⟩ := List.mem_map.1 e
    exact join_lf _ (words_ink (h ls hls y hy).1 (h ls hls y hy).2)
theorem lines_print {F : Fl} (h : FR F) : WordM.lines (printR F) = linesL F := by
  rw [print_unl]
  refine lines_unl _ (fun x hx => ?_)
  rcases List.mem_cons.1 hx with e | hx
  · subst e; exact inkw_lf (head_ink h)
  rcases List.mem_cons.1 hx with e | hx
  · subst e; exact inkw_lf (init_ink h)
  rcases List.mem_append.1 hx with hx | hx
  · exact body_lf h.ths x hx
  · rw [List.mem_singleton.1 hx]; exact inkw_lf (end_ink h)
theorem body_take (ts : List (List OpsM.Ln)) (t : Nat) (h : t < ts.length) : bodyL (ts.take (t + 1)) = bodyL (ts.take t) ++ (kthread :: ts[t].map lineS) := by
  unfold bodyL
  rw [List.take_succ_eq_append_getElem h, List.map_append, List.flatten_append]; simp
theorem bodyL_app (a b : List (List OpsM.Ln)) : bodyL (a ++ b) = bodyL a ++ bodyL b := by unfold bodyL; rw [List.map_append, List.flatten_append]
theorem body_split (ts : List (List OpsM.Ln)) (t : Nat) (h : t < ts.length) : bodyL ts = bodyL (ts.take t) ++ ((kthread :: ts[t].map lineS) ++ bodyL (ts.drop (t + 1))) := by
  rw [← bodyL_cons, ← bodyL_app, ← List.drop_eq_getElem_cons h, List.take_append_drop]
/-- How many lines stand ahead of the t-th thread. -/
def atL (F : Fl) (t : Nat) : Nat := 2 + (bodyL (F.ths.take t)).length
theorem atL_next (F : Fl) (t : Nat) (h : t < F.ths.length) : atL F (t + 1) = atL F t + 1 + F.ths[t].length := by
  unfold atL; rw [body_take _ _ h]; simp; omega
theorem atL_end (F : Fl) : (linesL F).length = atL F F.ths.length + 1 := by
  unfold atL linesL; rw [List.take_length]; simp; omega
theorem linesL_split (F : Fl) (t : Nat) (h : t < F.ths.length) : ∃ a r, linesL F = a ++ ((kthread :: F.ths[t].map lineS) ++ r) ∧ a.length = atL F t ∧ 1 ≤ r.length := by
  refine ⟨joinL [kx86, F.name] :: joinL (initW F.init) :: bodyL (F.ths.take t), bodyL (F.ths.drop (t + 1)) ++ [joinL (endW F.all F.cond)], ?_, ?_, ?_⟩
  · unfold linesL
    rw [body_split _ _ h]; simp
  · unfold atL; simp; omega
  · simp
theorem line_head (F : Fl) (t : Nat) (h : t < F.ths.length) : ∃ q : atL F t < (linesL F).length, (linesL F)[atL F t] = kthread := by
  obtain ⟨a, r, e, h1, h2⟩ := linesL_split F t h
  have hl : atL F t < (linesL F).length := by rw [e]; simp; omega
  refine ⟨hl, ?_⟩
  have : (linesL F)[atL F t]? = some kthread := by rw [e, List.getElem?_append_right (by omega), h1]; simp
  rw [List.getElem?_eq_getElem hl] at this
  exact Option.some.inj this
theorem line_own (F : Fl) (t : Nat) (h : t < F.ths.length) (i : Nat) (hi : i < F.ths[t].length) : ∃ q : atL F t + 1 + i < (linesL F).length, (linesL F)[atL F t + 1 + i] = lineS F.ths[t][i] := by
  obtain ⟨a, r, e, h1, h2⟩ := linesL_split F t h
  have hl : atL F t + 1 + i < (linesL F).length := by rw [e]; simp; omega
  refine ⟨hl, ?_⟩
  have : (linesL F)[atL F t + 1 + i]? = some (lineS F.ths[t][i]) := by
    rw [e, List.getElem?_append_right (by omega), h1, show atL F t + 1 + i - atL F t = i + 1 by omega, List.getElem?_append_left (by simp; omega)]
    simp [hi]
  rw [List.getElem?_eq_getElem hl] at this
  exact Option.some.inj this

theorem line_thread {x : OpsM.Ln} (h : OpsM.rightL x = true) (hn : NumM.inR x.n) : lineS x ≠ kthread := by
  intro e
  have h1 := line_words hn
  rw [e] at h1
  have h2 := OpsM.get_words h hn
  rw [← h1] at h2
  have h3 : (OpsM.get (WordM.words kthread)).2 = false := by decide +kernel
  rw [h2] at h3
  cases h3
theorem seg_inj (k : L) : ∀ (x y R S : List L), (∀ z ∈ x, z ≠ k) → (∀ z ∈ y, z ≠ k) → (R = [] ∨ ∃ R', R = k :: R') → (S = [] ∨ ∃ S', S = k :: S') → x ++ R = y ++ S → x = y ∧ R = S
  | [], [], R, S, _, _, _, _, h => ⟨rfl, by simpa using h⟩
  | [], b :: y, R, S, _, hy, hR, _, h => by
    rcases hR with rfl | ⟨R', rfl⟩
    · simp at h
    · simp at h
      exact absurd h.1.symm (hy b (by simp))
  | a :: x, [], R, S, hx, _, _, hS, h => by
    rcases hS with rfl | ⟨S', rfl⟩
    · simp at h
    · simp at h
      exact absurd h.1 (hx a (by simp))
  | a :: x, b :: y, R, S, hx, hy, hR, hS, h => by
    simp only [List.cons_append, List.cons.injEq] at h
    obtain ⟨h1, h2⟩ := seg_inj k x y R S (fun z hz => hx z (by simp [hz])) (fun z hz => hy z (by simp [hz])) hR hS h.2
    exact ⟨by rw [h.1, h1], h2⟩
theorem lineS_inj : ∀ (x y : List OpsM.Ln), (∀ z ∈ x, OpsM.rightL z = true ∧ NumM.inR z.n) → (∀ z ∈ y, OpsM.rightL z = true ∧ NumM.inR z.n) → x.map lineS = y.map lineS → x = y
  | [], [], _, _, _ => rfl
  | [], b :: y, _, _, h => by simp at h
  | a :: x, [], _, _, h => by simp at h
  | a :: x, b :: y, hx, hy, h => by
    simp only [List.map_cons, List.cons.injEq] at h
    have e := line_inj (hx a (by simp)).1 (hy b (by simp)).1 (hx a (by simp)).2 (hy b (by simp)).2 h.1
    rw [e, lineS_inj x y (fun z hz => hx z (by simp [hz])) (fun z hz => hy z (by simp [hz])) h.2]
theorem body_kind (ts : List (List OpsM.Ln)) : bodyL ts = [] ∨ ∃ R, bodyL ts = kthread :: R := by
  cases ts with
  | nil => exact Or.inl rfl
  | cons x r => exact Or.inr ⟨_, by rw [bodyL_cons]; rfl⟩
theorem body_inj : ∀ (a b : List (List OpsM.Ln)), (∀ ls ∈ a, ∀ z ∈ ls, OpsM.rightL z = true ∧ NumM.inR z.n) → (∀ ls ∈ b, ∀ z ∈ ls, OpsM.rightL z = true ∧ NumM.inR z.n) → bodyL a = bodyL b → a = b
  | [], [], _, _, _ => rfl
  | [], y :: s, _, _, h => by rw [bodyL_cons] at h; cases h
  | x :: r, [], _, _, h => by rw [bodyL_cons] at h; cases h
  | x :: r, y :: s, ha, hb, h => by
    rw [bodyL_cons, bodyL_cons] at h
    simp only [List.cons_append, List.cons.injEq, true_and] at h
    have hx := ha x (by simp)
    have hy := hb y (by simp)
    obtain ⟨h1, h2⟩ := seg_inj kthread (x.map lineS) (y.map lineS) (bodyL r) (bodyL s)
      (fun z hz => by obtain ⟨q, hq, rfl⟩ := List.mem_map.1 hz; exact line_thread (hx q hq).1 (hx q hq).2)
      (fun z hz => by obtain ⟨q, hq, rfl⟩ := List.mem_map.1 hz; exact line_thread (hy q hq).1 (hy q hq).2) (body_kind r) (body_kind s) h
    rw [lineS_inj x y hx hy h1, body_inj r s (fun l hl => ha l (by simp [hl])) (fun l hl => hb l (by simp [hl])) h2]
theorem initW_inj : ∀ (a b : List (L × Int)), (∀ c ∈ a, NumM.inR c.2) → (∀ c ∈ b, NumM.inR c.2) → (a.map (fun c => [c.1, NumM.text c.2])).flatten = (b.map (fun c => [c.1, NumM.text c.2])).flatten → a = b
  | [], [], _, _, _ => rfl
  | [], y :: s, _, _, h => by simp at h
  | x :: r, [], _, _, h => by simp at h
  | x :: r, y :: s, ha, hb, h => by
    simp only [List.map_cons, List.flatten_cons, List.cons_append, List.nil_append, List.cons.injEq] at h
    have e : x = y := Prod.ext h.1 (NumM.text_inj _ _ (ha x (by simp)) (hb y (by simp)) h.2.1)
    rw [e, initW_inj r s (fun l hl => ha l (by simp [hl])) (fun l hl => hb l (by simp [hl])) h.2.2]
theorem wordA_inj : ∀ (a b : List AtomM.At), (∀ c ∈ a, AtomM.askedA c = true ∧ NumM.inR c.n) → (∀ c ∈ b, AtomM.askedA c = true ∧ NumM.inR c.n) → a.map AtomM.wordA = b.map AtomM.wordA → a = b
  | [], [], _, _, _ => rfl
  | [], y :: s, _, _, h => by simp at h
  | x :: r, [], _, _, h => by simp at h
  | x :: r, y :: s, ha, hb, h => by
    simp only [List.map_cons, List.cons.injEq] at h
    have e := AtomM.word_inj (ha x (by simp)).1 (hb y (by simp)).1 (ha x (by simp)).2 (hb y (by simp)).2 h.1
    rw [e, wordA_inj r s (fun l hl => ha l (by simp [hl])) (fun l hl => hb l (by simp [hl])) h.2]
theorem print_inj {F G : Fl} (hF : FR F) (hG : FR G) (h : printR F = printR G) : F = G := by
  have e : linesL F = linesL G := by rw [← lines_print hF, h, lines_print hG]
  unfold linesL at e
  simp only [List.cons.injEq] at e
  obtain ⟨e1, e2, e3⟩ := e
  have q1 := inkw_words (head_ink hF)
  rw [e1, inkw_words (head_ink hG)] at q1
  have q2 := inkw_words (init_ink hF)
  rw [e2, inkw_words (init_ink hG)] at q2
  obtain ⟨e4, e5⟩ := List.append_inj' e3 rfl
  have q3 := inkw_words (end_ink hF)
  have e6 : joinL (endW F.all F.cond) = joinL (endW G.all G.cond) := by simpa using e5
  rw [e6, inkw_words (end_ink hG)] at q3
  have t1 : G.name = F.name := by simpa using q1
  have t2 : G.init = F.init := initW_inj _ _ (fun c hc => (hG.init c hc).2) (fun c hc => (hF.init c hc).2) (by unfold initW at q2; exact (List.cons.inj q2).2)
  have t3 := body_inj _ _ hF.ths hG.ths e4
  unfold endW at q3
  have t4 : G.all = F.all := by
    have := (List.cons.inj q3).1
    cases hf : F.all <;> cases hg : G.all <;> rw [hf, hg] at this <;> first | rfl | exact absurd this (by decide)
  have t5 := wordA_inj _ _ hG.cond hF.cond (List.cons.inj q3).2
  cases F; cases G
  simp_all
set_option maxRecDepth 100000 in
theorem print_len {F : Fl} (hp : FlP F) (hn : F.ths.length ≤ 9 ∧ F.init.length ≤ 60 ∧ F.cond.length ≤ 60 ∧ ∀ ls ∈ F.ths, ls.length ≤ 100) : (printL F).length ≤ 1000000000 := by
  obtain ⟨n1, n2, n3, n4⟩ := hn
  have a1 : (lineTx [kx86, F.name]).length ≤ 200003 := by
    have := lineTx_len (M := 100000) (ls := [kx86, F.name]) (fun l hl => by
      simp only [List.mem_cons, List.not_mem_nil, or_false] at hl
      rcases hl with rfl | rfl
      · decide
      · exact hp.ok.name)
    simp only [List.length_cons, List.length_nil] at this; omega
  have a2 : (lineTx (initW F.init)).length ≤ 20000000 := by
    have h1 := lineTx_len (initW_words (fun c hc => hp.ok.init c hc) hp.init)
    have h2 : (initW F.init).length * (100000 + 1) ≤ 121 * (100000 + 1) := Nat.mul_le_mul_right _ (by rw [initW_len]; omega)
    omega
  have a3 : (thsTx F.ths).length ≤ 400000000 := by
    have h1 := thsTx_len (ts := F.ths) (M := 100) (fun ls hl => ⟨n4 ls hl, hp.ths ls hl⟩)
    have h2 : F.ths.length * ((100 + 1) * 400000) ≤ 9 * ((100 + 1) * 400000) := Nat.mul_le_mul_right _ n1
    omega
  have a4 : (lineTx (endW F.all F.cond)).length ≤ 20000000 := by
    have h1 := lineTx_len (endW_words (al := F.all) (fun a ha => (hp.cond a ha).1) (fun a ha => ⟨(hp.ok.cond a ha).2, (hp.cond a ha).2⟩))
    have h2 : (endW F.all F.cond).length * (100000 + 1) ≤ 61 * (100000 + 1) := Nat.mul_le_mul_right _ (by rw [endW_len]; omega)
    omega
  unfold printL
  split
  · unfold printR
    simp only [List.length_append]; omega
  · simp
theorem apart {F G : Fl} (hF : VM.right F = true) (hG : VM.right G = true) (pF : FlP F) (pG : FlP G) : printL F = printL G ↔ F = G := by
  unfold printL
  rw [if_pos hF, if_pos hG]
  exact ⟨print_inj (fr_of hF pF) (fr_of hG pG), fun e => by rw [e]⟩
end Go.Proofs.YtkkjodjachbifaaGreatDoor
