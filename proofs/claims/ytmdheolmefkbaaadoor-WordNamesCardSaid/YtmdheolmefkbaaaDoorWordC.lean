/-
  THE DOCUMENT's OWN CUT, LINES AND WORDS, and whether two rows of texts are alike, over any world.
-/
import Derived.Test.YtmdheolmefkbaaaDoorWordL
import Derived.Test.YtmdheolmefkbaaaDoorWordS
import Derived.LoopTactic
import Derived.RegionTactic
namespace Go.Proofs.YtmdheolmefkbaaaDoor
open Go.RowKit
set_option linter.unusedVariables false
open WordM (L)

theorem take_snoc (s : ByteArray) (k : Nat) (h : k < s.size) : s.data.toList.take (k + 1) = s.data.toList.take k ++ [s[k]] := by
  rw [List.take_succ_eq_append_getElem (by simpa using h)]; rfl
theorem drop_at (s : ByteArray) (k : Nat) (h : k < s.size) : s.data.toList.drop k = s[k] :: s.data.toList.drop (k + 1) := by
  rw [List.drop_eq_getElem_cons (by simpa using h)]; rfl

/-- Whether two rows of texts are alike. -/
def sameB (a b : List L) : Bool := decide (a = b)
theorem sv_inj {a b : L} (h : sv a = sv b) : a = b := by
  unfold sv at h
  injection h with h
  have := congrArg (fun x : ByteArray => x.data.toList) h
  simpa using this

theorem sameB_len {a b : List L} (h : a.length ≠ b.length) : sameB a b = false := decide_eq_false (fun e => h (by rw [e]))
theorem sameB_at {a b : List L} (k : Nat) (ha : k < a.length) (hb : k < b.length) (h : a[k] ≠ b[k]) : sameB a b = false := decide_eq_false (fun e => by subst e; exact h rfl)
theorem sameB_all {a b : List L} (hl : a.length = b.length) (h : ∀ k (ha : k < a.length) (hb : k < b.length), a[k] = b[k]) : sameB a b = true :=
  decide_eq_true (List.ext_getElem hl h)

def SameRel (a b : List L) (w : World) (i : Value) (wr : World) : Prop :=
  ∃ k n : Nat, k ≤ a.length ∧ i = .int .i64 k ∧ wr = w.drewN n ∧ ∀ j (_ : j < k) (ha : j < a.length) (hb : j < b.length), a[j] = b[j]
set_option maxHeartbeats 1000000 in
set_option maxRecDepth 100000 in
theorem same_any (B : Nat) (va vb : Value) (a b : List L) (w : World) (ha : Strs B w va a) (hb : Strs B w vb b) :
    Calls Tryd.prog 10 #[va, vb] w fun e w' => e = .returned (.bool (sameB a b)) ∧ ∃ n, w' = w.drewN n := by
  obtain ⟨A1, c1, rfl, ha1, ha2, ha3⟩ := ha
  obtain ⟨A2, c2, rfl, hb1, hb2, hb3⟩ := hb
  unfold maxLen at ha2 hb2
  by_cases hl : a.length = b.length
  · have hl1 : (((a.length : Nat) : Int) != (b.length : Nat)) = false := by rw [hl]; simp
    have HL := Lib.hid hl
    have hl2 : a.length ≤ b.length := by omega
    clear hl
    go_enter Tryd.func10, Tryd.ntmps10
    go_wp2
    go_loopw [5] (fun i wr => SameRel a b w i wr) (fun i _ => a.length - (intOf i).toNat)
    case atStart => exact ⟨0, 0, Nat.zero_le _, rfl, rfl, fun j h => absurd h (by omega)⟩
    case round =>
      obtain ⟨k, n, hk, rfl, rfl, hall⟩ := hrel
      by_cases hlt : k < a.length
      · obtain ⟨b1, rfl, hb11, hc1⟩ := ha3 (by omega)
        obtain ⟨b2, rfl, hb21, hc2⟩ := hb3 (by omega)
        have h2 : k < b.length := by omega
        obtain ⟨x, hx⟩ : ∃ x : ByteArray, x = ⟨(a[k]).toArray⟩ := ⟨_, rfl⟩
        obtain ⟨y, hy⟩ : ∃ y : ByteArray, y = ⟨(b[k]).toArray⟩ := ⟨_, rfl⟩
        have hxl : x.toList = a[k] := by rw [hx, Lib.toList_data]
        have hyl : y.toList = b[k] := by rw [hy, Lib.toList_data]
        have d1 : w.cell? ⟨b1, k, none⟩ = some (.string x) := by rw [hx]; exact hc1 k hlt
        have d2 : w.cell? ⟨b2, k, none⟩ = some (.string y) := by rw [hy]; exact hc2 k h2
        clear hc1 hc2 ha3 hb3 hx hy
        by_cases he : a[k] = b[k]
        · have q1 : (x.toList == y.toList) = true := by rw [hxl, hyl, he]; simp
          have HE := Lib.hid he
          clear hxl hyl he
          have HA := Lib.hid hall
          clear hall
          go_wp2
          go_quiet (fail)
          go_wp2
          go_roundw
          case rel =>
            refine ⟨k + 1, _, by omega, by go_num, rfl, fun j h1 ha hb => ?_⟩
            by_cases hj : j = k
            · subst hj; exact HE.out
            · exact HA.out j (by omega) ha hb
          case measure => simp [intOf]; omega
        · have q1 : (x.toList == y.toList) = false := by rw [hxl, hyl]; simpa using he
          have HE := Lib.hid (sameB_at k hlt h2 he)
          clear hxl hyl he hall
          go_wp2
          go_quiet (fail)
          go_wp2
          go_ret
          exact ⟨by rw [HE.out]; rfl, n + _, by rw [World.drewN_drewN]⟩
      · obtain rfl : a.length = k := by omega
        have HE := Lib.hid (sameB_all HL.out (fun k ha hb => hall k ha ha hb))
        clear hall ha3 hb3
        go_wp2
        go_ret
        exact ⟨by rw [HE.out]; rfl, _, rfl⟩
  · have hl1 : (((a.length : Nat) : Int) != (b.length : Nat)) = true := by simp; omega
    have HE := Lib.hid (sameB_len hl)
    clear hl ha3 hb3
    go_enter Tryd.func10, Tryd.ntmps10
    go_wp2
    go_ret
    exact ⟨by rw [HE.out]; rfl, 0, rfl⟩

theorem u8_beq (x c : UInt8) : ((x.toNat : Int) == (c.toNat : Int)) = decide (x = c) := by
  by_cases h : x = c
  · subst h; simp
  · rw [decide_eq_false h, beq_eq_false_iff_ne]
    intro e
    exact h (UInt8.toNat_inj.1 (by omega))

/-- At a round of the document's cut: i bytes are read, those from k on are not cut off yet. -/
def CutRel (s : ByteArray) (c : UInt8) (w : World) (v i from_ : Value) (wr : World) : Prop :=
  ∃ (k f : Nat) (out : List L), k ≤ s.size ∧ f ≤ k ∧ i = .int .i64 k ∧ from_ = .int .i64 f ∧ out.length ≤ k ∧
    WordM.split c s.data.toList = out ++ WordM.split c (s.data.toList.drop f) ∧ (∀ j (h : j < s.size), f ≤ j → j < k → s[j] ≠ c) ∧
    wr.ownsRow w.heap.size 9 1 v out.length (svs out) ∧ Below w.heap.size w wr

theorem drop_part (s : ByteArray) (f k : Nat) (hf : f ≤ k) (hk : k ≤ s.size) : s.data.toList.drop f = (s.extract f k).data.toList ++ s.data.toList.drop k := by
  rw [Lib.extract_data]
  have := List.take_append_drop (k - f) (s.data.toList.drop f)
  rw [List.drop_drop, show f + (k - f) = k by omega] at this
  exact this.symm
theorem part_free (s : ByteArray) (c : UInt8) (f k : Nat) (hf : f ≤ k) (hk : k ≤ s.size) (h : ∀ j (h : j < s.size), f ≤ j → j < k → s[j] ≠ c) : c ∉ (s.extract f k).data.toList := by
  intro hm
  rw [Lib.extract_data, List.mem_iff_getElem] at hm
  obtain ⟨j, hj, e⟩ := hm
  have hl := Lib.size_eq s
  simp only [List.length_take, List.length_drop] at hj
  refine h (f + j) (by omega) (by omega) (by omega) ?_
  rw [← e]
  simp [List.getElem_take, List.getElem_drop]
  rfl

theorem cut_hit {s : ByteArray} {c : UInt8} {w wr w1 : World} {v v' : Value} {k f : Nat} {out : List L} {o : Obj} (hk : k < s.size) (hf : f ≤ k) (ho : out.length ≤ k)
    (hs : WordM.split c s.data.toList = out ++ WordM.split c (s.data.toList.drop f)) (hno : ∀ j (h : j < s.size), f ≤ j → j < k → s[j] ≠ c) (hc : s[k] = c)
    (hown : wr.ownsRow w.heap.size 9 1 v out.length (svs out)) (hB : Below w.heap.size w wr)
    (hown' : w1.ownsRow w.heap.size 9 1 v' (out.length + 1) (svs out ++ [.string (s.extract f k)])) (hg : (wr.alloc o).grownBy w1 v.ownBlock) :
    CutRel s c w v' (.int .i64 ((k : Int) + 1)) (.int .i64 ((k : Int) + 1)) w1 := by
  refine ⟨k + 1, k + 1, out ++ [(s.extract f k).data.toList], by omega, by omega, by go_num, by go_num, by simp; omega, ?_, fun j _ h1 h2 => by omega, ?_, ?_⟩
  · rw [hs, drop_part s f k hf (by omega), drop_at s k hk, hc, WordM.split_app c _ _ (part_free s c f k hf (by omega) hno)]; simp
  · rw [svs_snoc, sv_data, List.length_append]; exact hown'
  · exact below_append (hB.alloc hB.size o) (hown.alloc o) (Nat.le_refl _) (by have := hB.size; simp; omega) hg
theorem cut_miss {s : ByteArray} {c : UInt8} {w wr : World} {v : Value} {k f : Nat} {out : List L} (hk : k < s.size) (hf : f ≤ k) (ho : out.length ≤ k)
    (hs : WordM.split c s.data.toList = out ++ WordM.split c (s.data.toList.drop f)) (hno : ∀ j (h : j < s.size), f ≤ j → j < k → s[j] ≠ c) (hc : s[k] ≠ c)
    (hown : wr.ownsRow w.heap.size 9 1 v out.length (svs out)) (hB : Below w.heap.size w wr) :
    CutRel s c w v (.int .i64 ((k : Int) + 1)) (.int .i64 f) wr :=
  ⟨k + 1, f, out, by omega, by omega, by go_num, rfl, by omega, hs, fun j h h1 h2 => by
    by_cases e : j = k
    · subst e; exact hc
    · exact hno j h h1 (by omega), hown, hB⟩
theorem cut_end {s : ByteArray} {c : UInt8} {w wr w1 : World} {v v' : Value} {f : Nat} {out : List L} {o : Obj} (hf : f ≤ s.size)
    (hs : WordM.split c s.data.toList = out ++ WordM.split c (s.data.toList.drop f)) (hno : ∀ j (h : j < s.size), f ≤ j → j < s.size → s[j] ≠ c)
    (hown : wr.ownsRow w.heap.size 9 1 v out.length (svs out)) (hB : Below w.heap.size w wr)
    (hown' : w1.ownsRow w.heap.size 9 1 v' (out.length + 1) (svs out ++ [.string (s.extract f s.size)])) (hg : (wr.alloc o).grownBy w1 v.ownBlock) :
    RetStrs (WordM.split c s.data.toList) w (.returned v') w1 := by
  have e : WordM.split c s.data.toList = out ++ [(s.extract f s.size).data.toList] := by
    rw [hs, drop_part s f s.size hf (Nat.le_refl _), show s.data.toList.drop s.size = [] by rw [Lib.size_eq]; simp, List.append_nil, WordM.split_none c _ (part_free s c f s.size hf (Nat.le_refl _) hno)]
  refine ⟨v', rfl, ?_, below_append (hB.alloc hB.size o) (hown.alloc o) (Nat.le_refl _) (by have := hB.size; simp; omega) hg⟩
  rw [e, svs_snoc, sv_data, List.length_append]; exact hown'

set_option maxHeartbeats 1000000 in
set_option maxRecDepth 100000 in
theorem rcut_any (s : ByteArray) (c : UInt8) (w : World) (hs : s.size ≤ 100000) :
    Calls Tryd.prog 23 #[.string s, .int .u8 c.toNat] w (RetStrs (WordM.split c s.data.toList) w) := by
  obtain ⟨i0, hi, hz0, hz1, hz2⟩ := info_parts info_string
  go_enter Tryd.func23, Tryd.ntmps23
  go_wp2
  go_loopw [5, 6, 7] (fun v f i wr => CutRel s c w v i f wr) (fun _ _ i _ => s.size - (intOf i).toNat)
  case atStart => exact ⟨0, 0, [], Nat.zero_le _, Nat.le_refl _, rfl, rfl, Nat.le_refl _, rfl, fun j _ _ h => absurd h (by omega), World.ownsRow_nil _ _ _ _, Below.refl _ _⟩
  case round =>
    obtain ⟨k, f, out, hk, hf, rfl, rfl, ho, hsp, hno, hown, hB⟩ := hrel
    have HS := Lib.hid hsp
    have HN := Lib.hid hno
    clear hsp hno
    by_cases hlt : k < s.size
    · by_cases hc : s[k] = c
      · have q : ((s[k].toNat : Int) == (c.toNat : Int)) = true := by rw [u8_beq]; exact decide_eq_true hc
        have HC := Lib.hid hc
        clear hc
        go_wp2_with (at_builtin; refine wpList_append_own _ rfl _ _ 24 rfl w.heap.size 9 i0 (.string ⟨#[]⟩) 1 16 Tryd.underlying24 hi hz0 hz1 hz2 rfl (by decide) _ _ _ rfl (hown.alloc _) ⟨wr.heap.size, 0, none⟩ 1 1 [.string (s.extract f k)] rfl rfl (cell_one_new _ _ _) (by simp [Value.oneCell']) (by unfold maxLen; omega) (by omega) (by have := hB.size; simp; omega) ?_; intro v' w1 hown' hgrow _)
        go_roundw
        case rel => exact cut_hit hlt hf ho HS.out HN.out HC.out hown hB hown' hgrow
        case measure => simp [intOf]; omega
      · have q : ((s[k].toNat : Int) == (c.toNat : Int)) = false := by rw [u8_beq]; exact decide_eq_false hc
        have HC := Lib.hid hc
        clear hc
        go_wp2
        go_roundw
        case rel => exact cut_miss hlt hf ho HS.out HN.out HC.out hown hB
        case measure => simp [intOf]; omega
    · obtain rfl : s.size = k := by omega
      go_wp2_with (at_builtin; refine wpList_append_own _ rfl _ _ 24 rfl w.heap.size 9 i0 (.string ⟨#[]⟩) 1 16 Tryd.underlying24 hi hz0 hz1 hz2 rfl (by decide) _ _ _ rfl (hown.alloc _) ⟨wr.heap.size, 0, none⟩ 1 1 [.string (s.extract f s.size)] rfl rfl (cell_one_new _ _ _) (by simp [Value.oneCell']) (by unfold maxLen; omega) (by omega) (by have := hB.size; simp; omega) ?_; intro v' w1 hown' hgrow _)
      go_ret
      exact cut_end hf HS.out HN.out hown hB hown' hgrow
end Go.Proofs.YtmdheolmefkbaaaDoor
