/-
  word.Words: the words of a line, told by an iterator, over any world.
-/
import Derived.RangeFuncNested
import Derived.RangeFuncBound
import Derived.RangeFuncCalls
import Derived.RangeFuncLeaves
import Derived.RangeFuncBox
import Derived.Shelf.Abstract
import Derived.WalkKit
import Derived.OwnWalkIn
import Derived.TacticsInMore
import Derived.LoopNIn
import Derived.LoopIn
import Derived.Maps.AppendAt
import Derived.Test.YtmpjcfehabnhgaaDoorK00
import Derived.Test.YtmpjcfehabnhgaaDoorK08
namespace Go.Proofs.YtmpjcfehabnhgaaDoor
open Go.RowKit Go.Shelf
set_option linter.unusedVariables false
open WordM (L)
attribute [local go_sem] Oper.semAt_some

def strSz : Value → Nat | .string b => b.size | _ => 0

theorem words_cut (t : ByteArray) (h : t.data.toList ≠ []) : WordM.words t.data.toList = (if (cutA 32 t).data.toList = [] then [] else [(cutA 32 t).data.toList]) ++ WordM.words (cutR 32 t).data.toList := by
  unfold WordM.words
  rw [(cut_chunks 32 t h).1, List.filter_cons]
  by_cases e : (cutA 32 t).data.toList = []
  · rw [if_pos e, e]; rfl
  · rw [if_neg e]
    have : WordM.full (cutA 32 t).data.toList = true := by
      unfold WordM.full
      simpa using e
    rw [if_pos this]; rfl
theorem abides_drewN {β : Type} {B : Nat} {J : β → World → Prop} (h : AbidesFrom B J) {s : β} {W : World} (hs : J s W) (n : Nat) : J s (W.drewN n) :=
  h s W _ none hs ⟨rfl, rfl, rfl, Nat.le_refl _, fun _ _ _ => rfl⟩ (fun r e => by cases e)

set_option maxRecDepth 100000 in
set_option maxHeartbeats 1000000 in
theorem told1_in (n : Nat) (hn : 1 ≤ n) (l Bn n₀ : Nat) (s : ByteArray) (hs : s.size ≤ 1000000000) (J Jx : List L → World → Prop) (B : Nat) (hJ : AbidesFrom B J)
    (hY : ∀ pre x W, J pre W → pre.length < (WordM.words s.data.toList).length → YieldAt Fence.wide (n - 1) Tryd.prog l #[sv x] W fun e W' =>
      (e = .returned (.bool true) ∧ J (pre ++ [x]) W' ∧ Below n₀ W W') ∨ (e = .returned (.bool false) ∧ Jx (pre ++ [x]) W'))
    (W : World) (hBn : W.cell? ⟨Bn, 0, none⟩ = some (.string s)) (h0 : J [] W) :
    CallsIn Fence.wide n Tryd.prog 58 #[.func (.yield l) #[] #[], .pointer (some ⟨Bn, 0, none⟩)] W fun e W' => (∃ v, e = .returned v) ∧
      ((∃ ys, ys = WordM.words s.data.toList ∧ J ys W') ∨ (∃ pre, pre <+: WordM.words s.data.toList ∧ Jx pre W')) := by
  refine callsIn_of_wp Tryd.func58 rfl trivial ?_ rfl
  simp only [Tryd.ntmps58, List.size_toArray, List.length_cons, List.length_nil, Nat.reduceAdd, Nat.reduceSub, Array.replicate_succ, Array.replicate_zero, List.push_toArray, List.append_toArray, List.nil_append, List.cons_append]
  gi_wp2
  gi_loopw [3] (fun p wr => ∃ (pre : List L) (t : ByteArray), p = .string t ∧ WordM.words s.data.toList = pre ++ WordM.words t.data.toList ∧ t.size ≤ s.size ∧ J pre wr)
    (fun p wr => strSz p)
  case atStart => exact ⟨[], s, rfl, rfl, Nat.le_refl _, h0⟩
  case round =>
    obtain ⟨pre, t, rfl, hx, hts, hJs⟩ := hrel
    by_cases hne : t.data.toList = []
    · have hq1 : t.toList = [] := by rw [Lib.toList_data]; exact hne
      have hq2 : (!t.toList.isEmpty) = false := by rw [hq1]; rfl
      have HX := Lib.hid hx
      clear hx
      gi_wp2
      go_end0
      refine ⟨⟨_, rfl⟩, .inl ⟨pre, ?_, hJs⟩⟩
      rw [HX.out, hne]; simp [WordM.words, WordM.chunks]
    · have hq1 : ¬ t.toList = [] := by rw [Lib.toList_data]; exact hne
      have hq2 : (!t.toList.isEmpty) = true := by simpa using hq1
      have hw := words_cut t hne
      have hsz := (cut_chunks 32 t hne).2
      have htm : t.size ≤ maxLen := by unfold maxLen; omega
      by_cases he : (cutA 32 t).data.toList = []
      · have he1 : (cutA 32 t).toList = [] := by rw [Lib.toList_data]; exact he
        have he2 : (!(cutA 32 t).toList.isEmpty) = false := by rw [he1]; rfl
        rw [if_pos he, List.nil_append] at hw
        rw [hw] at hx
        have HX := Lib.hid hx
        clear hx hw
        gi_wp2_with fail
        refine ⟨trivial, ?_⟩
        refine (callsIn_wide.2 (cut_any t 32 _ htm)).mono ?_
        rintro e w' ⟨rfl, nd, rfl⟩
        gi_wp2
        refine ⟨fun _ h => (by cases h), ?_⟩
        gi_wp2
        go_roundw
        case rel => exact ⟨pre, cutR 32 t, rfl, HX.out, by omega, abides_drewN hJ hJs nd⟩
        case measure => simp [strSz]; omega
      · have he1 : ¬ (cutA 32 t).toList = [] := by rw [Lib.toList_data]; exact he
        have he2 : (!(cutA 32 t).toList.isEmpty) = true := by simpa using he1
        rw [if_neg he] at hw
        rw [hw] at hx
        have hlen : pre.length < (WordM.words s.data.toList).length := by rw [hx]; simp
        have HX := Lib.hid hx
        clear hx hw
        gi_wp2_with fail
        refine ⟨trivial, ?_⟩
        refine (callsIn_wide.2 (cut_any t 32 _ htm)).mono ?_
        rintro e w' ⟨rfl, nd, rfl⟩
        have hJ2 := abides_drewN hJ hJs nd
        obtain ⟨fn, tmps, assign, body, hy, hR⟩ := hY pre (cutA 32 t).data.toList (wr.drewN nd) hJ2 hlen
        rw [sv_data] at hy
        gi_wp2
        refine hR.mono ?_
        rintro e W3 (⟨rfl, hJ3, hk3⟩ | ⟨rfl, hJx3⟩)
        · gi_wp2
          go_roundw
          case rel => exact ⟨pre ++ [(cutA 32 t).data.toList], cutR 32 t, rfl, by rw [HX.out]; simp, by omega, hJ3⟩
          case measure => simp [strSz]; omega
        · gi_wp2
          refine bodyPost_ret (results_none rfl _ _ _) rfl ?_
          exact ⟨⟨_, rfl⟩, .inr ⟨pre ++ [(cutA 32 t).data.toList], ⟨WordM.words (cutR 32 t).data.toList, by rw [HX.out]; simp⟩, hJx3⟩⟩

set_option maxHeartbeats 1000000 in
theorem told_in (n : Nat) (s : ByteArray) (w : World) :
    CallsIn Fence.wide n Tryd.prog 45 #[.string s] w fun e w' => e = .returned (.func (.func 58) #[] #[.pointer (some ⟨w.heap.size, 0, none⟩)]) ∧ w' = w.alloc (.cells #[.string s] 9) := by
  refine callsIn_of_wp Tryd.func45 rfl trivial ?_ rfl
  simp only [Tryd.ntmps45, List.size_toArray, List.length_cons, List.length_nil, Nat.reduceAdd, Nat.reduceSub, Array.replicate_succ, Array.replicate_zero, List.push_toArray, List.append_toArray, List.nil_append, List.cons_append]
  gi_wp2
  go_ret
  exact ⟨rfl, rfl⟩

theorem told_stops (n : Nat) (hn : 1 ≤ n) (Bn n₀ : Nat) (s : ByteArray) (hs : s.size ≤ 1000000000) (w : World) (hBn : Bn < w.heap.size) (hc : w.cell? ⟨Bn, 0, none⟩ = some (.string s)) :
    SeqStopsK Fence.wide n Tryd.prog 58 #[.pointer (some ⟨Bn, 0, none⟩)] (fun x : L => #[Value.string ⟨x.toArray⟩]) (Below n₀) (fun ys => ys = WordM.words s.data.toList) (fun pre => pre <+: WordM.words s.data.toList) (WordM.words s.data.toList).length w := fun l J Jx W hW hJ _ hY h0 =>
  told1_in n hn l Bn n₀ s hs J Jx W.heap.size hJ hY W ((hW.cell (p := ⟨Bn, 0, none⟩) hBn).trans hc) h0

theorem words_len (l : L) : (WordM.words l).length ≤ l.length := by
  have h : ∀ l : L, (WordM.chunks 32 l).length ≤ l.length := by
    intro l
    induction l with
    | nil => exact Nat.le_refl _
    | cons b l ih =>
      unfold WordM.chunks
      split
      · simp; exact ih
      · cases e : WordM.chunks 32 l with
        | nil => simp [WordM.consHd]
        | cons x r => rw [e] at ih; simp [WordM.consHd] at ih ⊢; omega
  unfold WordM.words
  exact Nat.le_trans (List.length_filter_le _ _) (h l)

set_option maxRecDepth 100000 in
set_option maxHeartbeats 2000000 in
theorem words_any (s : ByteArray) (w : World) (hs : s.size ≤ 1000000000) :
    Calls Tryd.prog 29 #[.string s] w (RetStrs (WordM.words s.data.toList) w) := by
  obtain ⟨i0, hi, hz0, hz1, hz2⟩ := info_parts info_string
  have hwl := words_len s.data.toList
  rw [← Lib.size_eq] at hwl
  refine (callsIn_wide (n := 3)).1 ?_
  refine callsIn_of_wp_marks Tryd.func29 rfl trivial ?_ rfl
  simp only [Tryd.ntmps29, List.size_toArray, List.length_cons, List.length_nil, Nat.reduceAdd, Nat.reduceSub, Array.replicate_succ, Array.replicate_zero, List.push_toArray, List.append_toArray, List.nil_append, List.cons_append]
  gi_wp2_with fail
  refine ⟨trivial, ?_⟩
  refine (told_in 2 s _).mono ?_
  rintro e w' ⟨rfl, rfl⟩
  gi_wp2
  have bO := Boxed.new w 58 (.slice none 0 0)
  have bN := Boxed.new (w.alloc (.cells #[.slice none 0 0] 58)) 9 (.string s)
  rw [World.size_alloc] at bN
  have hB0 : Below w.heap.size w ((w.alloc (.cells #[.slice none 0 0] 58)).alloc (.cells #[.string s] 9)) := ((Below.refl _ w).alloc (Nat.le_refl _) _).alloc (by simp) _
  refine wpIn_rangeFunc_ownG rfl (by omega) (gf := 58) (lb := #[.pointer (some ⟨w.heap.size + 1, 0, none⟩)]) rfl trivial (enters_of Tryd.func58 (by kernel_rfl) rfl)
    (told_stops 2 (by omega) (w.heap.size + 1) w.heap.size s hs _ (by simp) bN.cell) belowK_t (belowK_b (by simp; omega)) (Below.refl _ _) (fun _ => rfl)
    (fun pre W => (∃ v, Boxed W w.heap.size 58 v ∧ W.ownsRow w.heap.size 9 1 v pre.length (svs pre) ∧ True) ∧ Below w.heap.size w W)
    (fun _ _ _ => False)
    (OwnFrom.and (Own.from (holdsRow_own w.heap.size w.heap.size 58 9 1 (fun pre => pre.length) (fun pre => svs pre) (fun pre v => True)) _) (ownFrom_below (Nat.le_refl _) (by simp; omega)))
    (fun _ _ _ _ _ hs _ _ => hs)
    ⟨⟨_, bO.alloc _, World.ownsRow_nil _ _ _ _, trivial⟩, hB0⟩
    (fun x => { tmps := #[.string s, undef, .slice none 0 0, .pointer (some ⟨w.heap.size, 0, none⟩), Value.string ⟨x.toArray⟩, .string s, .func (.func 58) #[] #[.pointer (some ⟨w.heap.size + 1, 0, none⟩)], Value.string ⟨x.toArray⟩, undef, undef, undef, undef, undef], defers := [] }) ?assign ?body ?done ?stop
  case assign =>
    intro l x W K hK
    gi_wp2
    exact hK
  case body =>
    rintro l pre x W ⟨⟨v, hv, hrow, _⟩, hB⟩ hlt
    have hc := hv.cell
    gi_wp2_with (gi_at_builtin; refine wpListIn_append_own _ rfl _ _ 58 rfl w.heap.size 9 i0 (.string ⟨#[]⟩) 1 16 Tryd.underlying58 hi hz0 hz1 hz2 rfl (by decide) _ _ _ rfl (hrow.alloc _) ⟨W.heap.size, 0, none⟩ 1 1 [Value.string ⟨x.toArray⟩] rfl rfl (cell_one_new _ _ _) (by simp [Value.oneCell']) (by unfold maxLen; omega) (by omega) (by have := hB.size; simp; omega) ?_; intro v' w1 hown' hgrow _; obtain ⟨g', cap', rfl⟩ := ownsRow_succ hown'; obtain ⟨hv1, hv2, hr2, hk2, hb2⟩ := hv.appended (by decide) hrow hB.size (Nat.le_refl _) hown' hgrow; have hc1 := hv1.cell; have hf1 := hv1.frozen)
    exact ⟨hk2.from _, hb2, ⟨_, hv2, by rw [svs_snoc, List.length_append]; exact hr2, trivial⟩, hB.trans hb2⟩
  case done =>
    rintro D ys W hD rfl ⟨⟨v, hv, hrow, _⟩, hB⟩ hK
    have hc := hv.cell
    gi_wp2
    refine ⟨by simp, .inl ⟨_, _, rfl, run_takeDeferred hK, ?_⟩⟩
    exact ⟨_, results_tmp rfl _ _ _, v, rfl, ownsRow_putObj hrow _ hK rfl, hB.trans (belowK_b (w := w) (Nat.le_refl _) W D _ _ (by simp at hD; omega) hK rfl rfl)⟩
  case stop =>
    rintro D c pre W _ _ h _
    exact h.elim
end Go.Proofs.YtmpjcfehabnhgaaDoor
