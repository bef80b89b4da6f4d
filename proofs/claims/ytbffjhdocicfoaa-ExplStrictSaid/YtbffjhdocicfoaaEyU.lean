/-
  THE SEARCH: the way to a state; slices.Reverse.
-/
import Derived.Test.YtbffjhdocicfoaaEyT
namespace Go.Proofs.Ytbffjhdocicfoaa
open Go.RowKit Go.WideMaps
set_option linter.unusedVariables false
set_option linter.unusedSimpArgs false
open CodM (St Pg rightP hReg hLoc)
open BfM (Wr plc)
open NumM (inR)
open ScM EnM ExM ExN ExP EyP

theorem pk_cells {b g n cap : Nat} {zs : List (Nat × Bool)} {W : World} (h : W.ownsRow b 76 2 (.slice (some ⟨g, 0, none⟩) n cap) n (zs.flatMap pkC)) (hz : zs.length = n) {q : Nat} (hq : q < zs.length) : W.cell? ⟨g, q * 2, none⟩ = some (.int .i64 (zs[q].1 : Int)) ∧ W.cell? ⟨g, q * 2 + 1, none⟩ = some (.bool zs[q].2) :=
  ⟨(h.cellAt _ (by omega)).trans ((fl_at pkC_len zs q 0 hq (by omega)).trans rfl), (h.cellAt _ (by omega)).trans ((fl_at pkC_len zs q 1 hq (by omega)).trans rfl)⟩
theorem own_setC {base e size g n cap : Nat} : ∀ (vs a b : List Value) (w : World), w.ownsRow base e size (.slice (some ⟨g, 0, none⟩) n cap) n (a ++ b) → vs.length ≤ b.length →
    (w.setCells g a.length vs).ownsRow base e size (.slice (some ⟨g, 0, none⟩) n cap) n (a ++ (vs ++ b.drop vs.length))
  | [], a, b, w, h, _ => by simpa [World.setCells] using h
  | v :: r, a, [], w, h, hl => absurd hl (by simp)
  | v :: r, a, x :: b, w, h, hl => by
    have h1 := (h.stored a.length v).1
    rw [List.set_append_right _ _ (Nat.le_refl _), Nat.sub_self, List.set_cons_zero, show a ++ v :: b = (a ++ [v]) ++ b from by simp] at h1
    have h2 := own_setC r (a ++ [v]) b _ h1 (by simpa using hl)
    rw [World.setCells]
    rw [List.length_append, List.length_singleton] at h2
    simpa using h2
theorem pk_set {b g n cap : Nat} {zs : List (Nat × Bool)} {W : World} (h : W.ownsRow b 76 2 (.slice (some ⟨g, 0, none⟩) n cap) n (zs.flatMap pkC)) (hz : zs.length = n) {q : Nat} (hq : q < zs.length) (x : Nat × Bool) :
    ((W.setCell ⟨g, q * 2, none⟩ (.int .i64 (x.1 : Int))).setCell ⟨g, q * 2 + 1, none⟩ (.bool x.2)).ownsRow b 76 2 (.slice (some ⟨g, 0, none⟩) n cap) n ((zs.set q x).flatMap pkC) := by
  have e : zs.flatMap pkC = (zs.take q).flatMap pkC ++ (zs.drop q).flatMap pkC := by rw [← List.flatMap_append, List.take_append_drop]
  have el : ((zs.take q).flatMap pkC).length = q * 2 := by rw [fl_len pkC_len, List.length_take]; omega
  have el2 : ((zs.drop q).flatMap pkC).length = (n - q) * 2 := by rw [fl_len pkC_len, List.length_drop, hz]
  have ed : (zs.drop q).flatMap pkC = pkC zs[q] ++ (zs.drop (q + 1)).flatMap pkC := by rw [List.drop_eq_getElem_cons hq]; rfl
  rw [e] at h
  have h3 := own_setC (pkC x) _ _ W h (by rw [el2]; show 2 ≤ _; omega)
  rw [el, ed, List.drop_left' (by rw [pkC_len, pkC_len])] at h3
  have e4 : (zs.set q x).flatMap pkC = (zs.take q).flatMap pkC ++ (pkC x ++ (zs.drop (q + 1)).flatMap pkC) := by
    rw [List.set_eq_take_append_cons_drop, if_pos hq, List.flatMap_append, List.flatMap_cons]
  rw [e4]; exact h3
theorem own_fr {base e size g n cap : Nat} {w : World} {xs : List Value} (h : w.ownsRow base e size (.slice (some ⟨g, 0, none⟩) n cap) n xs) (j : Nat) : w.frozen? ⟨g, j, none⟩ = false := by
  rcases h.2 with ⟨h', _⟩ | ⟨g', cap', cur, h', hb, hg, _⟩
  · simp at h'
  · simp only [Value.slice.injEq, Option.some.injEq, Addr.mk.injEq, and_true, true_and] at h'
    obtain ⟨rfl, rfl⟩ := h'
    simp [World.frozen?, hg]
/-- Half turned: i of them at each side. -/
def Rev (zs : List (Nat × Bool)) (i : Nat) (cur : List (Nat × Bool)) : Prop := ∃ A M C, zs = A ++ M ++ C ∧ cur = C.reverse ++ M ++ A.reverse ∧ A.length = i ∧ C.length = i
theorem Rev.len {zs cur : List (Nat × Bool)} {i : Nat} (h : Rev zs i cur) : cur.length = zs.length := by
  obtain ⟨A, M, C, rfl, rfl, h1, h2⟩ := h
  simp; omega
theorem Rev.next {zs cur : List (Nat × Bool)} {i j : Nat} (h : Rev zs i cur) (hij : i < j) (hj : i + j + 1 = zs.length) : ∃ (h1 : i < cur.length) (h2 : j < cur.length), Rev zs (i + 1) ((cur.set i cur[j]).set j cur[i]) := by
  have hl := h.len
  obtain ⟨A, M, C, rfl, rfl, h1, h2⟩ := h
  have hm : M.length = j + 1 - i := by simp at hj; omega
  obtain ⟨u, M1, rfl⟩ : ∃ u M1, M = u :: M1 := by
    cases M with
    | nil => simp at hm; omega
    | cons u M1 => exact ⟨u, M1, rfl⟩
  obtain ⟨M2, v, rfl⟩ : ∃ M2 v, M1 = M2 ++ [v] := by
    rcases List.eq_nil_or_concat M1 with rfl | ⟨b, c, e⟩
    · simp at hm; omega
    · exact ⟨b, c, by rw [e]; simp⟩
  have hm2 : M2.length = j - i - 1 := by simp at hm; omega
  have e : C.reverse ++ (u :: (M2 ++ [v])) ++ A.reverse = C.reverse ++ u :: (M2 ++ v :: A.reverse) := by simp
  have q1 : i < (C.reverse ++ (u :: (M2 ++ [v])) ++ A.reverse).length := by simp; omega
  have q2 : j < (C.reverse ++ (u :: (M2 ++ [v])) ++ A.reverse).length := by simp; omega
  refine ⟨q1, q2, A ++ [u], M2, v :: C, by simp, ?_, by simp; omega, by simp; omega⟩
  have e1 : (C.reverse ++ (u :: (M2 ++ [v])) ++ A.reverse)[i] = u := by
    simp only [e]
    rw [List.getElem_append_right (by simp; omega)]; simp [h2]
  have e2 : (C.reverse ++ (u :: (M2 ++ [v])) ++ A.reverse)[j] = v := by
    simp only [e]
    rw [List.getElem_append_right (by simp; omega)]
    simp only [List.length_reverse, h2]
    rw [List.getElem_cons]
    rw [dif_neg (by omega), List.getElem_append_right (by omega)]
    simp [hm2, show j - i - 1 - (j - i - 1) = 0 by omega]
  rw [e1, e2, e]
  rw [List.set_append_right _ _ (by simp; omega)]
  simp only [List.length_reverse, h2, Nat.sub_self, List.set_cons_zero]
  rw [List.set_append_right _ _ (by simp; omega)]
  simp only [List.length_reverse, h2]
  rw [show j - i = (j - i - 1) + 1 by omega, List.set_cons_succ, List.set_append_right _ _ (by omega), hm2, Nat.sub_self, List.set_cons_zero]
  simp
theorem Rev.done {zs cur : List (Nat × Bool)} {i : Nat} (h : Rev zs i cur) (hi : zs.length ≤ i + i + 1) : cur = zs.reverse := by
  obtain ⟨A, M, C, rfl, rfl, h1, h2⟩ := h
  have hm : M.length ≤ 1 := by simp at hi; omega
  match M, hm with
  | [], _ => simp
  | [x], _ => simp
theorem Rev.start (zs : List (Nat × Bool)) : Rev zs 0 zs := ⟨[], zs, [], by simp, by simp, rfl, rfl⟩
theorem gb_set4 {g : Nat} (W : World) (i j k l : Nat) (a b c d : Value) : W.grownBy ((((W.setCell ⟨g, i, none⟩ a).setCell ⟨g, j, none⟩ b).setCell ⟨g, k, none⟩ c).setCell ⟨g, l, none⟩ d) (some g) :=
  ⟨rfl, rfl, rfl, by simp, fun q hq hne => by
    have : q ≠ g := fun e => hne (by rw [e])
    rw [heap_setCell_other _ ⟨g, l, none⟩ q d this, heap_setCell_other _ ⟨g, k, none⟩ q c this, heap_setCell_other _ ⟨g, j, none⟩ q b this, heap_setCell_other _ ⟨g, i, none⟩ q a this]⟩
/-- The row while it is turned. -/
structure RvK (b n cap g : Nat) (w : World) (zs : List (Nat × Bool)) (i : Nat) (cur : List (Nat × Bool)) (W : World) : Prop where
  own : W.ownsRow b 76 2 (.slice (some ⟨g, 0, none⟩) n cap) n (cur.flatMap pkC)
  rev : Rev zs i cur
  kept : ∀ k, k < w.heap.size → k ≠ g → W.heap[k]? = w.heap[k]?
  rest : W.os = w.os ∧ W.tape = w.tape ∧ W.output = w.output ∧ w.heap.size ≤ W.heap.size
theorem RvK.step {b n cap g : Nat} {w : World} {zs : List (Nat × Bool)} {i j : Nat} {cur : List (Nat × Bool)} {W : World} (h : RvK b n cap g w zs i cur W) (hz : zs.length = n) (hij : i < j) (hj : i + j + 1 = n) (h1 : i < cur.length) (h2 : j < cur.length) :
    RvK b n cap g w zs (i + 1) ((cur.set i cur[j]).set j cur[i]) ((((W.setCell ⟨g, i * 2, none⟩ (.int .i64 (cur[j].1 : Int))).setCell ⟨g, i * 2 + 1, none⟩ (.bool cur[j].2)).setCell ⟨g, j * 2, none⟩ (.int .i64 (cur[i].1 : Int))).setCell ⟨g, j * 2 + 1, none⟩ (.bool cur[i].2)) := by
  obtain ⟨q1, q2, hr⟩ := h.rev.next hij (by omega)
  have hl := h.rev.len
  have hg := gb_set4 (g := g) W (i * 2) (i * 2 + 1) (j * 2) (j * 2 + 1) (.int .i64 (cur[j].1 : Int)) (.bool cur[j].2) (.int .i64 (cur[i].1 : Int)) (.bool cur[i].2)
  refine ⟨pk_set (pk_set h.own (by omega) h1 cur[j]) (by rw [List.length_set]; omega) (by rw [List.length_set]; exact h2) cur[i], hr, fun k hk hne => ?_, ?_⟩
  · exact (hg.block k (Nat.lt_of_lt_of_le hk h.rest.2.2.2) (fun e => by injection e with e; exact hne e)).trans (h.kept k hk hne)
  · exact ⟨hg.os.trans h.rest.1, hg.tape.trans h.rest.2.1, hg.output.trans h.rest.2.2.1, Nat.le_trans h.rest.2.2.2 hg.size⟩
theorem RvK.grown {b n cap g : Nat} {w : World} {zs : List (Nat × Bool)} {i : Nat} {cur : List (Nat × Bool)} {W W' : World} (h : RvK b n cap g w zs i cur W) (hb : Below W.heap.size W W') : RvK b n cap g w zs i cur W' :=
  ⟨own_below h.own hb, h.rev, fun k hk hne => (hb.block k (Nat.lt_of_lt_of_le hk h.rest.2.2.2)).trans (h.kept k hk hne), hb.os.trans h.rest.1, hb.tape.trans h.rest.2.1, hb.output.trans h.rest.2.2.1, Nat.le_trans h.rest.2.2.2 hb.size⟩
theorem RvK.set2 {b n cap g : Nat} {w : World} {zs : List (Nat × Bool)} {i j q : Nat} {cur : List (Nat × Bool)} {W : World} (h : RvK b n cap g w zs i cur W) (hz : zs.length = n) (h1 : i < cur.length) (h2 : j < cur.length) (hq : q < n) :
    ∃ a c, (((W.setCell ⟨g, i * 2, none⟩ (.int .i64 (cur[j].1 : Int))).setCell ⟨g, i * 2 + 1, none⟩ (.bool cur[j].2)).cell? ⟨g, q * 2, none⟩ = some a ∧ ((W.setCell ⟨g, i * 2, none⟩ (.int .i64 (cur[j].1 : Int))).setCell ⟨g, i * 2 + 1, none⟩ (.bool cur[j].2)).cell? ⟨g, q * 2 + 1, none⟩ = some c) := by
  have hl := h.rev.len
  have ho := pk_set h.own (by omega) h1 cur[j]
  obtain ⟨a, c⟩ := pk_cells ho (by rw [List.length_set]; omega) (q := q) (by rw [List.length_set]; omega)
  exact ⟨_, _, a, c⟩
set_option maxHeartbeats 4000000 in
set_option maxRecDepth 100000 in
theorem prev_any {b n cap : Nat} {A : Option Addr} {zs : List (Nat × Bool)} (w : World) (h : w.ownsRow b 76 2 (.slice A n cap) n (zs.flatMap pkC)) (hz : zs.length = n) (hn : n ≤ 1000000) :
    Calls Try.prog 55 #[.slice A n cap] w (fun e w' => e = .returned (.tuple #[]) ∧ w'.ownsRow b 76 2 (.slice A n cap) n (zs.reverse.flatMap pkC) ∧ ∀ B, B ≤ b → B ≤ w.heap.size → Below B w w') := by
  rcases id h.2 with ⟨e, h0⟩ | ⟨g, cp, cur0, e, hbg, -⟩
  · injection e with e1 e0 e2
    subst e1 e2
    subst e0
    have : zs = [] := List.length_eq_zero_iff.1 hz
    subst this
    have HO := Lib.hid h
    clear h hz
    go_enter Try.func55, Try.ntmps55
    go_wp2
    go_loopw [2, 3] (fun x y wr => x = .int .i64 0 ∧ y = .int .i64 (-1) ∧ wr = w) (fun _ _ _ => 0)
    case atStart => exact ⟨rfl, by go_num, rfl⟩
    case round =>
      obtain ⟨rfl, rfl, rfl⟩ := hrel
      go_wp2
      refine bodyPost_end (v := .tuple #[]) (by simp [results, Try.results55, go_sem]) rfl ?_
      exact ⟨rfl, HO.out, fun B _ _ => Below.refl _ _⟩
  · injection e with e1 e0 e2
    clear e0
    subst e1 e2
    have HBG := Lib.hid hbg
    have HGL := Lib.hid (h.lt g rfl).2
    have H0 := Lib.hid (show RvK b n cap g w zs 0 zs w from ⟨h, Rev.start zs, fun _ _ _ => rfl, rfl, rfl, rfl, Nat.le_refl _⟩)
    have HZ := Lib.hid hz
    clear h hz hbg
    go_enter Try.func55, Try.ntmps55
    go_wp2
    go_loopw [2, 3] (fun x y wr => ∃ (i : Nat) (cur : List (Nat × Bool)), x = .int .i64 i ∧ y = .int .i64 ((n : Int) - 1 - i) ∧ i ≤ n ∧ Hid (RvK b n cap g w zs i cur wr)) (fun x _ _ => n - (intOf x).toNat)
    case atStart => exact ⟨0, zs, by go_num, by go_num, Nat.zero_le _, H0⟩
    case round =>
      obtain ⟨i, cur, rfl, rfl, hi, HK⟩ := hrel
      by_cases hlt : (i : Int) < (n : Int) - 1 - i
      · obtain ⟨j, hj⟩ : ∃ j : Nat, (j : Int) = (n : Int) - 1 - i := ⟨n - 1 - i, by omega⟩
        rw [← hj] at hlt ⊢
        have hl := HK.out.rev.len
        have hzz := HZ.out
        have hi1 : i < cur.length := by omega
        have hi2 : j < cur.length := by omega
        have HJ := Lib.hid (show i < j ∧ i + j + 1 = n from by omega)
        have hjn : j < n := by omega
        have hin : i < n := by omega
        obtain ⟨x0, x1⟩ := pk_cells HK.out.own (by omega) hi1
        obtain ⟨y0, y1⟩ := pk_cells HK.out.own (by omega) hi2
        have f0 := own_fr HK.out.own (i * 2)
        have f1 := own_fr HK.out.own (i * 2 + 1)
        have HS := Lib.hid (HK.out.step HZ.out HJ.out.1 HJ.out.2 hi1 hi2)
        have HT := HK.out.set2 HZ.out hi1 hi2 hjn
        have HFR := Lib.hid (pk_set HK.out.own (by omega) hi1 cur[j])
        obtain ⟨cur2, hc2⟩ : ∃ c, c = (cur.set i cur[j]).set j cur[i] := ⟨_, rfl⟩
        obtain ⟨cur3, hc3⟩ : ∃ c, c = cur.set i cur[j] := ⟨_, rfl⟩
        rw [← hc2] at HS
        rw [← hc3] at HFR
        obtain ⟨x, hx⟩ : ∃ z, z = cur[i] := ⟨_, rfl⟩
        obtain ⟨y, hy⟩ : ∃ z, z = cur[j] := ⟨_, rfl⟩
        rw [← hx] at x0 x1 HS
        rw [← hy] at y0 y1 HS HT HFR
        clear hx hy hc2 hc3 hi1 hi2 hl hzz hj
        obtain ⟨x1', x2'⟩ := x
        obtain ⟨y1', y2'⟩ := y
        dsimp only at x0 x1 y0 y1 HS HT HFR
        go_upto_region 3 with fail
        refine wp_region_held_drew (S := (fun w' => True)) (by kernel_rfl) trivial (fun hHeld => ?_)
        refine wpAnyH_take (i := 0) (v := ?_) rfl (by kernel_rfl) (by kernel_rfl) (by kernel_rfl) (fun _ _ _ h => h) (Or.inl ⟨by rfl, ?_⟩) (by assumption) ?_
        rotate_left
        · intro w hSw; (try dsimp only at hSw); go_simp; (try with_reducible rfl)
        (try simp only [Act.put, pt8])
        refine wpAnyH_take (i := 1) (v := ?_) rfl (by kernel_rfl) (by kernel_rfl) (by kernel_rfl) (fun _ _ _ h => h) (Or.inl ⟨by rfl, ?_⟩) (by assumption) ?_
        rotate_left
        · intro w hSw; (try dsimp only at hSw); go_simp; (try with_reducible rfl)
        (try simp only [Act.put, pt8])
        refine wpAnyH_take (i := 2) (v := ?_) rfl (by kernel_rfl) (by kernel_rfl) (by kernel_rfl) (fun _ _ _ h => h) (Or.inl ⟨by rfl, ?_⟩) (by assumption) ?_
        rotate_left
        · intro w hSw; (try dsimp only at hSw); go_simp; (try with_reducible rfl)
        (try simp only [Act.put, pt8])
        refine wpAnyH_take (i := 3) (v := ?_) rfl (by kernel_rfl) (by kernel_rfl) (by kernel_rfl) (fun _ _ _ h => h) (Or.inl ⟨by rfl, ?_⟩) (by assumption) ?_
        rotate_left
        · intro w hSw; (try dsimp only at hSw); go_simp; (try with_reducible rfl)
        (try simp only [Act.put, pt8])
        refine wpAnyH_take (i := 4) (v := ?_) rfl (by kernel_rfl) (by kernel_rfl) (by kernel_rfl) (fun _ _ _ h => h) (Or.inl ⟨by rfl, ?_⟩) (by assumption) ?_
        rotate_left
        · intro w hSw; (try dsimp only at hSw); go_simp; (try with_reducible rfl)
        (try simp only [Act.put, pt8])
        refine wpAnyH_take (i := 5) (v := ?_) rfl (by kernel_rfl) (by kernel_rfl) (by kernel_rfl) (fun _ _ _ h => h) (Or.inl ⟨by rfl, ?_⟩) (by assumption) ?_
        rotate_left
        · intro w hSw; (try dsimp only at hSw); go_simp; (try with_reducible rfl)
        (try simp only [Act.put, pt8])
        refine wpAnyH_take (i := 6) (v := ?_) rfl (by kernel_rfl) (by kernel_rfl) (by kernel_rfl) (fun _ _ _ h => h) (Or.inl ⟨by rfl, ?_⟩) (by assumption) ?_
        rotate_left
        · intro w hSw; (try dsimp only at hSw); go_simp; (try with_reducible rfl)
        (try simp only [Act.put, pt8])
        refine wpAnyH_take (i := 8) (v := ?_) rfl (by kernel_rfl) (by kernel_rfl) (by kernel_rfl) (fun _ _ _ h => h) (Or.inl ⟨by rfl, ?_⟩) (by assumption) ?_
        rotate_left
        · intro w hSw; (try dsimp only at hSw); go_simp; (try with_reducible rfl)
        (try simp only [Act.put, pt8])
        refine wpAnyH_take (i := 9) (v := ?_) rfl (by kernel_rfl) (by kernel_rfl) (by kernel_rfl) (fun _ _ _ h => h) (Or.inl ⟨by rfl, ?_⟩) (by assumption) ?_
        rotate_left
        · intro w hSw; (try dsimp only at hSw); go_simp; (try with_reducible rfl)
        (try simp only [Act.put, pt8])
        refine wpAnyH_take (i := 10) (v := ?_) rfl (by kernel_rfl) (by kernel_rfl) (by kernel_rfl) (fun _ _ _ h => h) (Or.inl ⟨by rfl, ?_⟩) (by assumption) ?_
        rotate_left
        · intro w hSw; (try dsimp only at hSw); go_simp; (try with_reducible rfl)
        (try simp only [Act.put, pt8])
        refine wpAnyH_ready (rs := [7, 11]) (by kernel_rfl) (by simp) ?_
        refine AllReadyH.cons rfl (fun K hK => ?_) (AllReadyH.cons rfl (fun K hK => ?_) (AllReadyH.nil))
        · -- 7 first
          go_simp
          refine hK.out _ _ trivial (fun hHeld => ?_)
          clear hK K
          (try simp only [Act.put, pt8])
          refine wpAnyH_ready (rs := [11]) (by kernel_rfl) (by simp) ?_
          refine AllReadyH.cons rfl (fun K hK => ?_) AllReadyH.nil
          go_simp
          refine hK.out _ _ trivial (fun hHeld => ?_)
          clear hK K
          (try simp only [Act.put, pt8])
          refine wpAnyH_take (i := 12) (v := ?_) rfl (by kernel_rfl) (by kernel_rfl) (by kernel_rfl) (fun _ _ _ h => h) (Or.inl ⟨by rfl, ?_⟩) (by assumption) ?_
          rotate_left
          · intro w hSw; (try dsimp only at hSw); go_simp; (try with_reducible rfl)
          (try simp only [Act.put, pt8])
          refine wpAnyH_ready (rs := [13]) (by kernel_rfl) (by simp) ?_
          refine AllReadyH.cons rfl (fun K hK => ?_) AllReadyH.nil
          go_simp
          refine hK.out _ _ trivial (fun hHeld => ?_)
          clear hK K
          (try simp only [Act.put, pt8])
          obtain ⟨Y1, hY1⟩ : ∃ W, W = (wr.setCell ⟨g, i * 2, none⟩ (.int .i64 (y1' : Int))).setCell ⟨g, i * 2 + 1, none⟩ (.bool y2') := ⟨_, rfl⟩
          rw [← hY1] at HS HT HFR
          rw [← hY1]
          clear hY1 x0 x1 y0 y1 f0 f1
          obtain ⟨v0, v1, x0, x1⟩ := HT
          have f0 := own_fr HFR.out (j * 2)
          have f1 := own_fr HFR.out (j * 2 + 1)
          refine wpAnyH_take (i := 14) (v := ?_) rfl (by kernel_rfl) (by kernel_rfl) (by kernel_rfl) (fun _ _ _ h => h) (Or.inl ⟨by rfl, ?_⟩) (by assumption) ?_
          rotate_left
          · intro w hSw; (try dsimp only at hSw); go_simp; (try with_reducible rfl)
          (try simp only [Act.put, pt8])
          refine wpAnyH_ready (rs := [15]) (by kernel_rfl) (by simp) ?_
          refine AllReadyH.cons rfl (fun K hK => ?_) AllReadyH.nil
          go_simp
          refine hK.out _ _ trivial (fun hHeld => ?_)
          clear hK K
          (try simp only [Act.put, pt8])
          refine wpAnyH_done (by kernel_rfl) ?_ _
          clear x0 x1 f0 f1
          go_wp2
          go_roundw
          case rel => exact ⟨i + 1, cur2, by go_num, by have := HJ.out; go_num, by omega, Lib.hid (HS.out.grown (below_drewN (Below.refl _ _) 1))⟩
          case measure => simp [intOf]; omega
        · -- 11 first
          go_simp
          refine hK.out _ _ trivial (fun hHeld => ?_)
          clear hK K
          (try simp only [Act.put, pt8])
          refine wpAnyH_ready (rs := [7]) (by kernel_rfl) (by simp) ?_
          refine AllReadyH.cons rfl (fun K hK => ?_) AllReadyH.nil
          go_simp
          refine hK.out _ _ trivial (fun hHeld => ?_)
          clear hK K
          (try simp only [Act.put, pt8])
          refine wpAnyH_take (i := 12) (v := ?_) rfl (by kernel_rfl) (by kernel_rfl) (by kernel_rfl) (fun _ _ _ h => h) (Or.inl ⟨by rfl, ?_⟩) (by assumption) ?_
          rotate_left
          · intro w hSw; (try dsimp only at hSw); go_simp; (try with_reducible rfl)
          (try simp only [Act.put, pt8])
          refine wpAnyH_ready (rs := [13]) (by kernel_rfl) (by simp) ?_
          refine AllReadyH.cons rfl (fun K hK => ?_) AllReadyH.nil
          go_simp
          refine hK.out _ _ trivial (fun hHeld => ?_)
          clear hK K
          (try simp only [Act.put, pt8])
          obtain ⟨Y1, hY1⟩ : ∃ W, W = (wr.setCell ⟨g, i * 2, none⟩ (.int .i64 (y1' : Int))).setCell ⟨g, i * 2 + 1, none⟩ (.bool y2') := ⟨_, rfl⟩
          rw [← hY1] at HS HT HFR
          rw [← hY1]
          clear hY1 x0 x1 y0 y1 f0 f1
          obtain ⟨v0, v1, x0, x1⟩ := HT
          have f0 := own_fr HFR.out (j * 2)
          have f1 := own_fr HFR.out (j * 2 + 1)
          refine wpAnyH_take (i := 14) (v := ?_) rfl (by kernel_rfl) (by kernel_rfl) (by kernel_rfl) (fun _ _ _ h => h) (Or.inl ⟨by rfl, ?_⟩) (by assumption) ?_
          rotate_left
          · intro w hSw; (try dsimp only at hSw); go_simp; (try with_reducible rfl)
          (try simp only [Act.put, pt8])
          refine wpAnyH_ready (rs := [15]) (by kernel_rfl) (by simp) ?_
          refine AllReadyH.cons rfl (fun K hK => ?_) AllReadyH.nil
          go_simp
          refine hK.out _ _ trivial (fun hHeld => ?_)
          clear hK K
          (try simp only [Act.put, pt8])
          refine wpAnyH_done (by kernel_rfl) ?_ _
          clear x0 x1 f0 f1
          go_wp2
          go_roundw
          case rel => exact ⟨i + 1, cur2, by go_num, by have := HJ.out; go_num, by omega, Lib.hid (HS.out.grown (below_drewN (Below.refl _ _) 1))⟩
          case measure => simp [intOf]; omega
      · have HD := Lib.hid (HK.out.rev.done (by have := HZ.out; omega))
        go_wp2
        refine bodyPost_end (v := .tuple #[]) (by simp [results, Try.results55, go_sem]) rfl ?_
        refine ⟨rfl, by rw [← HD.out]; exact HK.out.own, fun B h1 h2 => ⟨HK.out.rest.1, HK.out.rest.2.1, HK.out.rest.2.2.1, HK.out.rest.2.2.2, fun k hk => HK.out.kept k (by omega) (by have := HBG.out; omega)⟩⟩
theorem info_pick : (Try.prog.info? 76).map (fun i => (i.zero, i.size, i.bytes)) = some (some (.agg #[.int .i64 0, .bool false]), 2, 16) := by kernel_rfl
/-- The way back from a place. -/
theorem way_at {ys : List RV} {l : List (Nd Sta (Nat × Bool))} (h : Lk (rns ys) l) {i : Nat} (hi : i < ys.length) (h0 : 0 < i) : ∃ (h1 : i < l.length) (h2 : ys[i].n.fr < l.length), ys[i].n.fr < i ∧ l[i].2 = l[ys[i].n.fr].2 ++ [ys[i].n.k] := by
  have hl := h.len
  rw [List.length_map] at hl
  obtain ⟨h3, h4, h5⟩ := h.way i (by simpa using hi) (by omega) h0
  have e := (rn_at hi).2
  simp only [e] at h3 h4 h5
  exact ⟨by omega, h3, h4, h5⟩
set_option maxHeartbeats 8000000 in
set_option maxRecDepth 100000 in
theorem xway_any {n0 g mb i : Nat} {wk : Bool} {pi pt vr : Value} {ys : List RV} {l : List (Nd Sta (Nat × Bool))} (w : World) (h : SrB n0 g mb wk pi pt ys vr w) (hl : Lk (rns ys) l) (hi : i < l.length) (hn : ys.length ≤ 30000) :
    Calls Try.prog 44 #[.pointer (some ⟨g, 0, none⟩), .int .i64 (i : Int)] w (fun e w' => ∃ v, e = .returned v ∧ OwnK w.heap.size w' v l[i].2 ∧ Below w.heap.size w w') := by
  have hll := hl.len
  rw [List.length_map] at hll
  obtain ⟨ln, hln⟩ : ∃ n, n = ys.length := ⟨_, rfl⟩
  obtain ⟨AR, cr, er⟩ := own_slice h.row
  rw [← hln] at er
  subst er
  obtain ⟨wy, hwy⟩ : ∃ q, q = l[i].2 := ⟨_, rfl⟩
  rw [← hwy]
  have HW := Lib.hid hwy
  have HL := Lib.hid hl
  have HLN := Lib.hid (show ln = ys.length ∧ ys.length = l.length from ⟨hln, hll⟩)
  have HS := Lib.hid h
  have hl3 : ln ≤ 30000 := by omega
  have hin : i < ln := by omega
  have HI := Lib.hid hi
  have gw3 := h.box.cell 3 (.slice AR ln cr) rfl
  obtain ⟨i0, hi0, hz0, hz1, hz2⟩ := info_parts info_pick
  have HST := Lib.hid (show ∃ (at' : Nat) (acc : List (Nat × Bool)) (A : Option Addr) (n c : Nat), (i : Int) = at' ∧ at' ≤ i ∧ acc.length = n ∧ n + at' ≤ ln ∧ w.ownsRow w.heap.size 76 2 (.slice A n c) n (acc.flatMap pkC) ∧ Below w.heap.size w w ∧ ∃ hh : at' < l.length, wy = l[at'].2 ++ acc.reverse from
    ⟨i, [], none, 0, 0, rfl, Nat.le_refl _, rfl, by omega, World.ownsRow_nil _ _ _ _, Below.refl _ _, hi, by rw [hwy]; simp⟩)
  clear HST h hl hll hln hwy hn
  go_enter Try.func44, Try.ntmps44
  go_wp2
  go_loopw [1, 5] (fun x y wr => ∃ (at' : Nat) (acc : List (Nat × Bool)) (A : Option Addr) (n c : Nat), x = .int .i64 at' ∧ y = .slice A n c ∧ at' ≤ i ∧ n ≤ 30000 ∧ Hid (acc.length = n ∧ n + at' ≤ ln) ∧ Hid (wr.ownsRow w.heap.size 76 2 (.slice A n c) n (acc.flatMap pkC)) ∧ Hid (Below w.heap.size w wr) ∧ Hid (∃ hh : at' < l.length, wy = l[at'].2 ++ acc.reverse)) (fun x _ _ => (intOf x).toNat)
  case atStart => exact ⟨i, [], none, 0, 0, rfl, rfl, Nat.le_refl _, by omega, Lib.hid ⟨rfl, by omega⟩, Lib.hid (World.ownsRow_nil _ _ _ _), Lib.hid (Below.refl _ _), Lib.hid ⟨HI.out, by rw [HW.out]; simp⟩⟩
  case round =>
    obtain ⟨at', acc, A, n, c, rfl, rfl, hat, hn3, HA, HO, HB, HWY⟩ := hrel
    have g3 := kc HB.out gw3
    by_cases h0 : 0 < at'
    · have hay : at' < ys.length := by have := HLN.out; omega
      have hs2 := HS.out.below HB.out
      obtain ⟨gr, cr2, er, -, -, r2, r3, r4⟩ := hs2.at hay
      injection er with er1 er0 er2
      clear er0
      subst er1 er2
      obtain ⟨q1, q2, q3, q4⟩ := way_at HL.out hay h0
      obtain ⟨fr, hfr⟩ : ∃ f, f = ys[at'].n.fr := ⟨_, rfl⟩
      obtain ⟨⟨p1, p2⟩, hpk⟩ : ∃ f, f = ys[at'].n.k := ⟨_, rfl⟩
      rw [← hpk] at r3 r4
      rw [← hfr] at r2 q3
      have HW2 := Lib.hid (show ∃ hh : fr < l.length, wy = l[fr].2 ++ (acc ++ [(p1, p2)]).reverse from by
        obtain ⟨hh, e⟩ := HWY.out
        refine ⟨by rw [hfr]; exact q2, ?_⟩
        have q5 : l[at'].2 = l[fr].2 ++ [(p1, p2)] := by simp only [hfr, hpk]; exact q4
        rw [e, q5]; simp)
      have hfa : fr < at' := q3
      dsimp only at r3 r4
      have HFR := Lib.hid hfr
      clear q1 q2 q3 q4 hfr hpk hs2
      obtain ⟨W7, hW7⟩ : ∃ W, W = wr.alloc (.cells #[.int .i64 (p1 : Int), .bool p2] 76) := ⟨_, rfl⟩
      obtain ⟨gc, hgc⟩ : ∃ x, x = wr.heap.size := ⟨_, rfl⟩
      have HL7 := Lib.hid (show Below wr.heap.size wr W7 from by rw [hW7]; exact below_al (Below.refl _ _) _)
      have HX7 := Lib.hid (show BoxC W7 gc 76 #[.int .i64 (p1 : Int), .bool p2] from by rw [hW7, hgc]; exact BoxC.new wr _ _)
      have HO7 := Lib.hid (own_below HO.out HL7.out)
      have HB7 := Lib.hid (HB.out.trans (HL7.out.mono HB.out.size))
      go_upto_region 4 with (first | (at_builtin; (try rw [← hW7]); (try rw [← hgc]); refine wpList_append_own _ rfl _ _ 36 rfl w.heap.size 76 i0 (.agg #[.int .i64 0, .bool false]) 2 16 Try.underlying36 hi0 hz0 hz1 hz2 rfl (by decide) _ n (acc.flatMap pkC) rfl HO7.out ⟨gc, 0, none⟩ 1 1 [.int .i64 (p1 : Int), .bool p2] rfl rfl (fun j u hu => lit_at HX7.out _ rfl j u hu) (by intro u hu; simp at hu; rcases hu with rfl | rfl <;> rfl) (by unfold maxLen; omega) (by omega) HB7.out.size ?_; intro v8 w8 hown8 hg8 _; obtain ⟨A8, c8, rfl⟩ := own_slice hown8))
      have HB8 := Lib.hid (below_append HB7.out HO7.out (Nat.le_refl _) HB7.out.size hg8)
      have HO8 := Lib.hid (show w8.ownsRow w.heap.size 76 2 (.slice A8 (n + 1) c8) (n + 1) ((acc ++ [(p1, p2)]).flatMap pkC) from by rw [List.flatMap_append]; exact hown8)
      clear hown8 hg8 hW7 hgc g3 r2 r3 r4
      have g3 := kc HB8.out gw3
      obtain ⟨gr', cr', er, -, -, r2, -, -⟩ := (HS.out.below HB8.out).at hay
      simp only [Value.slice.injEq, Option.some.injEq, Addr.mk.injEq, and_true] at er
      obtain ⟨rfl, -, rfl⟩ := er
      rw [← HFR.out] at r2
      go_wp2
      go_roundw
      case rel => exact ⟨fr, acc ++ [(p1, p2)], A8, n + 1, c8, rfl, rfl, by omega, by have := HA.out; omega, Lib.hid (by have := HA.out; rw [List.length_append]; simp; omega), HO8, HB8, HW2⟩
      case measure => simp [intOf]; omega
    · obtain rfl : at' = 0 := by omega
      have HWE := Lib.hid (show wy = acc.reverse from by
        obtain ⟨hh, e⟩ := HWY.out
        rw [e, HL.out.zero hh]; rfl)
      have HRV := Lib.hid (prev_any wr HO.out HA.out.1 (by omega))
      go_wp2_with fail
      refine HRV.out.mono ?_
      rintro e w9 ⟨rfl, ho9, hb9⟩
      have HO9 := Lib.hid ho9
      have HB9 := Lib.hid (HB.out.trans (hb9 w.heap.size (Nat.le_refl _) HB.out.size))
      have HAL := Lib.hid HA.out.1
      clear ho9 hb9
      go_wp2
      go_ret
      exact ⟨_, rfl, by unfold OwnK; rw [HWE.out, List.length_reverse, HAL.out]; exact HO9.out, HB9.out⟩
end Go.Proofs.Ytbffjhdocicfoaa
