/-
  THE DOCUMENT's Taker of layer 12: the next number, a count, a row.
-/
import Derived.Test.YtmpjcfehabnhgaaDoorK10
namespace Go.Proofs.YtmpjcfehabnhgaaDoor
open Go.RowKit
set_option linter.unusedVariables false
set_option linter.unusedSimpArgs false
open BfM (Wr)
open ScM
open EnM

namespace EnM
/-- A count that serves. -/
def tkC : Tak Int | [] => none | n :: r => if 0 ≤ n ∧ n.toNat ≤ r.length then some (n, r) else none
theorem Tk.cnt2 {α : Type} {tk : Tak α} {st : Option (List Int)} {n : Int} {l : List Int} {xs : List α} {st' : Option (List Int)} (h : Tk tkC st n (some l)) (h2 : Tk (tkMany tk n.toNat) (some l) xs st') : Tk (tkCnt tk) st xs st' := by
  rcases h with ⟨l', r', e1, e2, e3⟩ | ⟨e1, e2⟩
  · cases l' with
    | nil => cases e2
    | cons m q =>
      simp only [tkC] at e2
      split at e2
      · rename_i hm
        injection e2 with e2; injection e2 with e2 e4
        injection e3 with e3
        subst e2 e4 e3 e1
        exact Tk.cnt hm.1 hm.2 h2
      · cases e2
  · cases e2
theorem Tk.cnt0 {α : Type} {tk : Tak α} {st : Option (List Int)} {n : Int} (xs : List α) (h : Tk tkC st n none) : Tk (tkCnt tk) st xs none := by
  rcases h with ⟨l', r', e1, e2, e3⟩ | ⟨e1, e2⟩
  · cases e3
  · rcases e1 with e1 | ⟨l, e1, e3⟩
    · exact .inr ⟨.inl e1, rfl⟩
    · refine .inr ⟨.inr ⟨l, e1, ?_⟩, rfl⟩
      cases l with
      | nil => rfl
      | cons m q =>
        simp only [tkC] at e3
        split at e3
        · cases e3
        · rename_i hm
          exact if_neg hm
theorem Tk.cntN {st : Option (List Int)} {n : Int} {l : List Int} (h : Tk tkC st n (some l)) : 0 ≤ n ∧ n.toNat ≤ l.length := by
  rcases h with ⟨l', r', e1, e2, e3⟩ | ⟨e1, e2⟩
  · cases l' with
    | nil => cases e2
    | cons m q =>
      simp only [tkC] at e2
      split at e2
      · rename_i hm
        injection e2 with e2; injection e2 with e2 e4
        injection e3 with e3
        subst e2 e4 e3
        exact hm
      · cases e2
  · cases e2
end EnM
/-- A taker in block g, of the list l: what is left, as long as it is good. -/
def TkD (B g : Nat) (l : List Int) (W : World) (st : Option (List Int)) : Prop :=
  B ≤ g ∧ ∃ (vl : Value) (p : Nat) (is : Bool), BoxC W g 53 #[vl, .int .i64 (p : Int), .bool is] ∧ IntR B W vl l ∧ p ≤ l.length ∧ ((is = true ∧ st = some (l.drop p)) ∨ (is = false ∧ st = none))
theorem TkD.lt {B g : Nat} {l : List Int} {W : World} {st : Option (List Int)} (h : TkD B g l W st) : g < W.heap.size := by obtain ⟨_, vl, p, is, h, _⟩ := h; exact h.lt
theorem TkD.base {B g : Nat} {l : List Int} {W : World} {st : Option (List Int)} (h : TkD B g l W st) : B ≤ W.heap.size := Nat.le_trans h.1 (Nat.le_of_lt h.lt)
theorem TkD.below {B g : Nat} {l : List Int} {W W' : World} {st : Option (List Int)} (h : TkD B g l W st) (hb : Below W.heap.size W W') : TkD B g l W' st := by
  have hB := h.base
  obtain ⟨h0, vl, p, is, h1, h2, h3⟩ := h
  exact ⟨h0, vl, p, is, h1.below hb h1.lt, h2.below (hb.mono hB), h3⟩
theorem TkD.al {B g : Nat} {l : List Int} {W : World} {st : Option (List Int)} (h : TkD B g l W st) (o : Obj) : TkD B g l (W.alloc o) st := h.below (below_al (Below.refl _ _) o)
theorem TkD.app {B g base T s m : Nat} {l : List Int} {W W' : World} {st : Option (List Int)} {v : Value} {xs : List Value} (h : TkD B g l W st) (ho : W.ownsRow base T s v m xs) (hB : B ≤ base) (hT : (53 : TypeId) ≠ T) (hg : W.grownBy W' v.ownBlock) : TkD B g l W' st := by
  have hBW := h.base
  have hb : Below B W W' := ⟨hg.os, hg.tape, hg.output, hg.size, fun k h1 => hg.block k (by omega) (fun e => by have := (ho.lt k e.symm).1; omega)⟩
  obtain ⟨h0, vl, p, is, h1, h2, h3⟩ := h
  exact ⟨h0, vl, p, is, h1.grown hT ho hg, h2.below hb, h3⟩
theorem TkD.set {B g b i : Nat} {l : List Int} {W : World} {st : Option (List Int)} {v : Value} (h : TkD B g l W st) (hB : B ≤ b) (hne : g ≠ b) : TkD B g l (W.setCell ⟨b, i, none⟩ v) st := by
  have hb : Below B W (W.setCell ⟨b, i, none⟩ v) := (Below.refl B W).setCell (p := ⟨b, i, none⟩) hB v
  obtain ⟨h0, vl, p, is, h1, h2, h3⟩ := h
  exact ⟨h0, vl, p, is, h1.other hne i v, h2.below hb, h3⟩
theorem TkD.keep {B g base T s m : Nat} {l : List Int} {W W' : World} {st : Option (List Int)} {v : Value} {xs : List Value} (h : TkD B g l W st) (ho : W.ownsRow base T s v m xs) (hT : T ≠ 53) (hk : KpG W.heap.size g W W') : W'.ownsRow base T s v m xs := by
  obtain ⟨_, vl, p, is, hb, _⟩ := h
  exact own_kp ho hb hT hk
/-- It fails. -/
theorem TkD.fail {B g : Nat} {l : List Int} {W : World} {st : Option (List Int)} (h : TkD B g l W st) : TkD B g l (W.setCell ⟨g, 2, none⟩ (.bool false)) none := by
  have hs : Below B W (W.setCell ⟨g, 2, none⟩ (.bool false)) := (Below.refl B W).setCell (p := ⟨g, 2, none⟩) h.1 _
  obtain ⟨h0, vl, p, is, h1, h2, h3, h4⟩ := h
  exact ⟨h0, vl, p, false, h1.set 2 _, h2.below hs, h3, .inr ⟨rfl, rfl⟩⟩
def TdR {α : Type} (tk : Tak α) (rep : World → Value → α → Prop) (B g : Nat) (l : List Int) (st : Option (List Int)) (w : World) (e : Ending) (w' : World) : Prop :=
  ∃ v a st', e = .returned v ∧ rep w' v a ∧ Tk tk st a st' ∧ TkD B g l w' st' ∧ KpG w.heap.size g w w'
/-- What the next number hands back: 0, where it fails. -/
def OnR (tk : Tak Int) (B g : Nat) (l : List Int) (st : Option (List Int)) (w : World) (e : Ending) (w' : World) : Prop :=
  ∃ (n : Int) (st' : Option (List Int)), e = .returned (.int .i64 n) ∧ Tk tk st n st' ∧ (st' = none → n = 0) ∧ TkD B g l w' st' ∧ KpG w.heap.size g w w'
theorem EnM.Tk.cntOk {st : Option (List Int)} {n : Int} {l : List Int} (h : Tk tkN st n (some l)) (hn : 0 ≤ n ∧ n.toNat ≤ l.length) : Tk tkC st n (some l) := by
  rcases h with ⟨l', r', e1, e2, e3⟩ | ⟨e1, e2⟩
  · cases l' with
    | nil => cases e2
    | cons m q =>
      injection e2 with e2; injection e2 with e2 e4
      injection e3 with e3
      subst e2 e4 e3 e1
      exact Tk.ok (if_pos hn)
  · cases e2
theorem EnM.Tk.cntNo {st : Option (List Int)} {n : Int} {l : List Int} (h : Tk tkN st n (some l)) (hn : ¬ (0 ≤ n ∧ n.toNat ≤ l.length)) : Tk tkC st 0 none := by
  rcases h with ⟨l', r', e1, e2, e3⟩ | ⟨e1, e2⟩
  · cases l' with
    | nil => cases e2
    | cons m q =>
      injection e2 with e2; injection e2 with e2 e4
      injection e3 with e3
      subst e2 e4 e3 e1
      exact Tk.cut _ (if_neg hn)
  · cases e2
theorem EnM.Tk.cntBad {st : Option (List Int)} {n : Int} (h : Tk tkN st n none) : Tk tkC st 0 none := by
  rcases h with ⟨l', r', e1, e2, e3⟩ | ⟨e1, e2⟩
  · cases e3
  · rcases e1 with e1 | ⟨l, e1, e3⟩
    · rw [e1]; exact Tk.bad _
    · subst e1
      cases l with
      | nil => exact Tk.cut _ rfl
      | cons m q => cases e3
set_option maxHeartbeats 4000000 in
set_option maxRecDepth 100000 in
theorem one_any {B g : Nat} {l : List Int} {st : Option (List Int)} (w : World) (h : TkD B g l w st) :
    Calls Tryd.prog 27 #[.pointer (some ⟨g, 0, none⟩)] w (OnR tkN B g l st w) := by
  have HT := Lib.hid h
  have HFL := Lib.hid (fun n => (h.below (below_drewN (Below.refl _ _) n)).fail)
  have HKF := Lib.hid (fun n => (KpG.of (below_drewN (Below.refl w.heap.size w) n)).trans (KpG.set w.heap.size g (w.drewN n) 2 (.bool false)))
  obtain ⟨h0, vl, p, is, h1, h2, hp, h3⟩ := h
  have HV := Lib.hid h2
  obtain ⟨A, c, rfl, g1, g2, gz, g3⟩ := h2
  unfold maxLen at g2
  have c0 := h1.cell 0 _ rfl
  have c1 := h1.cell 1 _ rfl
  have c2 := h1.cell 2 _ rfl
  have f1 := h1.frozen 1
  have f2 := h1.frozen 2
  rcases h3 with ⟨rfl, rfl⟩ | ⟨rfl, rfl⟩
  · by_cases hlt : p < l.length
    · obtain ⟨b, f, rfl, hb, hc⟩ := nu_at (c := c) g3 (by omega)
      have d0 := hc p hlt
      have HTK := Lib.hid (show Tk tkN (some (l.drop p)) l[p] (some (l.drop (p + 1))) from Tk.ok (by rw [List.drop_eq_getElem_cons hlt]; rfl))
      obtain ⟨x, hx⟩ : ∃ x, x = l[p] := ⟨_, rfl⟩
      rw [← hx] at d0 HTK
      have q1 : decide ((p : Int) ≥ (l.length : Int)) = false := decide_eq_false (by omega)
      have q2 : decide ((l.length : Int) ≤ (p : Int)) = false := decide_eq_false (by omega)
      clear hx hc g3 HFL HKF HT
      go_enter Tryd.func27, Tryd.ntmps27
      go_wp2
      go_quiet (fail)
      go_wp2
      obtain ⟨W2, hW2⟩ : ∃ W, W = (w.drewN nq).setCell ⟨g, 1, none⟩ (.int .i64 ((p : Int) + 1)) := ⟨_, rfl⟩
      rw [← hW2]
      have hb2 : BoxC W2 g 53 #[.slice (some ⟨b, f, none⟩) l.length c, .int .i64 ((p : Int) + 1), .bool true] := by
        rw [hW2]; exact (show BoxC (w.drewN nq) g _ _ from h1).set 1 _
      have hBB : Below B w W2 := by rw [hW2]; exact (below_drewN (Below.refl B w) nq).setCell (p := ⟨g, 1, none⟩) h0 _
      have HK := Lib.hid (show KpG w.heap.size g w W2 from by rw [hW2]; exact (KpG.of (below_drewN (Below.refl w.heap.size w) nq)).trans (KpG.set _ _ _ _ _))
      have HR := Lib.hid (show TkD B g l W2 (some (l.drop (p + 1))) from ⟨h0, _, p + 1, true, by simpa using hb2, HV.out.below hBB, by omega, .inl ⟨rfl, rfl⟩⟩)
      have k0 := hb2.cell 0 _ rfl
      have k1 := hb2.cell 1 _ rfl
      have d1 := (hBB.cell (p := ⟨b, f + p, none⟩) hb).trans d0
      clear hW2 hb2 hBB c0 c1 c2 f1 f2 d0 q1 q2 h1 HV
      go_quiet (fail)
      go_wp2
      go_ret
      exact ⟨x, _, rfl, HTK.out, (fun e => by cases e), HR.out.below (below_drewN (Below.refl _ _) _), HK.out.trans (KpG.of (below_drewN (Below.refl _ _) _))⟩
    · obtain rfl : p = l.length := by omega
      have q1 : decide ((l.length : Int) ≥ (l.length : Int)) = true := decide_eq_true (by omega)
      have q2 : decide ((l.length : Int) ≤ (l.length : Int)) = true := decide_eq_true (by omega)
      have HTK := Lib.hid (show Tk tkN (some (l.drop l.length)) 0 none from by rw [List.drop_length]; exact Tk.cut _ rfl)
      clear g3 HT
      go_enter Tryd.func27, Tryd.ntmps27
      go_wp2
      go_quiet (fail)
      go_wp2
      go_ret
      exact ⟨0, none, rfl, HTK.out, (fun _ => rfl), HFL.out _, HKF.out _⟩
  · have HTK := Lib.hid (show Tk tkN none 0 none from Tk.bad _)
    clear g3 HT
    go_enter Tryd.func27, Tryd.ntmps27
    go_wp2
    go_quiet (fail)
    go_wp2
    go_ret
    exact ⟨0, none, rfl, HTK.out, (fun _ => rfl), HFL.out _, HKF.out _⟩
set_option maxHeartbeats 4000000 in
set_option maxRecDepth 100000 in
theorem cnt_any {B g : Nat} {l : List Int} {st : Option (List Int)} (w : World) (h : TkD B g l w st) :
    Calls Tryd.prog 26 #[.pointer (some ⟨g, 0, none⟩)] w (OnR tkC B g l st w) := by
  have HN := Lib.hid (one_any w h)
  clear h
  go_enter Tryd.func26, Tryd.ntmps26
  go_wp2_with (go_at_call 27; refine HN.out.mono ?_)
  rintro e w1 ⟨n, st1, rfl, ht, hz, hr, hk⟩
  have HFL := Lib.hid (fun m => (hr.below (below_drewN (Below.refl _ _) m)).fail)
  have HKF := Lib.hid (fun m => (hk.trans (KpG.of ((below_drewN (Below.refl w1.heap.size w1) m).mono hk.size))).trans (KpG.set w.heap.size g (w1.drewN m) 2 (.bool false)))
  have HKD := Lib.hid (fun m => hk.trans (KpG.of ((below_drewN (Below.refl w1.heap.size w1) m).mono hk.size)))
  have HRD := Lib.hid (fun m => hr.below (below_drewN (Below.refl _ _) m))
  obtain ⟨h0, vl, p, is, h1, h2, hp, h3⟩ := hr
  obtain ⟨A, c, rfl, g1, g2, gz, g3⟩ := h2
  unfold maxLen at g2
  have c0 := h1.cell 0 _ rfl
  have c1 := h1.cell 1 _ rfl
  have c2 := h1.cell 2 _ rfl
  have f2 := h1.frozen 2
  by_cases hn : 0 ≤ n ∧ n.toNat ≤ l.length - p
  · have q1 : decide (n < 0) = false := decide_eq_false (by omega)
    have q4 : decide (n > (l.length : Int) - (p : Int)) = false := decide_eq_false (by omega)
    have q5 : decide ((l.length : Int) - (p : Int) < n) = false := decide_eq_false (by omega)
    have HX := Lib.hid (show Tk tkC st n st1 ∧ (st1 = none → n = 0) from by
      rcases h3 with ⟨_, rfl⟩ | ⟨_, rfl⟩
      · exact ⟨ht.cntOk ⟨hn.1, by rw [List.length_drop]; exact hn.2⟩, hz⟩
      · have h5 := hz rfl
        subst h5
        exact ⟨ht.cntBad, hz⟩)
    have hn1 := hn.1
    clear g3 HN ht hk hn h3 hz HFL HKF
    go_wp2
    go_quiet (fail)
    go_wp2
    go_ret
    exact ⟨n, st1, rfl, HX.out.1, HX.out.2, HRD.out _, HKD.out _⟩
  · have HX := Lib.hid (show Tk tkC st 0 none from by
      rcases h3 with ⟨_, rfl⟩ | ⟨_, rfl⟩
      · exact ht.cntNo (fun h => hn ⟨h.1, by have := h.2; rw [List.length_drop] at this; exact this⟩)
      · exact ht.cntBad)
    clear g3 HN ht hk h3 hz HRD HKD
    by_cases q0 : n < 0
    · have q1 : decide (n < 0) = true := decide_eq_true q0
      clear hn
      go_wp2
      go_quiet (fail)
      go_wp2
      go_ret
      exact ⟨0, none, rfl, HX.out, (fun _ => rfl), HFL.out _, HKF.out _⟩
    · have q1 : decide (n < 0) = false := decide_eq_false q0
      have q4 : decide (n > (l.length : Int) - (p : Int)) = true := decide_eq_true (by omega)
      have q5 : decide ((l.length : Int) - (p : Int) < n) = true := decide_eq_true (by omega)
      clear hn
      go_wp2
      go_quiet (fail)
      go_wp2
      go_ret
      exact ⟨0, none, rfl, HX.out, (fun _ => rfl), HFL.out _, HKF.out _⟩
/-- Where the loop of Taker.row stands. -/
def RwRel (B g : Nat) (l : List Int) (n : Int) (l0 : List Int) (ok : Bool) (w : World) (v i : Value) (wr : World) : Prop :=
  ∃ k : Nat, k ≤ n.toNat ∧ i = .int .i64 k ∧ wr.ownsRow w.heap.size 3 1 v k ((l0.take k).flatMap nuC) ∧ TkD B g l wr (if ok then some (l0.drop k) else none) ∧ KpG w.heap.size g w wr
set_option maxHeartbeats 8000000 in
set_option maxRecDepth 100000 in
theorem row_any {B g : Nat} {l : List Int} {st : Option (List Int)} (w : World) (h : TkD B g l w st) (hl : l.length ≤ 1000000000) :
    Calls Tryd.prog 25 #[.pointer (some ⟨g, 0, none⟩)] w (TdR tkRow (fun W v xs => OwnI w.heap.size W v xs) B g l st w) := by
  obtain ⟨i0, hi, hz0, hz1, hz2⟩ := info_parts info_nu
  have HN := Lib.hid (cnt_any w h)
  have hB := h.1
  have hsz := h.base
  clear h
  go_enter Tryd.func25, Tryd.ntmps25
  go_wp2_with (go_at_call 26; refine HN.out.mono ?_)
  rintro e w1 ⟨n, st1, rfl, ht, hz, hr, hk⟩
  obtain ⟨l0, ok, hst, hn0, hnl, hlen⟩ : ∃ (l0 : List Int) (ok : Bool), st1 = (if ok then some l0 else none) ∧ 0 ≤ n ∧ n.toNat ≤ l0.length ∧ l0.length ≤ l.length := by
    cases st1 with
    | none =>
      have := hz rfl
      subst this
      exact ⟨[], false, rfl, by omega, by simp, by simp⟩
    | some l1 =>
      have h1 := EnM.Tk.cntN ht
      refine ⟨l1, true, rfl, h1.1, h1.2, ?_⟩
      obtain ⟨_, vl, p, is, _, _, _, h3⟩ := hr
      rcases h3 with ⟨_, e⟩ | ⟨_, e⟩
      · injection e with e
        rw [e, List.length_drop]; omega
      · cases e
  have HST := Lib.hid (show RwRel B g l n l0 ok w (.slice none 0 0) (.int .i64 0) w1 from ⟨0, Nat.zero_le _, rfl, World.ownsRow_nil _ _ _ _, by rw [List.drop_zero, ← hst]; exact hr, hk⟩)
  have HEND := Lib.hid (show Tk tkRow st (l0.take n.toNat) (if ok then some (l0.drop n.toNat) else none) from by
    cases ok with
    | true =>
      have h1 : Tk tkC st n (some l0) := by rw [← show st1 = some l0 from hst]; exact ht
      have h2 : Tk (tkMany tkN n.toNat) (some l0) (l0.take n.toNat) (some (l0.drop n.toNat)) := Tk.ok (by rw [tkMany_N, if_pos hnl])
      exact (EnM.Tk.cnt2 h1 h2).congr tkRow_cnt
    | false =>
      have h1 : Tk tkC st n none := by rw [← show st1 = none from hst]; exact ht
      exact (EnM.Tk.cnt0 _ h1).congr tkRow_cnt)
  have HOK := Lib.hid (show ok = false → n = 0 from fun e => hz (by rw [hst, e]; rfl))
  clear HN ht hz hr hk hst
  go_wp2
  go_loopw [4, 5] (fun v i wr => RwRel B g l n l0 ok w v i wr) (fun _ i _ => n.toNat - (intOf i).toNat)
  case atStart => exact HST.out
  case round =>
    clear HST
    obtain ⟨k, hk, rfl, hown, hr, hK⟩ := hrel
    by_cases hlt : (k : Int) < n
    · have d1 : decide ((k : Int) < n) = true := decide_eq_true hlt
      obtain rfl : ok = true := by cases ok; have := HOK.out rfl; omega; rfl
      have hkl : k < l0.length := by omega
      have HC := Lib.hid (one_any wr hr)
      have HR0 := Lib.hid hr
      have HO := Lib.hid hown
      have HK := Lib.hid hK
      have hsk := hK.size
      have HT := Lib.hid (show l0.take (k + 1) = l0.take k ++ [l0[k]] from List.take_succ_eq_append_getElem hkl)
      have HX := Lib.hid (fun (x : Int) (st3 : Option (List Int)) (h : Tk tkN (some (l0.drop k)) x st3) => show x = l0[k] ∧ st3 = some (l0.drop (k + 1)) from by
        rw [List.drop_eq_getElem_cons hkl] at h
        rcases h with ⟨l', r', e1, e2, e3⟩ | ⟨e1, e2⟩
        · injection e1 with e1
          subst e1
          injection e2 with e2; injection e2 with e2 e4
          subst e2 e4
          exact ⟨rfl, e3⟩
        · rcases e1 with e1 | ⟨l2, e1, e3⟩
          · cases e1
          · injection e1 with e1
            subst e1
            cases e3)
      obtain ⟨y, hy⟩ : ∃ y, y = l0[k] := ⟨_, rfl⟩
      rw [← hy] at HT HX
      clear hr hown hK hy
      go_wp2_with fail
      refine HC.out.mono ?_
      rintro e wa ⟨x, st3, rfl, ht3, -, hr3, hk3⟩
      obtain ⟨rfl, rfl⟩ := HX.out x st3 ht3
      have HK3 := Lib.hid (HK.out.trans (hk3.mono hsk))
      have hOa := HR0.out.keep HO.out (by decide) hk3
      have HR3 := Lib.hid (hr3.al (.cells #[.int .i64 x] 3))
      have hsz3 := HK3.out.size
      clear HC HK HO HR0 ht3 hr3 hk3 HX
      go_wp2_with (at_builtin; refine wpList_append_own _ rfl _ _ 22 rfl w.heap.size 3 i0 (.int .i64 0) 1 8 Tryd.underlying22 hi hz0 hz1 hz2 rfl (by decide) _ _ _ rfl (hOa.alloc _) ⟨wa.heap.size, 0, none⟩ 1 1 [.int .i64 x] rfl rfl (cell_one_new _ _ _) (by simp [Value.oneCell']) (by unfold maxLen; omega) (by omega) (by simp; omega) ?_; intro v1 w9 hown1 hg1 _)
      have HOW := Lib.hid (hOa.alloc (.cells #[.int .i64 x] 3))
      have HR4 := Lib.hid (HR3.out.app HOW.out hsz (by decide) hg1)
      have HK4 := Lib.hid ((HK3.out.al (Nat.le_refl _) (.cells #[.int .i64 x] 3)).app (Nat.le_refl _) HOW.out (Nat.le_refl _) hg1)
      clear HK3 HOW HR3 hOa hg1
      go_roundw
      case rel => exact ⟨k + 1, by omega, by go_num, by rw [HT.out, List.flatMap_append]; simpa [nuC] using hown1, HR4.out, HK4.out⟩
      case measure => simp [intOf]; omega
    · have d1 : decide ((k : Int) < n) = false := decide_eq_false hlt
      obtain rfl : k = n.toNat := by omega
      have HO := Lib.hid (show wr.ownsRow w.heap.size 3 1 u4 (l0.take n.toNat).length ((l0.take n.toNat).flatMap nuC) from by rw [List.length_take, Nat.min_eq_left hnl]; exact hown)
      clear hown
      go_wp2
      go_ret
      exact ⟨_, l0.take n.toNat, _, rfl, HO.out, HEND.out, hr, hK⟩
end Go.Proofs.YtmpjcfehabnhgaaDoor
