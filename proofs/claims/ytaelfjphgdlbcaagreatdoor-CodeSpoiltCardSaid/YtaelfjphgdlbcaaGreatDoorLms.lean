/-
  ROWS OF LINES in memory: what it says that a slice reads as lines; the small tests of package valid on one line.
  MAPS THAT COUNT NAMES: what it says that a map of the call's own holds, of each text, a number; valid.labels.
  PLAIN MATHEMATICS OF LAYER 4: what is wrong with a line of a thread.
  PLAIN MATHEMATICS OF LAYER 4: programs, and what is wrong with one first.
-/
import Derived.Test.YtaelfjphgdlbcaaGreatDoorNamOp
import Derived.Test.YtaelfjphgdlbcaaGreatDoorBase
import Derived.Maps.Own
import Derived.Maps.OwnOps
import Derived.Maps.OwnSet
import Derived.Maps.Views
import Derived.Test.YtaelfjphgdlbcaaGreatDoorMath
namespace Go.Proofs.YtaelfjphgdlbcaaGreatDoor
open Go.RowKit
set_option linter.unusedVariables false
set_option linter.unusedSimpArgs false
open WordM (L)

/-- Five cells from f on of block b hold the line l. -/
def LnAt (w : World) (b f : Nat) (l : OpsM.Ln) : Prop :=
  w.cell? ⟨b, f, none⟩ = some (.int .i64 l.op) ∧ w.cell? ⟨b, f + 1, none⟩ = some (.string ⟨l.reg.toArray⟩) ∧ w.cell? ⟨b, f + 2, none⟩ = some (.string ⟨l.loc.toArray⟩) ∧
    w.cell? ⟨b, f + 3, none⟩ = some (.string ⟨l.label.toArray⟩) ∧ w.cell? ⟨b, f + 4, none⟩ = some (.int .i64 l.n)
theorem LnAt.below {w w' : World} {B b f : Nat} {l : OpsM.Ln} (h : LnAt w b f l) (hb : Below B w w') (hlt : b < B) : LnAt w' b f l :=
  ⟨(hb.cell (p := ⟨b, f, none⟩) hlt).trans h.1, (hb.cell (p := ⟨b, f + 1, none⟩) hlt).trans h.2.1, (hb.cell (p := ⟨b, f + 2, none⟩) hlt).trans h.2.2.1, (hb.cell (p := ⟨b, f + 3, none⟩) hlt).trans h.2.2.2.1, (hb.cell (p := ⟨b, f + 4, none⟩) hlt).trans h.2.2.2.2⟩
/-- The value v is a slice that reads as the lines ls, in a block below B. -/
def Lns (B : Nat) (w : World) (v : Value) (ls : List OpsM.Ln) : Prop :=
  ∃ A c, v = .slice A ls.length c ∧ ls.length ≤ c ∧ c ≤ maxLen ∧
    (0 < ls.length → ∃ b f, A = some ⟨b, f, none⟩ ∧ b < B ∧ ∀ j (h : j < ls.length), LnAt w b (f + j * 5) ls[j])
theorem Lns.below {B : Nat} {w w' : World} {v : Value} {ls : List OpsM.Ln} (h : Lns B w v ls) (hb : Below B w w') : Lns B w' v ls := by
  obtain ⟨A, c, e, h1, h2, h3⟩ := h
  refine ⟨A, c, e, h1, h2, fun k => ?_⟩
  obtain ⟨b, f, e2, h4, h5⟩ := h3 k
  exact ⟨b, f, e2, h4, fun j hj => (h5 j hj).below hb h4⟩
theorem Lns.more {B B' : Nat} {w : World} {v : Value} {ls : List OpsM.Ln} (h : Lns B w v ls) (hb : B ≤ B') : Lns B' w v ls := by
  obtain ⟨A, c, e, h1, h2, h3⟩ := h
  refine ⟨A, c, e, h1, h2, fun k => ?_⟩
  obtain ⟨b, f, e2, h4, h5⟩ := h3 k
  exact ⟨b, f, e2, by omega, h5⟩

set_option maxHeartbeats 1000000 in
theorem vlabel_any (op n : Int) (r o b : ByteArray) (w : World) :
    Calls Tryz.prog 81 #[lnv op r o b n] w fun e w' => e = .returned (.bool (op == 11)) ∧ Below w.heap.size w w' := by
  unfold lnv
  go_enter Tryz.func81, Tryz.ntmps81
  go_wp2
  go_ret
  exact ⟨rfl, (Below.refl _ _).alloc (Nat.le_refl _) _⟩
set_option maxHeartbeats 1000000 in
theorem vfence_any (op n : Int) (r o b : ByteArray) (w : World) :
    Calls Tryz.prog 82 #[lnv op r o b n] w fun e w' => e = .returned (.bool (op == 6)) ∧ Below w.heap.size w w' := by
  unfold lnv
  go_enter Tryz.func82, Tryz.ntmps82
  go_wp2
  go_ret
  exact ⟨rfl, (Below.refl _ _).alloc (Nat.le_refl _) _⟩
set_option maxHeartbeats 1000000 in
theorem vjump_any (op n : Int) (r o b : ByteArray) (w : World) :
    Calls Tryz.prog 83 #[lnv op r o b n] w fun e w' => e = .returned (.bool (op == 8 || (op == 9 || op == 10))) ∧ Below w.heap.size w w' := by
  unfold lnv
  have HE : ∀ (x : Bool), (op == 8 || (op == 9 || op == 10)) = x → Hid ((op == 8 || (op == 9 || op == 10)) = x) := fun _ h => Lib.hid h
  cases h8 : (op == 8)
  · cases h9 : (op == 9)
    · go_enter Tryz.func83, Tryz.ntmps83
      go_wp2
      go_ret
      exact ⟨rfl, (Below.refl _ _).alloc (Nat.le_refl _) _⟩
    · go_enter Tryz.func83, Tryz.ntmps83
      go_wp2
      go_ret
      exact ⟨rfl, (Below.refl _ _).alloc (Nat.le_refl _) _⟩
  · go_enter Tryz.func83, Tryz.ntmps83
    go_wp2
    go_ret
    exact ⟨rfl, (Below.refl _ _).alloc (Nat.le_refl _) _⟩
set_option maxHeartbeats 4000000 in
theorem vinstr_any (op n : Int) (r o b : ByteArray) (w : World) :
    Calls Tryz.prog 84 #[lnv op r o b n] w fun e w' => e = .returned (.bool (!(op == 6) && !(op == 11))) ∧ Below w.heap.size w w' := by
  have H1 := fun W => vfence_any op n r o b W
  have H2 := fun W => vlabel_any op n r o b W
  unfold lnv at *
  have hB := Below.refl w.heap.size w
  generalize (op == 11) = x at *
  cases h6 : (op == 6)
  · rw [h6] at H1
    replace H1 := Lib.hid H1
    replace H2 := Lib.hid H2
    clear h6
    go_enter Tryz.func84, Tryz.ntmps84
    go_wp2_with fail
    refine (H1.out _).mono ?_
    rintro e w1 ⟨rfl, hb⟩
    have l0 := kept_box hb 0 rfl
    have l1 := kept_box hb 1 rfl
    have l2 := kept_box hb 2 rfl
    have l3 := kept_box hb 3 rfl
    have l4 := kept_box hb 4 rfl
    replace hB := box_below hb
    go_wp2_with fail
    refine (H2.out _).mono ?_
    rintro e w2 ⟨rfl, hb2⟩
    replace hB := chain hB hb2

    go_wp2
    go_ret
    exact ⟨by simp, hB⟩
  · rw [h6] at H1
    replace H1 := Lib.hid H1
    clear h6 H2
    go_enter Tryz.func84, Tryz.ntmps84
    go_wp2_with fail
    refine (H1.out _).mono ?_
    rintro e w1 ⟨rfl, hb⟩
    replace hB := box_below hb
    go_wp2
    go_ret
    exact ⟨rfl, hB⟩
end Go.Proofs.YtaelfjphgdlbcaaGreatDoor
namespace Go.Proofs.YtaelfjphgdlbcaaGreatDoor
open Go.RowKit Go.WideMaps Go.Maps
set_option linter.unusedVariables false
set_option linter.unusedSimpArgs false
open WordM (L)

theorem strKey : Keyed Tryz.prog 9 := string_keyed Tryz.underlying9
theorem zeroInt (w : World) : (zeroValue 3).run Tryz.prog w = .ok (.int .i64 0) w := by kernel_rfl
abbrev MD := DataW Unit
/-- Block b is a map of at most n entries, whose number at each text s is f s. -/
def CMap (w : World) (b n : Nat) (f : L → Int) (D : MD) : Prop :=
  w.ownsMap Tryz.prog 9 (plainElem Tryz.prog 3) b n D ∧ ∀ s : L, D.atKey (.string s) (.lit (.int .i64 0)) = .lit (.int .i64 (f s))
theorem CMap.made (w : World) : CMap (w.alloc (.map #[] 0)) w.heap.size 0 (fun _ => 0) (.map []) := ⟨World.ownsMap_made _ _ _ _, fun s => rfl⟩
theorem CMap.below {w w' : World} {b n : Nat} {f : L → Int} {D : MD} (h : CMap w b n f D) (hb : Below w.heap.size w w') : CMap w' b n f D := by
  obtain ⟨⟨es, clock, he, h1, h2, h3⟩, h4⟩ := h
  have hlt : b < w.heap.size := (Array.getElem?_eq_some_iff.1 he).1
  exact ⟨⟨es, clock, (hb.block b hlt).trans he, h1, h2, h3⟩, h4⟩
theorem CMap.lt {w : World} {b n : Nat} {f : L → Int} {D : MD} (h : CMap w b n f D) : b < w.heap.size := by
  obtain ⟨⟨es, clock, he, _⟩, _⟩ := h
  exact (Array.getElem?_eq_some_iff.1 he).1
theorem CMap.more {w : World} {b n m : Nat} {f g : L → Int} {D : MD} (h : CMap w b n f D) (hnm : n ≤ m) (hfg : ∀ s, f s = g s) : CMap w b m g D := by
  obtain ⟨⟨es, clock, he, h1, h2, h3⟩, h4⟩ := h
  exact ⟨⟨es, clock, he, h1, Nat.le_trans h2 hnm, h3⟩, fun s => by rw [h4 s, hfg s]⟩
theorem CMap.val {w : World} {b n : Nat} {f : L → Int} {D : MD} (h : CMap w b n f D) {s : L} {c : Int} (hat : D.atKey (.string s) (.lit (.int .i64 0)) = .lit (.int .i64 c)) : c = f s := by
  have := hat.symm.trans (h.2 s)
  injection this with e
  injection e
theorem CMap.put {w w1 : World} {b n m : Nat} {f : L → Int} {D : MD} {s : L} {x : Int} (h : CMap w b n f D) (hown : w1.ownsMap Tryz.prog 9 (plainElem Tryz.prog 3) b m (D.put (.string s) (.lit (.int .i64 x)))) :
    CMap w1 b m (fun t => if t = s then x else f t) (D.put (.string s) (.lit (.int .i64 x))) := by
  refine ⟨hown, fun t => ?_⟩
  show (D.put (.string s) (.lit (.int .i64 x))).atKey (.string t) (.lit (.int .i64 0)) = .lit (.int .i64 (if t = s then x else f t))
  by_cases e : t = s
  · subst e
    rw [if_pos rfl]
    exact atKey_put_same (h.1.isMap) (by trivial) _ _
  · rw [if_neg e]
    exact (atKey_put_other (fun h => e (by injection h)) _ _).trans (h.2 t)

/-- How often a label stands in some lines. -/
def lcnt (ls : List OpsM.Ln) (s : L) : Nat := (ls.filter (fun l => decide (l.op = 11) && decide (l.label = s))).length
theorem lcnt_take (ls : List OpsM.Ln) (k : Nat) (h : k < ls.length) (s : L) : lcnt (ls.take (k + 1)) s = lcnt (ls.take k) s + if ls[k].op = 11 ∧ ls[k].label = s then 1 else 0 := by
  unfold lcnt
  rw [List.take_succ_eq_append_getElem h, List.filter_append, List.length_append]
  by_cases c : ls[k].op = 11 ∧ ls[k].label = s
  · rw [if_pos c, List.filter_cons_of_pos (by simp [c.1, c.2])]; rfl
  · rw [if_neg c, List.filter_cons_of_neg (by simpa using c)]; rfl
theorem lcnt_le (ls : List OpsM.Ln) (s : L) : lcnt ls s ≤ ls.length := List.length_filter_le _ _
def LbRel (ls : List OpsM.Ln) (w : World) (i : Value) (wr : World) : Prop :=
  ∃ (k : Nat) (D : MD), k ≤ ls.length ∧ i = .int .i64 k ∧ CMap wr w.heap.size k (fun s => (lcnt (ls.take k) s : Int)) D ∧ Below w.heap.size w wr
set_option maxHeartbeats 2000000 in
set_option maxRecDepth 100000 in
theorem vlabels_any {B : Nat} {v : Value} {ls : List OpsM.Ln} (w : World) (h : Lns B w v ls) (hBB : B ≤ w.heap.size) (hs : ∀ l ∈ ls, l.label.length ≤ 100000) :
    Calls Tryz.prog 78 #[v] w fun e w' => e = .returned (.map (some w.heap.size)) ∧ (∃ D, CMap w' w.heap.size ls.length (fun s => (lcnt ls s : Int)) D) ∧ Below w.heap.size w w' := by
  have hmm := @run_makeMap Tryz.prog
  have HL := Lib.hid (fun op n r o b W => vlabel_any op n r o b W)
  obtain ⟨A1, c1, rfl, ha1, ha2, ha3⟩ := h
  unfold maxLen at ha2
  go_enter Tryz.func78, Tryz.ntmps78
  go_wp2
  go_loopw [9] (fun i wr => LbRel ls w i wr) (fun i _ => ls.length - (intOf i).toNat)
  case atStart => exact ⟨0, _, Nat.zero_le _, rfl, CMap.made w, (Below.refl _ _).alloc (Nat.le_refl _) _⟩
  case round =>
    obtain ⟨k, D, hk, rfl, hcm, hB⟩ := hrel
    by_cases hlt : k < ls.length
    · obtain ⟨b1, f1, rfl, hb1, hcl⟩ := ha3 (by omega)
      have hat := (hcl k hlt).below hB (Nat.lt_of_lt_of_le hb1 hBB)
      have HT := Lib.hid (lcnt_take ls k hlt)
      obtain ⟨x, hx⟩ : ∃ x, x = ls[k] := ⟨_, rfl⟩
      rw [← hx] at hat
      obtain ⟨d0, d1, d2, d3, d4⟩ := hat
      have hxs : x.label.length ≤ 100000 := hs x (by rw [hx]; exact List.getElem_mem _)
      have HX := Lib.hid hx
      have hkey := keyOf_string_mk (s := ⟨x.label.toArray⟩) Tryz.underlying9 (by rw [Lib.size_eq]; unfold maxLen; simpa using (by omega : x.label.length ≤ 9223372036854775807))
      have HCM := Lib.hid hcm
      clear hx hcl ha3 hcm
      go_wp2_with fail
      refine (HL.out _ _ _ _ _ _).mono ?_
      rintro e w1 ⟨rfl, hb⟩
      have l3 := kept_box hb 3 rfl
      have hcm1 := CMap.below HCM.out (box_below hb)
      have hB1 := chain hB (box_below hb)
      cases h11 : (x.op == 11)
      · have hne : ¬ (x.op = 11 ∧ x.label = x.label) := fun h => by simp [h.1] at h11
        have HT1 := Lib.hid (fun s => (HT.out s).trans (by rw [← HX.out, if_neg (fun h => by simp [h.1] at h11)]))
        have HC1 := Lib.hid (hcm1.more (Nat.le_succ k) (g := fun s => (lcnt (ls.take (k + 1)) s : Int)) (fun s => by rw [HT1.out s]; rfl))
        clear hcm1 hne HCM hkey hmm l3 d0 d1 d2 d3 d4 HT HT1 HL
        go_wp2
        refine ⟨⟨k + 1, D, by omega, by go_num, HC1.out, hB1⟩, by simp [intOf]; omega⟩
      · obtain ⟨c, hrun, hat, _⟩ := hcm1.1.lookup_int strKey Tryz.underlying80 Tryz.underlying3 (zeroInt _) hkey
        have HC := Lib.hid (show c = (lcnt (ls.take k) x.label : Int) from hcm1.val hat)
        have hcl := lcnt_le (ls.take k) x.label
        have hkl : (ls.take k).length ≤ k := List.length_take_le _ _
        have hkm : k < maxLen := by show k < 9223372036854775807; omega
        go_wp2_with (first | (at_mapUpdate; refine wpList_mapUpdate_own _ rfl _ _ _ 80 rfl 9 3 strKey Tryz.underlying80 _ w.heap.size k _ rfl hcm1.1 hkm _ _ _ rfl rfl hkey _ [] (plainElem_int Tryz.underlying3 (wrap64_wf _)) ?_; intro w2 hown2 hg2))
        have hw : wrap64 (c + 1) = (lcnt (ls.take k) x.label : Int) + 1 := by rw [HC.out]; exact NumM.wrap64_inR _ (by unfold NumM.inR; omega)
        have hB2 := hB1.grown hg2 hB1.size (fun j hj => by obtain rfl := Option.some.inj hj; exact Nat.le_refl _)
        have hP := hcm1.put hown2
        refine ⟨⟨k + 1, D.put (.string x.label) (.lit (.int .i64 (wrap64 (c + 1)))), by omega, by go_num, hP.more (Nat.le_refl _) (fun s => ?_), hB2⟩, by simp [intOf]; omega⟩
        have h11' : x.op = 11 := by simpa using h11
        show (if s = x.label then wrap64 (c + 1) else (lcnt (ls.take k) s : Int)) = _
        rw [HT.out s, ← HX.out]
        by_cases e : s = x.label
        · rw [if_pos e, if_pos ⟨h11', e.symm⟩, hw, e]; rfl
        · rw [if_neg e, if_neg (fun h => e h.2.symm)]; rfl
    · obtain rfl : ls.length = k := by omega
      rw [List.take_length] at hcm
      have HC1 := Lib.hid hcm
      clear hcm ha3 hmm HL
      go_wp2
      go_ret
      exact ⟨rfl, ⟨D, HC1.out⟩, hB⟩
end Go.Proofs.YtaelfjphgdlbcaaGreatDoor
namespace Go.Proofs.YtaelfjphgdlbcaaGreatDoor.VM
open WordM (L)
open OpsM (Ln)
set_option linter.unusedVariables false

def insB (l : Ln) : Bool := !(l.op == 6) && !(l.op == 11)
def labB (l : Ln) : Bool := l.op == 11
def jmpB (l : Ln) : Bool := decide (8 ≤ l.op) && decide (l.op ≤ 10)
def cI (ls : List Ln) : Nat := (ls.filter insB).length
def cM (ls : List Ln) : Nat := (ls.filter labB).length
/-- Is the line right ahead of the k-th a fence? -/
def fenB (ls : List Ln) (k : Nat) : Bool := match k with | 0 => false | k + 1 => match ls[k]? with | some l => l.op == 6 | none => false
/-- What is wrong with the k-th line, x; 0, if nothing is. -/
def lineC (ls : List Ln) (k : Nat) (x : Ln) : Int :=
  if OpsM.rightL x = false then 11 else if x.op = 11 ∧ 0 < lcnt (ls.take k) x.label then 21 else if x.op = 6 ∧ fenB ls k = true then 23
  else if jmpB x = true ∧ lcnt (ls.drop (k + 1)) x.label = 0 then 22 else if (insB x = true ∧ 8 ≤ cI (ls.take k)) ∨ (x.op = 11 ∧ 8 ≤ cM (ls.take k)) then 5 else 0
theorem cI_take (ls : List Ln) (k : Nat) (h : k < ls.length) : cI (ls.take (k + 1)) = cI (ls.take k) + if insB ls[k] then 1 else 0 := by
  unfold cI
  rw [List.take_succ_eq_append_getElem h, List.filter_append, List.length_append]
  cases c : insB ls[k]
  · rw [List.filter_cons_of_neg (by simp [c])]; rfl
  · rw [List.filter_cons_of_pos c]; rfl
theorem cM_take (ls : List Ln) (k : Nat) (h : k < ls.length) : cM (ls.take (k + 1)) = cM (ls.take k) + if labB ls[k] then 1 else 0 := by
  unfold cM
  rw [List.take_succ_eq_append_getElem h, List.filter_append, List.length_append]
  cases c : labB ls[k]
  · rw [List.filter_cons_of_neg (by simp [c])]; rfl
  · rw [List.filter_cons_of_pos c]; rfl
theorem cI_le (ls : List Ln) (k : Nat) : cI (ls.take k) ≤ k := Nat.le_trans (List.length_filter_le _ _) (List.length_take_le _ _)
theorem cM_le (ls : List Ln) (k : Nat) : cM (ls.take k) ≤ k := Nat.le_trans (List.length_filter_le _ _) (List.length_take_le _ _)
theorem lcnt_drop (ls : List Ln) (k : Nat) (h : k < ls.length) (s : L) : lcnt (ls.drop k) s = (if ls[k].op = 11 ∧ ls[k].label = s then 1 else 0) + lcnt (ls.drop (k + 1)) s := by
  unfold lcnt
  rw [List.drop_eq_getElem_cons h]
  by_cases c : ls[k].op = 11 ∧ ls[k].label = s
  · rw [if_pos c, List.filter_cons_of_pos (by simp [c.1, c.2]), List.length_cons]; omega
  · rw [if_neg c, List.filter_cons_of_neg (by simpa using c)]; omega
end Go.Proofs.YtaelfjphgdlbcaaGreatDoor.VM
namespace Go.Proofs.YtaelfjphgdlbcaaGreatDoor.VM
open WordM (L)
open OpsM (Ln)
open AtomM (At)
set_option linter.unusedVariables false

structure Fl where
  name : L
  init : List (L × Int)
  ths : List (List Ln)
  cond : List At
  all : Bool

/-- The first place below n where g is not 0. -/
def firstAt (g : Nat → Int) : Nat → Option Nat
  | 0 => none
  | n + 1 => match firstAt g n with | some k => some k | none => if g n = 0 then none else some n
theorem firstAt_none {g : Nat → Int} : ∀ {n : Nat}, firstAt g n = none ↔ ∀ j, j < n → g j = 0
  | 0 => ⟨fun _ j h => absurd h (Nat.not_lt_zero j), fun _ => rfl⟩
  | n + 1 => by
    unfold firstAt
    cases e : firstAt g n with
    | some k => 
      refine ⟨fun h => (by cases h), fun h => ?_⟩
      have := (firstAt_none (g := g) (n := n)).2 (fun j hj => h j (by omega))
      rw [this] at e; cases e
    | none =>
      have hb := (firstAt_none (g := g) (n := n)).1 e
      by_cases hz : g n = 0
      · refine ⟨fun _ j hj => ?_, fun _ => by simp [hz]⟩
        by_cases ej : j = n
        · subst ej; exact hz
        · exact hb j (by omega)
      · exact ⟨fun h => by simp [hz] at h, fun h => absurd (h n (by omega)) hz⟩
theorem firstAt_hit {g : Nat → Int} {k : Nat} (hall : ∀ j, j < k → g j = 0) (h : g k ≠ 0) : ∀ {n : Nat}, k < n → firstAt g n = some k
  | 0, hk => absurd hk (Nat.not_lt_zero k)
  | n + 1, hk => by
    unfold firstAt
    by_cases e : k = n
    · subst e
      rw [firstAt_none.2 hall]; simp [h]
    · rw [firstAt_hit hall h (show k < n by omega)]
theorem firstAt_some {g : Nat → Int} : ∀ {n k : Nat}, firstAt g n = some k → k < n ∧ g k ≠ 0 ∧ ∀ j, j < k → g j = 0
  | 0, k, h => by cases h
  | n + 1, k, h => by
    unfold firstAt at h
    cases e : firstAt g n with
    | some m =>
      rw [e] at h
      obtain rfl := Option.some.inj h
      obtain ⟨a, b, c⟩ := firstAt_some e
      exact ⟨by omega, b, c⟩
    | none =>
      rw [e] at h
      by_cases hz : g n = 0
      · simp [hz] at h
      · simp [hz] at h
        subst h
        exact ⟨by omega, hz, firstAt_none.1 e⟩

/-- What is wrong with the k-th cell; 0, if nothing is. -/
def cellC (cs : List (L × Int)) (k : Nat) : Int :=
  if WordM.nameB (cs.getD k ([], 0)).1 = false then 22 else if 0 < k ∧ (cs.getD k ([], 0)).1 ≤ (cs.getD (k - 1) ([], 0)).1 then 21 else 0
def cellsC (F : Fl) : Int := match firstAt (cellC F.init) F.init.length with | some k => cellC F.init k | none => if F.ths.length < 1 ∨ 3 < F.ths.length then 5 else 0
def frameC (F : Fl) : Int := if WordM.nameB F.name = false then 22 else cellsC F
theorem cellsC_hit {F : Fl} {k : Nat} (hk : k < F.init.length) (hall : ∀ j, j < k → cellC F.init j = 0) (h : cellC F.init k ≠ 0) : cellsC F = cellC F.init k := by
  unfold cellsC; rw [firstAt_hit hall h hk]
theorem cellsC_end {F : Fl} (hall : ∀ j, j < F.init.length → cellC F.init j = 0) : cellsC F = if F.ths.length < 1 ∨ 3 < F.ths.length then 5 else 0 := by
  unfold cellsC; rw [firstAt_none.2 hall]
def lnz : Ln := ⟨0, [], [], [], 0⟩
/-- What is wrong with the k-th line of a thread. -/
def lnC (ls : List Ln) (k : Nat) : Int := lineC ls k (ls.getD k lnz)
def thC (ls : List Ln) : Option Nat := firstAt (lnC ls) ls.length
def thG (ts : List (List Ln)) (i : Nat) : Int := if (thC (ts.getD i [])).isSome then 1 else 0
/-- The first wrong line of the first wrong thread: which thread, which line, what is wrong. -/
def lineF (ts : List (List Ln)) : Option (Nat × Nat × Int) :=
  match firstAt (thG ts) ts.length with | none => none | some i => match thC (ts.getD i []) with | none => none | some k => some (i, k, lnC (ts.getD i []) k)
/-- The same as three numbers; 0, 0 and 0, if there is none. -/
def lineT (ts : List (List Ln)) : Int × Int × Int := match lineF ts with | none => (0, 0, 0) | some (i, k, c) => ((i : Int), (k : Int), c)
theorem thC_none {ls : List Ln} (h : ∀ j, j < ls.length → lnC ls j = 0) : thC ls = none := firstAt_none.2 h
theorem lineT_hit {ts : List (List Ln)} {i k : Nat} (hi : i < ts.length) (hall : ∀ j, j < i → thC (ts.getD j []) = none) (hk : k < (ts.getD i []).length) (hl : ∀ j, j < k → lnC (ts.getD i []) j = 0) (h : lnC (ts.getD i []) k ≠ 0) :
    lineT ts = ((i : Int), (k : Int), lnC (ts.getD i []) k) := by
  have h1 : thC (ts.getD i []) = some k := firstAt_hit hl h hk
  have h2 : firstAt (thG ts) ts.length = some i := firstAt_hit (fun j hj => by unfold thG; rw [hall j hj]; rfl) (by unfold thG; rw [h1]; simp) hi
  unfold lineT lineF
  rw [h2]; simp only [h1]
theorem lineT_end {ts : List (List Ln)} (hall : ∀ j, j < ts.length → thC (ts.getD j []) = none) : lineT ts = (0, 0, 0) := by
  have h2 : firstAt (thG ts) ts.length = none := firstAt_none.2 (fun j hj => by unfold thG; rw [hall j hj]; rfl)
  unfold lineT lineF
  rw [h2]
/-- What is wrong with the k-th atom. -/
def atC (n : Nat) (am : List At) (k : Nat) : Int :=
  if 6 ≤ k then 5 else if AtomM.askedA (am.getD k AtomM.zero) = false then 1 else if (n : Int) ≤ (am.getD k AtomM.zero).t then 22 else 0
def atomT (n : Nat) (am : List At) : Int × Int × Int := match firstAt (atC n am) am.length with | none => (0, 0, 0) | some k => ((n : Int), (k : Int), atC n am k)
theorem atomT_hit {n k : Nat} {am : List At} (hk : k < am.length) (hall : ∀ j, j < k → atC n am j = 0) (h : atC n am k ≠ 0) : atomT n am = ((n : Int), (k : Int), atC n am k) := by
  unfold atomT; rw [firstAt_hit hall h hk]
theorem atomT_end {n : Nat} {am : List At} (hall : ∀ j, j < am.length → atC n am j = 0) : atomT n am = (0, 0, 0) := by
  unfold atomT; rw [firstAt_none.2 hall]
/-- A name is put among others, that rise. -/
def ins (s : L) : List L → List L
  | [] => [s]
  | x :: r => if s ≤ x then (if s = x then x :: r else s :: x :: r) else x :: ins s r
def put (l : List L) (s : L) : List L := if s = [] then l else ins s l
/-- The names of locations in lines, in threads, in atoms; all, one behind the other. -/
def lnames (ls : List Ln) : List L := (ls.map (·.loc)).filter (fun s => !decide (s = []))
def tnames : List (List Ln) → List L
  | [] => []
  | ls :: r => lnames ls ++ tnames r
def anames (am : List At) : List L := (am.filter (fun a => a.t == -1)).map (·.nm)
def names (F : Fl) : List L := F.init.map (·.1) ++ (tnames F.ths ++ anames F.cond)
theorem lnames_take (ls : List Ln) (k : Nat) (h : k < ls.length) : lnames (ls.take (k + 1)) = lnames (ls.take k) ++ (if ls[k].loc = [] then [] else [ls[k].loc]) := by
  unfold lnames
  rw [List.take_succ_eq_append_getElem h, List.map_append, List.filter_append]
  by_cases e : ls[k].loc = [] <;> simp [e]
theorem tnames_take : ∀ (ts : List (List Ln)) (k : Nat) (h : k < ts.length), tnames (ts.take (k + 1)) = tnames (ts.take k) ++ lnames ts[k]
  | [], k, h => absurd h (Nat.not_lt_zero k)
  | ls :: r, 0, h => by simp [tnames]
  | ls :: r, k + 1, h => by
    have := tnames_take r k (by simpa using h)
    simp only [List.take_succ_cons, tnames, List.getElem_cons_succ, this, List.append_assoc]
theorem anames_take (am : List At) (k : Nat) (h : k < am.length) : anames (am.take (k + 1)) = anames (am.take k) ++ (if am[k].t = -1 then [am[k].nm] else []) := by
  unfold anames
  rw [List.take_succ_eq_append_getElem h, List.filter_append, List.map_append]
  by_cases e : am[k].t = -1 <;> simp [e]
theorem inames_take (cs : List (L × Int)) (k : Nat) (h : k < cs.length) : (cs.take (k + 1)).map (·.1) = (cs.take k).map (·.1) ++ [cs[k].1] := by
  rw [List.take_succ_eq_append_getElem h, List.map_append]; rfl
theorem lnames_le (ls : List Ln) : (lnames ls).length ≤ ls.length := Nat.le_trans (List.length_filter_le _ _) (by simp)
theorem tnames_le {M : Nat} : ∀ (ts : List (List Ln)), (∀ ls ∈ ts, ls.length ≤ M) → (tnames ts).length ≤ ts.length * M
  | [], _ => by simp [tnames]
  | ls :: r, h => by
    have h1 := tnames_le r (fun x hx => h x (by simp [hx]))
    have h2 := h ls (by simp)
    have h3 := lnames_le ls
    simp only [tnames, List.length_append, List.length_cons, Nat.succ_mul]
    omega
theorem anames_le (am : List At) : (anames am).length ≤ am.length := by unfold anames; rw [List.length_map]; exact List.length_filter_le _ _
def locs (F : Fl) : List L := (names F).foldl put []
def locC (F : Fl) : Int := if 4 < (locs F).length then 5 else 0
def chk (F : Fl) : Int × Int × Int :=
  if frameC F ≠ 0 then (-1, -1, frameC F) else if (lineT F.ths).2.2 ≠ 0 then lineT F.ths else if (atomT F.ths.length F.cond).2.2 ≠ 0 then atomT F.ths.length F.cond
  else if locC F ≠ 0 then (-1, -1, locC F) else (0, 0, 0)
def right (F : Fl) : Bool := (chk F).2.2 == 0
def locsR (F : Fl) : List L := if right F then locs F else []

theorem lnC_take (ls : List Ln) (k : Nat) (h : k < ls.length) : lnC ls k = lineC ls k ls[k] := by
  unfold lnC
  rw [List.getD_eq_getElem?_getD, List.getElem?_eq_getElem h]; rfl
end Go.Proofs.YtaelfjphgdlbcaaGreatDoor.VM
