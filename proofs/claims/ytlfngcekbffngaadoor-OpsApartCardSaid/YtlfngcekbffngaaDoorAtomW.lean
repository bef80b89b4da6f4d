/-
  ATOMS: ops.Asked, Word, guessed, Atom, over any world that holds the registers.
-/
import Derived.Test.YtlfngcekbffngaaDoorOpsW
import Derived.Test.YtlfngcekbffngaaDoorAtomM
import Derived.Test.YtlfngcekbffngaaDoorCut
import Derived.Test.YtlfngcekbffngaaDoorKit2
import Derived.StillTailTactics
import Derived.Deep.RegionHeld3
namespace Go.Proofs.YtlfngcekbffngaaDoor
open Go.RowKit
set_option linter.unusedVariables false
set_option linter.unusedSimpArgs false
open WordM (L)

/-- An atom as a value. -/
def atv (t : Int) (nm : ByteArray) (n : Int) : Value := .agg #[.int .i64 t, .string nm, .int .i64 n]
def atw (a : AtomM.At) : Value := atv a.t ⟨a.nm.toArray⟩ a.n

theorem below_undrew {w w' : World} (h : Below w.drew.heap.size w.drew w') : Below w.heap.size w w' := (below_drewN (Below.refl w.heap.size w) 1).trans h
theorem ba_eq {s : ByteArray} {l : L} (h : s.data.toList = l) : s = ⟨l.toArray⟩ := by subst h; rfl
theorem cut_parts (c : UInt8) (s : ByteArray) : cutA c s = ⟨(AtomM.before c s.data.toList).toArray⟩ ∧ cutR c s = ⟨(AtomM.after c s.data.toList).toArray⟩ ∧ cutB c s = decide (c ∈ s.data.toList) := by
  unfold cutA cutR cutB
  rcases WordM.idx_spec c s.data.toList with ⟨e, hn⟩ | ⟨a, r, e, hn, hi⟩
  · rw [e, if_pos rfl, if_pos rfl, AtomM.before_none c _ hn, AtomM.after_none c _ hn, decide_eq_false hn]
    exact ⟨rfl, rfl, by simp⟩
  · have hne : ¬ ((a.length : Int) = -1) := by omega
    rw [hi, if_neg hne, if_neg hne, Int.toNat_natCast]
    have hz : s.size = a.length + 1 + r.length := by rw [Lib.size_eq, e]; simp; omega
    refine ⟨ba_eq ?_, ba_eq ?_, ?_⟩
    · rw [Lib.extract_data, e, AtomM.before_at c a r hn]; simp
    · rw [Lib.extract_data, hz, e, AtomM.after_at c a r hn]; simp
    · rw [decide_eq_true hne, e]; simp

set_option maxHeartbeats 1000000 in
set_option maxRecDepth 100000 in
theorem asked_any (t n : Int) (nm : ByteArray) (w : World) (hr : Regs w) :
    Calls Tryd.prog 21 #[atv t nm n] w fun e w' => e = .returned (.bool (AtomM.asked t nm.data.toList)) ∧ Below w.heap.size w w' := by
  have HN := Lib.hid (fun W h => name_any nm W h)
  have HR := Lib.hid (fun W h => register_any nm W h)
  have HW := Lib.hid (hr.below ((Below.refl w.heap.size w).alloc (Nat.le_refl _) (.cells #[.int .i64 t, .string nm, .int .i64 n] 26)))
  clear hr
  by_cases h : t = -1
  · have E := Lib.hid (show AtomM.asked t nm.data.toList = WordM.nameB nm.data.toList by unfold AtomM.asked; rw [if_pos h])
    subst h
    unfold atv
    go_enter Tryd.func21, Tryd.ntmps21
    go_wp2_with (go_at_call 36; refine (HN.out _ HW.out).mono ?_; rintro e w' ⟨rfl, rfl⟩)
    go_ret
    exact ⟨by rw [E.out]; rfl, (Below.refl _ _).alloc (Nat.le_refl _) _⟩
  · have E := Lib.hid (show AtomM.asked t nm.data.toList = (decide (0 ≤ t) && (decide (t < 3) && OpsM.regB nm.data.toList)) by unfold AtomM.asked; rw [if_neg h])
    have h' : (t == -1) = false := beq_eq_false_iff_ne.2 h
    clear h
    generalize AtomM.asked t nm.data.toList = res at *
    generalize OpsM.regB nm.data.toList = rb at *
    unfold atv
    by_cases h0 : 0 ≤ t
    · have q0 : decide (0 ≤ t) = true := decide_eq_true h0
      by_cases h3 : t < 3
      · have q3 : decide (t < 3) = true := decide_eq_true h3
        go_enter Tryd.func21, Tryd.ntmps21
        go_wp2_with (go_at_call 37; refine (HR.out _ HW.out).mono ?_; rintro e w' ⟨rfl, rfl⟩)
        go_ret
        exact ⟨ret_bool (by rw [E.out, q0, q3]; rfl), (Below.refl _ _).alloc (Nat.le_refl _) _⟩
      · have q3 : decide (t < 3) = false := decide_eq_false h3
        go_enter Tryd.func21, Tryd.ntmps21
        go_wp2
        go_ret
        exact ⟨ret_bool (by rw [E.out, q0, q3]; simp), (Below.refl _ _).alloc (Nat.le_refl _) _⟩
    · have q0 : decide (0 ≤ t) = false := decide_eq_false h0
      go_enter Tryd.func21, Tryd.ntmps21
      go_wp2
      go_ret
      exact ⟨ret_bool (by rw [E.out, q0]; simp), (Below.refl _ _).alloc (Nat.le_refl _) _⟩

theorem cat_l (a b : L) : (⟨a.toArray⟩ ++ ⟨b.toArray⟩ : ByteArray) = ⟨(a ++ b).toArray⟩ := by
  apply ByteArray.ext; rw [ByteArray.data_append]; apply Array.toList_inj.1; simp
theorem size_l (a : L) : (⟨a.toArray⟩ : ByteArray).size = a.length := by rw [Lib.size_eq]
theorem add_l {P : Program} (W : World) (a b : L) (h : a.length + b.length ≤ 9223372036854775807) : (Op.stringOp BinOp.add ⟨a.toArray⟩ ⟨b.toArray⟩).run P W = .ok (.string ⟨(a ++ b).toArray⟩) W := by
  rw [← cat_l]
  exact run_string_add_sum (P := P) (w := W) _ _ (by rw [size_l, size_l]; exact h)

set_option maxHeartbeats 2000000 in
set_option maxRecDepth 100000 in
theorem aword_any (t n : Int) (nm : ByteArray) (w : World) (hr : Regs w) (hn : NumM.inR n) (hs : nm.size ≤ 100000) :
    Calls Tryd.prog 23 #[atv t nm n] w fun e w' => e = .returned (.string ⟨(AtomM.word t nm.data.toList n).toArray⟩) ∧ Below w.heap.size w w' := by
  have HA := Lib.hid (fun W h => asked_any t n nm W h)
  have HT := Lib.hid (fun W => text_any n W hn)
  have HW := Lib.hid (hr.below ((Below.refl w.heap.size w).alloc (Nat.le_refl _) (.cells #[.int .i64 t, .string nm, .int .i64 n] 26)))
  have hk : AtomM.asked t nm.data.toList = true → t ≠ -1 → NumM.inR t := fun h1 h2 => by
    rcases AtomM.asked_cases (a := ⟨t, nm.data.toList, n⟩) h1 with ⟨h, _⟩ | ⟨h, _⟩
    · exact absurd h h2
    · exact (AtomM.thread_text h).2.1
  have E := Lib.hid (show AtomM.word t nm.data.toList n = if AtomM.asked t nm.data.toList then (if t = -1 then nm.data.toList ++ 61 :: NumM.text n else NumM.text t ++ 58 :: (nm.data.toList ++ 61 :: NumM.text n)) else [] from rfl)
  clear hr
  have tl := NumM.text_len n hn
  have z0 : nm.data.toList.length ≤ 100000 := by rw [← Lib.size_eq]; exact hs
  generalize AtomM.asked t nm.data.toList = res at *
  unfold atv at *
  cases res
  · clear hk z0 tl
    go_enter Tryd.func23, Tryd.ntmps23
    go_wp2_with (go_at_call 21; refine (HA.out _ HW.out).mono ?_; rintro e w' ⟨rfl, hB⟩)
    go_ret
    exact ⟨by rw [E.out]; rfl, box_below hB⟩
  · have hc1 : ∀ W, (Op.stringOp BinOp.add nm ⟨#[61]⟩).run Tryd.prog W = .ok (.string ⟨(nm.data.toList ++ [61]).toArray⟩) W := fun W => add_l (P := Tryd.prog) W nm.data.toList [61] (by simp; omega)
    have hc2 := fun W => add_l (P := Tryd.prog) W (nm.data.toList ++ [61]) (NumM.text n) (by simp; omega)
    by_cases h : t = -1
    · subst h
      clear hk z0 tl
      go_enter Tryd.func23, Tryd.ntmps23
      go_wp2_with fail
      refine (HA.out _ HW.out).mono ?_
      rintro e w1 ⟨rfl, hB⟩
      obtain ⟨c0, _⟩ := kept_box (v := .int .i64 (-1)) hB 0 rfl
      obtain ⟨c1, _⟩ := kept_box (v := .string nm) hB 1 rfl
      obtain ⟨c2, _⟩ := kept_box (v := .int .i64 n) hB 2 rfl
      go_wp2
      go_region_held3 (fun w' => w'.cell? ⟨w.heap.size, 0, none⟩ = some (.int .i64 (-1)) ∧ w'.cell? ⟨w.heap.size, 1, none⟩ = some (.string nm) ∧ w'.cell? ⟨w.heap.size, 2, none⟩ = some (.int .i64 n)) (first | go_keep | (exact held_below3 hB2 (by assumption)))
        (first | (go_at_call 38; refine (HT.out _).mono ?_; rintro e w' ⟨rfl, hB2⟩))
      all_goals
        rename_i hHeld
        obtain ⟨d0, d1, d2⟩ := hHeld
        go_wp2
        go_ret
        exact ⟨by rw [E.out]; rfl, (box_below hB).trans ((below_undrew hB2).mono (box_below hB).size)⟩
    · have hti := hk rfl h
      have tl2 := NumM.text_len t hti
      have HTt := Lib.hid (fun W => text_any t W hti)
      have h' : (t == -1) = false := beq_eq_false_iff_ne.2 h
      have E2 := Lib.hid (show AtomM.word t nm.data.toList n = NumM.text t ++ 58 :: (nm.data.toList ++ 61 :: NumM.text n) by rw [E.out, if_pos rfl, if_neg h])
      have hc3 := fun W => add_l (P := Tryd.prog) W (NumM.text t) [58] (by simp; omega)
      have hc4 := fun W => add_l (P := Tryd.prog) W (NumM.text t ++ [58]) (nm.data.toList ++ 61 :: NumM.text n) (by simp; omega)
      clear hk z0 tl tl2 hti h E
      go_enter Tryd.func23, Tryd.ntmps23
      go_wp2_with fail
      refine (HA.out _ HW.out).mono ?_
      rintro e w1 ⟨rfl, hB⟩
      obtain ⟨c0, _⟩ := kept_box (v := .int .i64 t) hB 0 rfl
      obtain ⟨c1, _⟩ := kept_box (v := .string nm) hB 1 rfl
      obtain ⟨c2, _⟩ := kept_box (v := .int .i64 n) hB 2 rfl
      go_wp2
      go_region_held3 (fun w' => w'.cell? ⟨w.heap.size, 0, none⟩ = some (.int .i64 t) ∧ w'.cell? ⟨w.heap.size, 1, none⟩ = some (.string nm) ∧ w'.cell? ⟨w.heap.size, 2, none⟩ = some (.int .i64 n)) (first | go_keep | (exact held_below3 hB2 (by assumption)))
        (first | (go_at_call 38; refine (HT.out _).mono ?_; rintro e w' ⟨rfl, hB2⟩))
      all_goals
        rename_i hHeld
        obtain ⟨d0, d1, d2⟩ := hHeld
        go_wp2_with fail
        refine (HTt.out _).mono ?_
        rintro e w3 ⟨rfl, hB3⟩
        go_wp2
        go_ret
        exact ⟨by rw [E2.out]; simp, (box_below hB).trans ((chain (below_undrew hB2) hB3).mono (box_below hB).size)⟩

theorem cut_below (s : ByteArray) (c : UInt8) (w : World) (hs : s.size ≤ maxLen) :
    Calls Tryd.prog 43 #[.string s, .string ⟨#[c]⟩] w fun e w' => e = .returned (.tuple #[.string ⟨(AtomM.before c s.data.toList).toArray⟩, .string ⟨(AtomM.after c s.data.toList).toArray⟩, .bool (decide (c ∈ s.data.toList))]) ∧ Below w.heap.size w w' := by
  obtain ⟨pa, pr, pb⟩ := cut_parts c s
  rw [← pa, ← pr, ← pb]
  exact (cut_any s c w hs).mono fun e w' ⟨h, n, hn⟩ => ⟨h, by rw [hn]; exact below_drewN (Below.refl _ _) n⟩
theorem after_len (c : UInt8) (l : L) : (AtomM.after c l).length ≤ l.length := by
  unfold AtomM.after
  have := (List.dropWhile_sublist (p := (· != c)) (l := l)).length_le
  simp; omega
theorem before_len (c : UInt8) (l : L) : (AtomM.before c l).length ≤ l.length := (List.takeWhile_sublist _).length_le
set_option maxHeartbeats 2000000 in
set_option maxRecDepth 100000 in
theorem guessed_any (s : ByteArray) (w : World) (hs : s.size ≤ 100000) :
    Calls Tryd.prog 30 #[.string s] w fun e w' => e = .returned (atw (AtomM.guess s.data.toList)) ∧ Below w.heap.size w w' := by
  have z0 : s.data.toList.length ≤ 100000 := by rw [← Lib.size_eq]; exact hs
  have z1 := before_len 61 s.data.toList
  have z2 := after_len 61 s.data.toList
  have z3 := before_len 58 (AtomM.before 61 s.data.toList)
  have H1 := Lib.hid (fun W => cut_below s 61 W (by unfold maxLen; omega))
  have H2 := fun W => cut_below ⟨(AtomM.before 61 s.data.toList).toArray⟩ 58 W (by unfold maxLen; rw [size_l]; omega)
  have G1 := Lib.hid (fun W => get_any ⟨(AtomM.after 61 s.data.toList).toArray⟩ W (by unfold maxLen; rw [size_l]; omega))
  have G2 := Lib.hid (fun W => get_any ⟨(AtomM.before 58 (AtomM.before 61 s.data.toList)).toArray⟩ W (by unfold maxLen; rw [size_l]; omega))
  have E := Lib.hid (show AtomM.guess s.data.toList = if 58 ∈ AtomM.before 61 s.data.toList then ⟨(NumM.get (AtomM.before 58 (AtomM.before 61 s.data.toList))).1, AtomM.after 58 (AtomM.before 61 s.data.toList), (NumM.get (AtomM.after 61 s.data.toList)).1⟩ else ⟨-1, AtomM.before 61 s.data.toList, (NumM.get (AtomM.after 61 s.data.toList)).1⟩ from rfl)
  clear z0 z1 z2 z3
  generalize AtomM.guess s.data.toList = res at *
  generalize AtomM.before 61 s.data.toList = bf at *
  generalize AtomM.after 61 s.data.toList = af at *
  generalize decide (61 ∈ s.data.toList) = cb at *
  change ∀ W, Calls Tryd.prog 43 #[.string ⟨bf.toArray⟩, .string ⟨#[58]⟩] W fun e w' => e = .returned (.tuple #[.string ⟨(AtomM.before 58 bf).toArray⟩, .string ⟨(AtomM.after 58 bf).toArray⟩, .bool (decide (58 ∈ bf))]) ∧ Below W.heap.size W w' at H2
  generalize AtomM.before 58 bf = bb at *
  generalize AtomM.after 58 bf = ab at *
  have G1' : Hid (∀ W, Calls Tryd.prog 44 #[.string ⟨af.toArray⟩] W fun e w' => e = .returned (.tuple #[.int .i64 (NumM.get af).1, .bool (NumM.get af).2]) ∧ Below W.heap.size W w') := G1
  have G2' : Hid (∀ W, Calls Tryd.prog 44 #[.string ⟨bb.toArray⟩] W fun e w' => e = .returned (.tuple #[.int .i64 (NumM.get bb).1, .bool (NumM.get bb).2]) ∧ Below W.heap.size W w') := G2
  clear G1 G2
  generalize NumM.get af = g1 at *
  generalize NumM.get bb = g2 at *
  obtain ⟨n1, i1⟩ := g1
  obtain ⟨n2, i2⟩ := g2
  have H2' := Lib.hid H2
  clear H2
  by_cases hc : 58 ∈ bf
  · have E2 := Lib.hid (E.out.trans (if_pos hc))
    rw [decide_eq_true hc] at H2'
    clear E hc
    go_enter Tryd.func30, Tryd.ntmps30
    go_wp2_with fail
    refine (H1.out _).mono ?_
    rintro e w1 ⟨rfl, hB⟩
    go_wp2_with fail
    refine (G1'.out _).mono ?_
    rintro e w2 ⟨rfl, hB'⟩
    replace hB := chain hB hB'
    clear hB'
    go_wp2_with fail
    refine (H2'.out _).mono ?_
    rintro e w3 ⟨rfl, hB'⟩
    replace hB := chain hB hB'
    clear hB'
    go_wp2_with fail
    refine (G2'.out _).mono ?_
    rintro e w4 ⟨rfl, hB'⟩
    replace hB := chain hB hB'
    clear hB'
    obtain ⟨c0, f0⟩ := kept_box hB 0 rfl
    obtain ⟨c1, f1⟩ := kept_box hB 1 rfl
    obtain ⟨c2, f2⟩ := kept_box hB 2 rfl
    have hz := box_lt hB
    go_wp2
    exact bodyPost_ret (v := atv n2 ⟨ab.toArray⟩ n1) (by simp [results, Tryd.results30, go_sem, atv, c0, c1, c2, hz]) rfl ⟨by rw [E2.out]; rfl, (((box_below hB).setCell (Nat.le_refl _) _).setCell (Nat.le_refl _) _).setCell (Nat.le_refl _) _⟩
  · have E2 := Lib.hid (E.out.trans (if_neg hc))
    rw [decide_eq_false hc] at H2'
    clear E hc
    go_enter Tryd.func30, Tryd.ntmps30
    go_wp2_with fail
    refine (H1.out _).mono ?_
    rintro e w1 ⟨rfl, hB⟩
    go_wp2_with fail
    refine (G1'.out _).mono ?_
    rintro e w2 ⟨rfl, hB'⟩
    replace hB := chain hB hB'
    clear hB'
    go_wp2_with fail
    refine (H2'.out _).mono ?_
    rintro e w3 ⟨rfl, hB'⟩
    replace hB := chain hB hB'
    clear hB'
    obtain ⟨c0, f0⟩ := kept_box hB 0 rfl
    obtain ⟨c1, f1⟩ := kept_box hB 1 rfl
    obtain ⟨c2, f2⟩ := kept_box hB 2 rfl
    have hz := box_lt hB
    go_wp2
    exact bodyPost_ret (v := atv (-1) ⟨bf.toArray⟩ n1) (by simp [results, Tryd.results30, go_sem, atv, c0, c1, c2, hz]) rfl ⟨by rw [E2.out]; rfl, (((box_below hB).setCell (Nat.le_refl _) _).setCell (Nat.le_refl _) _).setCell (Nat.le_refl _) _⟩

theorem askedw_any (a : AtomM.At) (w : World) (hr : Regs w) :
    Calls Tryd.prog 21 #[atw a] w fun e w' => e = .returned (.bool (AtomM.askedA a)) ∧ Below w.heap.size w w' := asked_any _ _ _ w hr
theorem awordw_any (a : AtomM.At) (w : World) (hr : Regs w) (hn : NumM.inR a.n) (hs : a.nm.length ≤ 100000) :
    Calls Tryd.prog 23 #[atw a] w fun e w' => e = .returned (.string ⟨(AtomM.wordA a).toArray⟩) ∧ Below w.heap.size w w' := aword_any _ _ _ w hr hn (by rw [size_l]; exact hs)
theorem guess_len (s : L) (N : Nat) (h : s.length ≤ N) : (AtomM.guess s).nm.length ≤ N := by
  have z1 := before_len 61 s
  have z3 := after_len 58 (AtomM.before 61 s)
  unfold AtomM.guess; split
  · show (AtomM.after 58 (AtomM.before 61 s)).length ≤ N; omega
  · show (AtomM.before 61 s).length ≤ N; omega

set_option maxHeartbeats 2000000 in
set_option maxRecDepth 100000 in
theorem atom_any (s : ByteArray) (w : World) (hr : Regs w) (hs : s.size ≤ 100000) :
    Calls Tryd.prog 14 #[.string s] w fun e w' => e = .returned (.tuple #[atw (AtomM.atom s.data.toList).1, .bool (AtomM.atom s.data.toList).2]) ∧ Below w.heap.size w w' := by
  have z0 : s.data.toList.length ≤ 100000 := by rw [← Lib.size_eq]; exact hs
  have hlen := guess_len s.data.toList _ z0
  have hra := AtomM.guess_range s.data.toList
  have HM := Lib.hid (fun W => guessed_any s W hs)
  have HG := Lib.hid (show AtomM.atom s.data.toList = if AtomM.askedA (AtomM.guess s.data.toList) && decide (AtomM.wordA (AtomM.guess s.data.toList) = s.data.toList) then (AtomM.guess s.data.toList, true) else (AtomM.zero, false) from rfl)
  have HR := Lib.hid (fun W h => askedw_any (AtomM.guess s.data.toList) W h)
  have HS := Lib.hid (fun W h => awordw_any (AtomM.guess s.data.toList) W h hra hlen)
  have HW := Lib.hid hr
  clear hr z0 hlen hra
  generalize AtomM.atom s.data.toList = res at *
  generalize AtomM.guess s.data.toList = l at *
  generalize AtomM.askedA l = rb at *
  generalize AtomM.wordA l = ws at *
  unfold atw atv at HM HR HS
  cases rb
  · go_enter Tryd.func14, Tryd.ntmps14
    go_wp2_with fail
    refine (HM.out _).mono ?_
    rintro e w1 ⟨rfl, hB⟩
    have HW1 := Lib.hid (HW.out.below (box_below hB))
    go_wp2_with fail
    refine (HR.out _ (HW1.out.below ((Below.refl _ _).alloc (Nat.le_refl _) _))).mono ?_
    rintro e w2 ⟨rfl, hB2⟩
    have B02 := chain hB (box_below hB2)
    obtain ⟨c0, f0⟩ := kept_box B02 0 rfl
    obtain ⟨c1, f1⟩ := kept_box B02 1 rfl
    obtain ⟨c2, f2⟩ := kept_box B02 2 rfl
    have hz := box_lt B02
    go_wp2
    exact bodyPost_ret (v := .tuple #[atw AtomM.zero, .bool false]) (by simp [results, Tryd.results14, go_sem, atw, atv, AtomM.zero, c0, c1, c2, hz]) rfl ⟨by rw [HG.out]; rfl, (((box_below B02).setCell (Nat.le_refl _) _).setCell (Nat.le_refl _) _).setCell (Nat.le_refl _) _⟩
  · by_cases hq : ws = s.data.toList
    all_goals
      have hq2 : (ws == s.toList) = decide (ws = s.data.toList) := by rw [Lib.toList_data, beq_dec]
      have E := HG.out
      first | rw [decide_eq_true hq] at E hq2 | rw [decide_eq_false hq] at E hq2
      have E2 := Lib.hid E
      clear E hq HG
      go_enter Tryd.func14, Tryd.ntmps14
      go_wp2_with fail
      refine (HM.out _).mono ?_
      rintro e w1 ⟨rfl, hB⟩
      have HW1 := Lib.hid (HW.out.below (box_below hB))
      go_wp2_with fail
      refine (HR.out _ (HW1.out.below ((Below.refl _ _).alloc (Nat.le_refl _) _))).mono ?_
      rintro e w2 ⟨rfl, hB2⟩
      have HW2 := Lib.hid (HW1.out.below (box_below hB2))
      obtain ⟨b0, _⟩ := kept_box hB2 0 rfl
      obtain ⟨b1, _⟩ := kept_box hB2 1 rfl
      obtain ⟨b2, _⟩ := kept_box hB2 2 rfl
      go_wp2_with fail
      refine (HS.out _ HW2.out).mono ?_
      rintro e w3 ⟨rfl, hB3⟩
      clear b0 b1 b2
      have B13 := chain hB2 hB3
      have B03 := chain hB (box_below B13)
      obtain ⟨c0, f0⟩ := kept_box B03 0 rfl
      obtain ⟨c1, f1⟩ := kept_box B03 1 rfl
      obtain ⟨c2, f2⟩ := kept_box B03 2 rfl
      obtain ⟨b0, g0⟩ := kept_box B13 0 rfl
      obtain ⟨b1, g1⟩ := kept_box B13 1 rfl
      obtain ⟨b2, g2⟩ := kept_box B13 2 rfl
      have hz := box_lt B03
      go_wp2
      first
        | exact bodyPost_ret (v := .tuple #[atw l, .bool true]) (by simp [results, Tryd.results14, go_sem, atw, atv, c0, c1, c2, hz]) rfl ⟨by rw [E2.out]; rfl, (((box_below B03).setCell (Nat.le_refl _) _).setCell (Nat.le_refl _) _).setCell (Nat.le_refl _) _⟩
        | exact bodyPost_ret (v := .tuple #[atw AtomM.zero, .bool false]) (by simp [results, Tryd.results14, go_sem, atw, atv, AtomM.zero, c0, c1, c2, hz]) rfl ⟨by rw [E2.out]; rfl, (((box_below B03).setCell (Nat.le_refl _) _).setCell (Nat.le_refl _) _).setCell (Nat.le_refl _) _⟩
end Go.Proofs.YtlfngcekbffngaaDoor
