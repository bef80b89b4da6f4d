/-
  the library's Cut at one byte, over any world.
  ATOMS: ops.Asked, Word, guessed, Atom, over any world that holds the registers.
-/
import Derived.Test.YtkkjodjachbifaaGreatDoorKit
import Derived.Test.YtkkjodjachbifaaGreatDoorAtomQ
import Derived.Test.YtkkjodjachbifaaGreatDoorNums
import Derived.Test.YtkkjodjachbifaaGreatDoorKit2
import Derived.StillTailTactics
import Derived.Deep.RegionHeld3
namespace Go.Proofs.YtkkjodjachbifaaGreatDoor
open Go.RowKit
set_option linter.unusedVariables false
/-- What stands ahead of the first c, behind it, and whether it is there. -/
def cutA (c : UInt8) (s : ByteArray) : ByteArray := if Lib.indexByte s.data.toList c = -1 then s else s.extract 0 (Lib.indexByte s.data.toList c).toNat
def cutR (c : UInt8) (s : ByteArray) : ByteArray := if Lib.indexByte s.data.toList c = -1 then ⟨#[]⟩ else s.extract ((Lib.indexByte s.data.toList c).toNat + 1) s.size
def cutB (c : UInt8) (s : ByteArray) : Bool := decide (Lib.indexByte s.data.toList c ≠ -1)
theorem cutR_size (c : UInt8) (s : ByteArray) : (cutR c s).size ≤ s.size := by
  unfold cutR; split
  · exact Nat.zero_le _
  · simp
end Go.Proofs.YtkkjodjachbifaaGreatDoor
namespace Go.Proofs.YtkkjodjachbifaaGreatDoor
open Go.RowKit
set_option linter.unusedVariables false
set_option linter.unusedSimpArgs false
open WordM (L)

theorem ba_eq {s : ByteArray} {l : L} (h : s.data.toList = l) : s = ⟨l.toArray⟩ := by subst h; rfl
theorem cut_parts (c : UInt8) (s : ByteArray) : cutA c s = ⟨(AtomM.before c s.data.toList).toArray⟩ ∧ cutR c s = ⟨(AtomM.after c s.data.toList).toArray⟩ ∧ cutB c s = decide (c ∈ s.data.toList) := by
  unfold cutA cutR cutB
  rcases WordM.idx_spec c s.data.toList with ⟨e, hn⟩ | ⟨a, r, e, hn, hi⟩
  · rw [e, if_pos rfl, if_pos rfl, AtomM.before_none c _ hn, AtomM.after_none c _ hn, decide_eq_false hn]
    exact ⟨rfl, rfl, by simp⟩
  · have hne : ¬ ((a.length : Int) = -1) := by omega
    rw [hi, if_neg hne, if_neg hne, Int.toNat_natCast]
    have hz : s.size = a.length + 1 + r.length := by rw [Lib.size_eq, e]; simp; omega
    refine ⟨ba_eq ?_, ba_eq ?_, ?_⟩
    · rw [Lib.extract_data, e, AtomM.before_at c a r hn]; simp
    · rw [Lib.extract_data, hz, e, AtomM.after_at c a r hn]; simp
    · rw [decide_eq_true hne, e]; simp


theorem cat_l (a b : L) : (⟨a.toArray⟩ ++ ⟨b.toArray⟩ : ByteArray) = ⟨(a ++ b).toArray⟩ := by
  apply ByteArray.ext; rw [ByteArray.data_append]; apply Array.toList_inj.1; simp
theorem size_l (a : L) : (⟨a.toArray⟩ : ByteArray).size = a.length := by rw [Lib.size_eq]
theorem add_l {P : Program} (W : World) (a b : L) (h : a.length + b.length ≤ 9223372036854775807) : (Op.stringOp BinOp.add ⟨a.toArray⟩ ⟨b.toArray⟩).run P W = .ok (.string ⟨(a ++ b).toArray⟩) W := by
  rw [← cat_l]
  exact run_string_add_sum (P := P) (w := W) _ _ (by rw [size_l, size_l]; exact h)

set_option maxHeartbeats 2000000 in
set_option maxRecDepth 100000 in
theorem aword_any (t n : Int) (nm : ByteArray) (w : World) (hr : Regs w) (hn : NumM.inR n) (hs : nm.size ≤ 100000) :
    Calls Tryz.prog 48 #[atv t nm n] w fun e w' => e = .returned (.string ⟨(AtomM.word t nm.data.toList n).toArray⟩) ∧ Below w.heap.size w w' := by
  have HA := Lib.hid (fun W h => asked_any t n nm W h)
  have HT := Lib.hid (fun W => text_any n W hn)
  have HW := Lib.hid (hr.below ((Below.refl w.heap.size w).alloc (Nat.le_refl _) (.cells #[.int .i64 t, .string nm, .int .i64 n] 54)))
  have hk : AtomM.asked t nm.data.toList = true → t ≠ -1 → NumM.inR t := fun h1 h2 => by
    rcases AtomM.asked_cases (a := ⟨t, nm.data.toList, n⟩) h1 with ⟨h, _⟩ | ⟨h, _⟩
    · exact absurd h h2
    · exact (AtomM.thread_text h).2.1
  have E := Lib.hid (show AtomM.word t nm.data.toList n = if AtomM.asked t nm.data.toList then (if t = -1 then nm.data.toList ++ 61 :: NumM.text n else NumM.text t ++ 58 :: (nm.data.toList ++ 61 :: NumM.text n)) else [] from rfl)
  clear hr
  have tl := NumM.text_len n hn
  have z0 : nm.data.toList.length ≤ 100000 := by rw [← Lib.size_eq]; exact hs
  generalize AtomM.asked t nm.data.toList = res at *
  unfold atv at *
  cases res
  · clear hk z0 tl
    go_enter Tryz.func48, Tryz.ntmps48
    go_wp2_with (go_at_call 63; refine (HA.out _ HW.out).mono ?_; rintro e w' ⟨rfl, hB⟩)
    go_ret
    exact ⟨by rw [E.out]; rfl, box_below hB⟩
  · have hc1 : ∀ W, (Op.stringOp BinOp.add nm ⟨#[61]⟩).run Tryz.prog W = .ok (.string ⟨(nm.data.toList ++ [61]).toArray⟩) W := fun W => add_l (P := Tryz.prog) W nm.data.toList [61] (by simp; omega)
    have hc2 := fun W => add_l (P := Tryz.prog) W (nm.data.toList ++ [61]) (NumM.text n) (by simp; omega)
    by_cases h : t = -1
    · subst h
      clear hk z0 tl
      go_enter Tryz.func48, Tryz.ntmps48
      go_wp2_with fail
      refine (HA.out _ HW.out).mono ?_
      rintro e w1 ⟨rfl, hB⟩
      obtain ⟨c0, _⟩ := kept_box (v := .int .i64 (-1)) hB 0 rfl
      obtain ⟨c1, _⟩ := kept_box (v := .string nm) hB 1 rfl
      obtain ⟨c2, _⟩ := kept_box (v := .int .i64 n) hB 2 rfl
      go_wp2
      go_region_held3 (fun w' => w'.cell? ⟨w.heap.size, 0, none⟩ = some (.int .i64 (-1)) ∧ w'.cell? ⟨w.heap.size, 1, none⟩ = some (.string nm) ∧ w'.cell? ⟨w.heap.size, 2, none⟩ = some (.int .i64 n)) (first | go_keep | (exact held_below3 hB2 (by assumption)))
        (first | (go_at_call 47; refine (HT.out _).mono ?_; rintro e w' ⟨rfl, hB2⟩))
      all_goals
        rename_i hHeld
        obtain ⟨d0, d1, d2⟩ := hHeld
        go_wp2
        go_ret
        exact ⟨by rw [E.out]; rfl, (box_below hB).trans ((below_undrew hB2).mono (box_below hB).size)⟩
    · have hti := hk rfl h
      have tl2 := NumM.text_len t hti
      have HTt := Lib.hid (fun W => text_any t W hti)
      have h' : (t == -1) = false := beq_eq_false_iff_ne.2 h
      have E2 := Lib.hid (show AtomM.word t nm.data.toList n = NumM.text t ++ 58 :: (nm.data.toList ++ 61 :: NumM.text n) by rw [E.out, if_pos rfl, if_neg h])
      have hc3 := fun W => add_l (P := Tryz.prog) W (NumM.text t) [58] (by simp; omega)
      have hc4 := fun W => add_l (P := Tryz.prog) W (NumM.text t ++ [58]) (nm.data.toList ++ 61 :: NumM.text n) (by simp; omega)
      clear hk z0 tl tl2 hti h E
      go_enter Tryz.func48, Tryz.ntmps48
      go_wp2_with fail
      refine (HA.out _ HW.out).mono ?_
      rintro e w1 ⟨rfl, hB⟩
      obtain ⟨c0, _⟩ := kept_box (v := .int .i64 t) hB 0 rfl
      obtain ⟨c1, _⟩ := kept_box (v := .string nm) hB 1 rfl
      obtain ⟨c2, _⟩ := kept_box (v := .int .i64 n) hB 2 rfl
      go_wp2
      go_region_held3 (fun w' => w'.cell? ⟨w.heap.size, 0, none⟩ = some (.int .i64 t) ∧ w'.cell? ⟨w.heap.size, 1, none⟩ = some (.string nm) ∧ w'.cell? ⟨w.heap.size, 2, none⟩ = some (.int .i64 n)) (first | go_keep | (exact held_below3 hB2 (by assumption)))
        (first | (go_at_call 47; refine (HT.out _).mono ?_; rintro e w' ⟨rfl, hB2⟩))
      all_goals
        rename_i hHeld
        obtain ⟨d0, d1, d2⟩ := hHeld
        go_wp2_with fail
        refine (HTt.out _).mono ?_
        rintro e w3 ⟨rfl, hB3⟩
        go_wp2
        go_ret
        exact ⟨by rw [E2.out]; simp, (box_below hB).trans ((chain (below_undrew hB2) hB3).mono (box_below hB).size)⟩

theorem after_len (c : UInt8) (l : L) : (AtomM.after c l).length ≤ l.length := by
  unfold AtomM.after
  have := (List.dropWhile_sublist (p := (· != c)) (l := l)).length_le
  simp; omega
theorem before_len (c : UInt8) (l : L) : (AtomM.before c l).length ≤ l.length := (List.takeWhile_sublist _).length_le
theorem askedw_any (a : AtomM.At) (w : World) (hr : Regs w) :
    Calls Tryz.prog 63 #[atw a] w fun e w' => e = .returned (.bool (AtomM.askedA a)) ∧ Below w.heap.size w w' := asked_any _ _ _ w hr
theorem awordw_any (a : AtomM.At) (w : World) (hr : Regs w) (hn : NumM.inR a.n) (hs : a.nm.length ≤ 100000) :
    Calls Tryz.prog 48 #[atw a] w fun e w' => e = .returned (.string ⟨(AtomM.wordA a).toArray⟩) ∧ Below w.heap.size w w' := aword_any _ _ _ w hr hn (by rw [size_l]; exact hs)
theorem guess_len (s : L) (N : Nat) (h : s.length ≤ N) : (AtomM.guess s).nm.length ≤ N := by
  have z1 := before_len 61 s
  have z3 := after_len 58 (AtomM.before 61 s)
  unfold AtomM.guess; split
  · show (AtomM.after 58 (AtomM.before 61 s)).length ≤ N; omega
  · show (AtomM.before 61 s).length ≤ N; omega

end Go.Proofs.YtkkjodjachbifaaGreatDoor
