/-
  ATOMS: the document's Asked and Word, over any world.
  ATOMS: the document's Asked and Word, over any world.
-/
import Derived.Test.YtkkjodjachbifaaGreatDoorAtomQ
import Derived.Test.YtkkjodjachbifaaGreatDoorRName
import Derived.Test.YtkkjodjachbifaaGreatDoorAtW
import Derived.Test.YtkkjodjachbifaaGreatDoorNums
namespace Go.Proofs.YtkkjodjachbifaaGreatDoor
open Go.RowKit
set_option linter.unusedVariables false
set_option linter.unusedSimpArgs false
open WordM (L)

set_option maxHeartbeats 1000000 in
set_option maxRecDepth 100000 in
theorem rasked_any (t n : Int) (nm : ByteArray) (w : World) (hs : nm.size ≤ 100000) :
    Calls Tryz.prog 49 #[atv t nm n] w fun e w' => e = .returned (.bool (AtomM.asked t nm.data.toList)) ∧ Below w.heap.size w w' := by
  have HN := Lib.hid (fun W => rname_any nm W hs)
  have HR := Lib.hid (fun W => rreg_any nm W)
  clear hs
  by_cases h : t = -1
  · have E := Lib.hid (show AtomM.asked t nm.data.toList = WordM.nameB nm.data.toList by unfold AtomM.asked; rw [if_pos h])
    subst h
    unfold atv
    go_enter Tryz.func49, Tryz.ntmps49
    go_wp2_with (go_at_call 44; refine (HN.out _).mono ?_; rintro e w' ⟨rfl, hB⟩)
    go_ret
    exact ⟨by rw [E.out]; rfl, box_below hB⟩
  · have E := Lib.hid (show AtomM.asked t nm.data.toList = (decide (0 ≤ t) && (decide (t < 3) && OpsM.regB nm.data.toList)) by unfold AtomM.asked; rw [if_neg h])
    have h' : (t == -1) = false := beq_eq_false_iff_ne.2 h
    clear h
    generalize AtomM.asked t nm.data.toList = res at *
    have hsg : decide (0 ≤ WordM.regNo nm.data.toList) = OpsM.regB nm.data.toList := rfl
    generalize OpsM.regB nm.data.toList = rb at *
    generalize WordM.regNo nm.data.toList = rn at *
    unfold atv
    by_cases h0 : 0 ≤ t
    · have q0 : decide (0 ≤ t) = true := decide_eq_true h0
      by_cases h3 : t < 3
      · have q3 : decide (t < 3) = true := decide_eq_true h3
        cases rb
        all_goals
          go_enter Tryz.func49, Tryz.ntmps49
          go_wp2_with (go_at_call 43; refine (HR.out _).mono ?_; rintro e w' ⟨rfl, hB⟩)
          go_ret
          exact ⟨ret_bool (by rw [E.out, q0, q3]; rfl), box_below hB⟩
      · have q3 : decide (t < 3) = false := decide_eq_false h3
        go_enter Tryz.func49, Tryz.ntmps49
        go_wp2
        go_ret
        exact ⟨ret_bool (by rw [E.out, q0, q3]; simp), (Below.refl _ _).alloc (Nat.le_refl _) _⟩
    · have q0 : decide (0 ≤ t) = false := decide_eq_false h0
      go_enter Tryz.func49, Tryz.ntmps49
      go_wp2
      go_ret
      exact ⟨ret_bool (by rw [E.out, q0]; simp), (Below.refl _ _).alloc (Nat.le_refl _) _⟩
end Go.Proofs.YtkkjodjachbifaaGreatDoor
namespace Go.Proofs.YtkkjodjachbifaaGreatDoor
open Go.RowKit
set_option linter.unusedVariables false
set_option linter.unusedSimpArgs false
open WordM (L)


set_option maxHeartbeats 2000000 in
set_option maxRecDepth 100000 in
theorem raword_any (t n : Int) (nm : ByteArray) (w : World) (hn : NumM.inR n) (hs : nm.size ≤ 100000) :
    Calls Tryz.prog 33 #[atv t nm n] w fun e w' => e = .returned (.string ⟨(AtomM.word t nm.data.toList n).toArray⟩) ∧ Below w.heap.size w w' := by
  have HA := Lib.hid (fun W => rasked_any t n nm W hs)
  have HT := Lib.hid (fun W => rtext_any n W hn)
  have hk : AtomM.asked t nm.data.toList = true → t ≠ -1 → NumM.inR t := fun h1 h2 => by
    rcases AtomM.asked_cases (a := ⟨t, nm.data.toList, n⟩) h1 with ⟨h, _⟩ | ⟨h, _⟩
    · exact absurd h h2
    · exact (AtomM.thread_text h).2.1
  have E := Lib.hid (show AtomM.word t nm.data.toList n = if AtomM.asked t nm.data.toList then (if t = -1 then nm.data.toList ++ 61 :: NumM.text n else NumM.text t ++ 58 :: (nm.data.toList ++ 61 :: NumM.text n)) else [] from rfl)
  have tl := NumM.text_len n hn
  have z0 : nm.data.toList.length ≤ 100000 := by rw [← Lib.size_eq]; exact hs
  generalize AtomM.asked t nm.data.toList = res at *
  unfold atv at *
  cases res
  · clear hk z0 tl
    go_enter Tryz.func33, Tryz.ntmps33
    go_wp2_with (go_at_call 49; refine (HA.out _).mono ?_; rintro e w' ⟨rfl, hB⟩)
    go_ret
    exact ⟨by rw [E.out]; rfl, box_below hB⟩
  · have hc1 : ∀ W, (Op.stringOp BinOp.add nm ⟨#[61]⟩).run Tryz.prog W = .ok (.string ⟨(nm.data.toList ++ [61]).toArray⟩) W := fun W => add_l (P := Tryz.prog) W nm.data.toList [61] (by simp; omega)
    have hc2 := fun W => add_l (P := Tryz.prog) W (nm.data.toList ++ [61]) (NumM.text n) (by simp; omega)
    by_cases h : t = -1
    · subst h
      clear hk z0 tl
      go_enter Tryz.func33, Tryz.ntmps33
      go_wp2_with fail
      refine (HA.out _).mono ?_
      rintro e w1 ⟨rfl, hB⟩
      obtain ⟨c0, _⟩ := kept_box (v := .int .i64 (-1)) hB 0 rfl
      obtain ⟨c1, _⟩ := kept_box (v := .string nm) hB 1 rfl
      obtain ⟨c2, _⟩ := kept_box (v := .int .i64 n) hB 2 rfl
      go_wp2
      go_region_held3 (fun w' => w'.cell? ⟨w.heap.size, 0, none⟩ = some (.int .i64 (-1)) ∧ w'.cell? ⟨w.heap.size, 1, none⟩ = some (.string nm) ∧ w'.cell? ⟨w.heap.size, 2, none⟩ = some (.int .i64 n)) (first | go_keep | (exact held_below3 hB2 (by assumption)))
        (first | (go_at_call 31; refine (HT.out _).mono ?_; rintro e w' ⟨rfl, hB2⟩))
      all_goals
        rename_i hHeld
        obtain ⟨d0, d1, d2⟩ := hHeld
        go_wp2
        go_ret
        exact ⟨by rw [E.out]; rfl, (box_below hB).trans ((below_undrew hB2).mono (box_below hB).size)⟩
    · have hti := hk rfl h
      have tl2 := NumM.text_len t hti
      have HTt := Lib.hid (fun W => rtext_any t W hti)
      have h' : (t == -1) = false := beq_eq_false_iff_ne.2 h
      have E2 := Lib.hid (show AtomM.word t nm.data.toList n = NumM.text t ++ 58 :: (nm.data.toList ++ 61 :: NumM.text n) by rw [E.out, if_pos rfl, if_neg h])
      have hc3 := fun W => add_l (P := Tryz.prog) W (NumM.text t) [58] (by simp; omega)
      have hc4 := fun W => add_l (P := Tryz.prog) W (NumM.text t ++ [58]) (nm.data.toList ++ 61 :: NumM.text n) (by simp; omega)
      clear hk z0 tl tl2 hti h E
      go_enter Tryz.func33, Tryz.ntmps33
      go_wp2_with fail
      refine (HA.out _).mono ?_
      rintro e w1 ⟨rfl, hB⟩
      obtain ⟨c0, _⟩ := kept_box (v := .int .i64 t) hB 0 rfl
      obtain ⟨c1, _⟩ := kept_box (v := .string nm) hB 1 rfl
      obtain ⟨c2, _⟩ := kept_box (v := .int .i64 n) hB 2 rfl
      go_wp2
      go_region_held3 (fun w' => w'.cell? ⟨w.heap.size, 0, none⟩ = some (.int .i64 t) ∧ w'.cell? ⟨w.heap.size, 1, none⟩ = some (.string nm) ∧ w'.cell? ⟨w.heap.size, 2, none⟩ = some (.int .i64 n)) (first | go_keep | (exact held_below3 hB2 (by assumption)))
        (first | (go_at_call 31; refine (HT.out _).mono ?_; rintro e w' ⟨rfl, hB2⟩))
      all_goals
        rename_i hHeld
        obtain ⟨d0, d1, d2⟩ := hHeld
        go_wp2_with fail
        refine (HTt.out _).mono ?_
        rintro e w3 ⟨rfl, hB3⟩
        go_wp2
        go_ret
        exact ⟨by rw [E2.out]; simp, (box_below hB).trans ((chain (below_undrew hB2) hB3).mono (box_below hB).size)⟩

end Go.Proofs.YtkkjodjachbifaaGreatDoor
