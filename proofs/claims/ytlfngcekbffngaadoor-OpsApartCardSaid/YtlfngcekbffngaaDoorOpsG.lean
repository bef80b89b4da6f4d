/-
  WHAT LINE SOME WORDS WOULD BE (made), over any world that holds the registers.
-/
import Derived.Test.YtlfngcekbffngaaDoorTrim
import Derived.Test.YtlfngcekbffngaaDoorKit2
import Derived.Test.YtlfngcekbffngaaDoorOpsW
import Derived.StillTailTactics
import Derived.Deep.RegionHeld3
namespace Go.Proofs.YtlfngcekbffngaaDoor
open Go.RowKit
set_option linter.unusedVariables false
set_option linter.unusedSimpArgs false
open WordM (L)

/-- A line as a value, by what it has. -/
def lnw (l : OpsM.Ln) : Value := lnv l.op ⟨l.reg.toArray⟩ ⟨l.loc.toArray⟩ ⟨l.label.toArray⟩ l.n

theorem offEnd_len (c : UInt8) (s : L) : (OpsM.offEnd c s).length ≤ s.length := by
  unfold OpsM.offEnd; split <;> simp
theorem offHead_len (c : UInt8) (s : L) : (OpsM.offHead c s).length ≤ s.length := by
  unfold OpsM.offHead; split <;> simp

set_option maxHeartbeats 1000000 in
set_option maxRecDepth 100000 in
theorem inside_any (s : ByteArray) (w : World) (hs : s.size ≤ 100000) :
    Calls Tryd.prog 53 #[.string s] w fun e w' => e = .returned (.string ⟨(OpsM.inside s.data.toList).toArray⟩) ∧ w = w' := by
  have H1 := Lib.hid (fun W => tprefix_any s 91 W)
  have H2 := Lib.hid (fun W => tsuffix_any ⟨(OpsM.offHead 91 s.data.toList).toArray⟩ 93 W (by have := offHead_len 91 s.data.toList; rw [Lib.size_eq]; rw [Lib.size_eq] at hs; simp; omega))
  go_enter Tryd.func53, Tryd.ntmps53
  go_wp2_with (first | (go_at_call 59; refine (H1.out _).mono ?_; rintro e w' ⟨rfl, rfl⟩) | (go_at_call 51; refine (H2.out _).mono ?_; rintro e w' ⟨rfl, rfl⟩))
  go_ret
  exact ⟨rfl, rfl⟩

set_option maxHeartbeats 1000000 in
set_option maxRecDepth 100000 in
theorem alone_any (s : ByteArray) (w : World) (hs : s.size ≤ 100000) :
    Calls Tryd.prog 40 #[.string s] w fun e w' => e = .returned (lnw (OpsM.alone s.data.toList)) ∧ Below w.heap.size w w' := by
  have H2 := Lib.hid (fun W => tsuffix_any s 58 W (by omega))
  by_cases h : s.data.toList = OpsM.kmfence
  · have q : (s.toList == [109, 102, 101, 110, 99, 101]) = true := by rw [Lib.toList_data, h]; rfl
    have E := Lib.hid (show OpsM.alone s.data.toList = ⟨6, [], [], [], 0⟩ by unfold OpsM.alone; rw [if_pos h])
    clear h
    go_enter Tryd.func40, Tryd.ntmps40
    go_wp2
    exact bodyPost_ret (v := lnv 6 ⟨#[]⟩ ⟨#[]⟩ ⟨#[]⟩ 0) (by simp [results, Tryd.results40, go_sem, lnv]) rfl ⟨by rw [E.out]; rfl, (Below.refl _ _).alloc (Nat.le_refl _) _⟩
  · have q : (s.toList == [109, 102, 101, 110, 99, 101]) = false := by rw [Lib.toList_data, beq_dec]; exact decide_eq_false h
    have E := Lib.hid (show OpsM.alone s.data.toList = ⟨11, [], [], OpsM.offEnd 58 s.data.toList, 0⟩ by unfold OpsM.alone; rw [if_neg h])
    clear h
    go_enter Tryd.func40, Tryd.ntmps40
    go_wp2_with (first | (go_at_call 51; refine (H2.out _).mono ?_; rintro e w' ⟨rfl, rfl⟩))
    exact bodyPost_ret (v := lnv 11 ⟨#[]⟩ ⟨#[]⟩ ⟨(OpsM.offEnd 58 s.data.toList).toArray⟩ 0) (by simp [results, Tryd.results40, go_sem, lnv]) rfl ⟨by rw [E.out]; rfl, (Below.refl _ _).alloc (Nat.le_refl _) _⟩
set_option maxHeartbeats 1000000 in
set_option maxRecDepth 100000 in
theorem jumped_any (f t : ByteArray) (w : World) :
    Calls Tryd.prog 41 #[.string f, .string t] w fun e w' => e = .returned (lnw (OpsM.jumped f.data.toList t.data.toList)) ∧ Below w.heap.size w w' := by
  by_cases h0 : f.data.toList = OpsM.kjmp
  · have q0 : (f.toList == [106, 109, 112]) = true := by rw [Lib.toList_data, h0]; rfl
    have E := Lib.hid (show OpsM.jumped f.data.toList t.data.toList = ⟨8, [], [], t.data.toList, 0⟩ by unfold OpsM.jumped; rw [if_pos h0])
    clear h0
    go_enter Tryd.func41, Tryd.ntmps41
    go_wp2
    exact bodyPost_ret (v := lnv 8 ⟨#[]⟩ ⟨#[]⟩ t 0) (by simp [results, Tryd.results41, go_sem, lnv]) rfl ⟨by rw [E.out]; rfl, (Below.refl _ _).alloc (Nat.le_refl _) _⟩
  · have q0 : (f.toList == [106, 109, 112]) = false := by rw [Lib.toList_data, beq_dec]; exact decide_eq_false h0
    by_cases h1 : f.data.toList = OpsM.kje
    · have q1 : (f.toList == [106, 101]) = true := by rw [Lib.toList_data, h1]; rfl
      have E := Lib.hid (show OpsM.jumped f.data.toList t.data.toList = ⟨9, [], [], t.data.toList, 0⟩ by unfold OpsM.jumped; rw [if_neg h0, if_pos h1])
      clear h0 h1
      go_enter Tryd.func41, Tryd.ntmps41
      go_wp2
      exact bodyPost_ret (v := lnv 9 ⟨#[]⟩ ⟨#[]⟩ t 0) (by simp [results, Tryd.results41, go_sem, lnv]) rfl ⟨by rw [E.out]; rfl, (Below.refl _ _).alloc (Nat.le_refl _) _⟩
    · have q1 : (f.toList == [106, 101]) = false := by rw [Lib.toList_data, beq_dec]; exact decide_eq_false h1
      by_cases h2 : f.data.toList = OpsM.kjne
      · have q2 : (f.toList == [106, 110, 101]) = true := by rw [Lib.toList_data, h2]; rfl
        have E := Lib.hid (show OpsM.jumped f.data.toList t.data.toList = ⟨10, [], [], t.data.toList, 0⟩ by unfold OpsM.jumped; rw [if_neg h0, if_neg h1, if_pos h2])
        clear h0 h1 h2
        go_enter Tryd.func41, Tryd.ntmps41
        go_wp2
        exact bodyPost_ret (v := lnv 10 ⟨#[]⟩ ⟨#[]⟩ t 0) (by simp [results, Tryd.results41, go_sem, lnv]) rfl ⟨by rw [E.out]; rfl, (Below.refl _ _).alloc (Nat.le_refl _) _⟩
      · have q2 : (f.toList == [106, 110, 101]) = false := by rw [Lib.toList_data, beq_dec]; exact decide_eq_false h2
        have E := Lib.hid (show OpsM.jumped f.data.toList t.data.toList = OpsM.zero by unfold OpsM.jumped; rw [if_neg h0, if_neg h1, if_neg h2])
        clear h0 h1 h2
        go_enter Tryd.func41, Tryd.ntmps41
        go_wp2
        exact bodyPost_ret (v := lnv 0 ⟨#[]⟩ ⟨#[]⟩ ⟨#[]⟩ 0) (by simp [results, Tryd.results41, go_sem, lnv]) rfl ⟨by rw [E.out]; rfl, (Below.refl _ _).alloc (Nat.le_refl _) _⟩
set_option maxHeartbeats 1000000 in
set_option maxRecDepth 100000 in
theorem moved_any (t f : ByteArray) (w : World) (hr : Regs w) (ht : t.size ≤ 100000) (hf : f.size ≤ 100000) :
    Calls Tryd.prog 52 #[.string t, .string f] w fun e w' => e = .returned (lnw (OpsM.moved t.data.toList f.data.toList)) ∧ Below w.heap.size w w' := by
  have E := Lib.hid (show OpsM.moved t.data.toList f.data.toList = (if (NumM.get f.data.toList).2 then (if OpsM.regB t.data.toList then ⟨1, t.data.toList, [], [], (NumM.get f.data.toList).1⟩ else ⟨4, [], OpsM.inside t.data.toList, [], (NumM.get f.data.toList).1⟩)
    else if OpsM.regB t.data.toList then ⟨2, t.data.toList, OpsM.inside f.data.toList, [], 0⟩ else ⟨3, f.data.toList, OpsM.inside t.data.toList, [], 0⟩ : OpsM.Ln) from rfl)
  have HR := Lib.hid (fun W h => register_any t W h)
  have HG := Lib.hid (fun W => get_any f W (by unfold maxLen; omega))
  have HI := Lib.hid (fun W => inside_any t W ht)
  have HJ := Lib.hid (fun W => inside_any f W hf)
  have HW := Lib.hid hr
  clear hr ht hf
  generalize NumM.get f.data.toList = g at *
  generalize OpsM.regB t.data.toList = rb at *
  obtain ⟨n, is⟩ := g
  cases is
  · cases rb
    · go_enter Tryd.func52, Tryd.ntmps52
      go_wp2_with fail
      refine (HG.out _).mono ?_
      rintro e w1 ⟨rfl, hB⟩
      have HW1 := Lib.hid ((HW.out.below ((Below.refl _ _).alloc (Nat.le_refl _) _)).below hB)
      clear HW
      obtain ⟨c0, f0⟩ := kept_box hB 0 rfl
      obtain ⟨c1, f1⟩ := kept_box hB 1 rfl
      obtain ⟨c2, f2⟩ := kept_box hB 2 rfl
      obtain ⟨c3, f3⟩ := kept_box hB 3 rfl
      obtain ⟨c4, f4⟩ := kept_box hB 4 rfl
      have hz := box_lt hB
      go_wp2_with (first | (go_at_call 37; refine (HR.out _ HW1.out).mono ?_; rintro e w' ⟨rfl, rfl⟩) | (go_at_call 53; refine (HI.out _).mono ?_; rintro e w' ⟨rfl, rfl⟩))
      exact bodyPost_ret (v := lnv 3 f ⟨(OpsM.inside t.data.toList).toArray⟩ ⟨#[]⟩ 0) (by simp [results, Tryd.results52, go_sem, lnv, c0, c1, c2, c3, c4, hz]) rfl ⟨by rw [E.out]; rfl, (((((box_below hB).setCell (Nat.le_refl _) _).setCell (Nat.le_refl _) _).setCell (Nat.le_refl _) _).setCell (Nat.le_refl _) _).setCell (Nat.le_refl _) _⟩
    · go_enter Tryd.func52, Tryd.ntmps52
      go_wp2_with fail
      refine (HG.out _).mono ?_
      rintro e w1 ⟨rfl, hB⟩
      have HW1 := Lib.hid ((HW.out.below ((Below.refl _ _).alloc (Nat.le_refl _) _)).below hB)
      clear HW
      obtain ⟨c0, f0⟩ := kept_box hB 0 rfl
      obtain ⟨c1, f1⟩ := kept_box hB 1 rfl
      obtain ⟨c2, f2⟩ := kept_box hB 2 rfl
      obtain ⟨c3, f3⟩ := kept_box hB 3 rfl
      obtain ⟨c4, f4⟩ := kept_box hB 4 rfl
      have hz := box_lt hB
      go_wp2_with (first | (go_at_call 37; refine (HR.out _ HW1.out).mono ?_; rintro e w' ⟨rfl, rfl⟩) | (go_at_call 53; refine (HJ.out _).mono ?_; rintro e w' ⟨rfl, rfl⟩))
      exact bodyPost_ret (v := lnv 2 t ⟨(OpsM.inside f.data.toList).toArray⟩ ⟨#[]⟩ 0) (by simp [results, Tryd.results52, go_sem, lnv, c0, c1, c2, c3, c4, hz]) rfl ⟨by rw [E.out]; rfl, (((((box_below hB).setCell (Nat.le_refl _) _).setCell (Nat.le_refl _) _).setCell (Nat.le_refl _) _).setCell (Nat.le_refl _) _).setCell (Nat.le_refl _) _⟩
  · cases rb
    · go_enter Tryd.func52, Tryd.ntmps52
      go_wp2_with fail
      refine (HG.out _).mono ?_
      rintro e w1 ⟨rfl, hB⟩
      have HW1 := Lib.hid ((HW.out.below ((Below.refl _ _).alloc (Nat.le_refl _) _)).below hB)
      clear HW
      obtain ⟨c0, f0⟩ := kept_box hB 0 rfl
      obtain ⟨c1, f1⟩ := kept_box hB 1 rfl
      obtain ⟨c2, f2⟩ := kept_box hB 2 rfl
      obtain ⟨c3, f3⟩ := kept_box hB 3 rfl
      obtain ⟨c4, f4⟩ := kept_box hB 4 rfl
      have hz := box_lt hB
      go_wp2_with (first | (go_at_call 37; refine (HR.out _ HW1.out).mono ?_; rintro e w' ⟨rfl, rfl⟩) | (go_at_call 53; refine (HI.out _).mono ?_; rintro e w' ⟨rfl, rfl⟩))
      exact bodyPost_ret (v := lnv 4 ⟨#[]⟩ ⟨(OpsM.inside t.data.toList).toArray⟩ ⟨#[]⟩ n) (by simp [results, Tryd.results52, go_sem, lnv, c0, c1, c2, c3, c4, hz]) rfl ⟨by rw [E.out]; rfl, (((((box_below hB).setCell (Nat.le_refl _) _).setCell (Nat.le_refl _) _).setCell (Nat.le_refl _) _).setCell (Nat.le_refl _) _).setCell (Nat.le_refl _) _⟩
    · go_enter Tryd.func52, Tryd.ntmps52
      go_wp2_with fail
      refine (HG.out _).mono ?_
      rintro e w1 ⟨rfl, hB⟩
      have HW1 := Lib.hid ((HW.out.below ((Below.refl _ _).alloc (Nat.le_refl _) _)).below hB)
      clear HW
      obtain ⟨c0, f0⟩ := kept_box hB 0 rfl
      obtain ⟨c1, f1⟩ := kept_box hB 1 rfl
      obtain ⟨c2, f2⟩ := kept_box hB 2 rfl
      obtain ⟨c3, f3⟩ := kept_box hB 3 rfl
      obtain ⟨c4, f4⟩ := kept_box hB 4 rfl
      have hz := box_lt hB
      go_wp2_with (first | (go_at_call 37; refine (HR.out _ HW1.out).mono ?_; rintro e w' ⟨rfl, rfl⟩) | (go_at_call 53; refine (HI.out _).mono ?_; rintro e w' ⟨rfl, rfl⟩))
      exact bodyPost_ret (v := lnv 1 t ⟨#[]⟩ ⟨#[]⟩ n) (by simp [results, Tryd.results52, go_sem, lnv, c0, c1, c2, c3, c4, hz]) rfl ⟨by rw [E.out]; rfl, (((((box_below hB).setCell (Nat.le_refl _) _).setCell (Nat.le_refl _) _).setCell (Nat.le_refl _) _).setCell (Nat.le_refl _) _).setCell (Nat.le_refl _) _⟩
end Go.Proofs.YtlfngcekbffngaaDoor
