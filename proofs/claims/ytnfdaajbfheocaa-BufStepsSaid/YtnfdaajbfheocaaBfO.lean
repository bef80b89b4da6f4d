/-
  BufOne, as a walk: it returns true.
-/
import Derived.Test.YtnfdaajbfheocaaBfH
import Derived.Test.YtnfdaajbfheocaaBfD
import Derived.Test.YtnfdaajbfheocaaBfF
import Derived.Deep.RegionHeld3
import Derived.Deep.DeepCutAuto
namespace Go.Proofs.Ytnfdaajbfheocaa
open Go.RowKit
set_option linter.unusedVariables false
set_option linter.unusedSimpArgs false
open BfM

theorem rw_init {B : Nat} {w : World} {g f c : Nat} {x : Wr} {b : List Wr} (h : Wrs B w (.slice (some ⟨g, f, none⟩) (b.length + 1) c) (b ++ [x])) : Wrs B w (.slice (some ⟨g, f, none⟩) b.length c) b := by
  obtain ⟨A', c', e, h1, h2, h0, h3⟩ := h
  injection e with e1 _ e3
  subst e1; subst e3
  obtain ⟨b', f', e, hb, hc⟩ := h3 (by simp)
  injection e with e; injection e with e1 e2; subst e1; subst e2
  simp only [List.length_append, List.length_cons, List.length_nil] at h1
  refine ⟨_, _, rfl, by omega, by omega, fun e => (by cases e), fun _ => ⟨g, f, rfl, hb, fun j u hu => ?_⟩⟩
  exact hc j u (by rw [List.flatMap_append, List.getElem?_append_left (List.getElem?_eq_some_iff.1 hu).1]; exact hu)
theorem viewV_frm (b : List Wr) (m : List Int) (l : Int) : ∃ n s, viewV b m l = .tuple #[.int .i64 n, .bool s] := by
  unfold viewV; cases view b m l <;> exact ⟨_, _, rfl⟩
set_option maxHeartbeats 8000000 in
set_option maxRecDepth 100000 in
theorem bone_law {vb vm : Value} {b : List Wr} {m : List Int} (x : Wr) (l : Int) (w : World) (hb : Wrs w.heap.size w vb b) (hm : Ints w.heap.size w vm m) :
    Calls Try.prog 5 #[vb, .agg #[.int .i64 x.loc, .int .i64 x.n], vm, .int .i64 l] w fun e w' => e = .returned (.bool true) ∧ Below w.heap.size w w' := by
  have HHd := Lib.hid (fun W => bhead_any W)
  have HVb := Lib.hid (fun W (hW : Below w.heap.size w W) => show Wrs W.heap.size W vb b from (hb.below hW).more hW.size)
  have HVm := Lib.hid (fun W (hW : Below w.heap.size w W) => show Ints W.heap.size W vm m from (hm.below hW).more hW.size)
  obtain ⟨Ab, cb, rfl, hb1, hb2, hb0, hb3⟩ := hb
  obtain ⟨Am, cm, rfl, hm1, hm2, hm0, hm3⟩ := hm
  unfold maxLen at hb2 hm2
  have HGP := Lib.hid (fun W (hW : Below w.heap.size w W) => bgreat_any W (HVb.out W hW) (HVm.out W hW))
  have hlast : lastV (b ++ [x]) x.loc = .tuple #[.int .i64 x.n, .bool true] := by unfold lastV; rw [last_snoc, if_pos rfl]
  have HOT := Lib.hid (fun (h : ¬ x.loc = l) => show viewV (b ++ [x]) m l = viewV b m l from by unfold viewV; rw [view_other h])
  have hbl : (b ++ [x]).length = b.length + 1 := by simp
  obtain ⟨n1, s1, e1⟩ := viewV_frm b m l
  obtain ⟨n2, s2, e2⟩ := viewV_frm (b ++ [x]) m l
  rw [e1, e2] at HOT
  have hB := below_al (Below.refl w.heap.size w) (.cells #[.int .i64 x.loc, .int .i64 x.n] 24)
  have x0 : (w.alloc (.cells #[.int .i64 x.loc, .int .i64 x.n] 24)).cell? ⟨w.heap.size, 0, none⟩ = some (.int .i64 x.loc) := by rw [World.cell?_alloc_at _ _ _ _ rfl]; rfl
  have x1 : (w.alloc (.cells #[.int .i64 x.loc, .int .i64 x.n] 24)).cell? ⟨w.heap.size, 1, none⟩ = some (.int .i64 x.n) := by rw [World.cell?_alloc_at _ _ _ _ rfl]; rfl
  have HX := Lib.hid (And.intro (And.intro hlast e1) (And.intro e2 hbl))
  clear hlast e1 e2 hbl
  go_enter Try.func5, Try.ntmps5
  go_wp2_with fail
  refine (HHd.out _).mono ?_
  rintro e w1 ⟨rfl, hbb⟩
  replace hB := chain hB hbb
  replace x0 := kc hbb x0
  replace x1 := kc hbb x1
  clear hbb HHd
  go_wp2_with fail
  refine (HGP.out _ hB).mono ?_
  rintro e w2 ⟨gb, rfl, hsx, hbb⟩
  replace hB := chain hB hbb
  replace x0 := kc hbb x0
  replace x1 := kc hbb x1
  clear hbb HGP
  cases gb
  case true =>
    go_wp2
    go_ret
    exact ⟨rfl, hB⟩
  obtain ⟨hl3, hm3'⟩ := hsx rfl
  clear hsx hb3 hm3
  have hl6 : b.length ≤ 1000000 := by omega
  have hm6 : m.length ≤ 1000000 := by omega
  have HVi := Lib.hid (fun W (hW : Below w.heap.size w W) => view_any l W (HVb.out W hW) (HVm.out W hW) (Nat.le_refl _) hl6 hm6)
  rw [HX.out.1.2] at HVi
  have HPu := Lib.hid (fun W (hW : Below w.heap.size w W) => push_any x W (HVb.out W hW) (Nat.le_refl _) hl6)
  go_wp2_with fail
  refine (HPu.out _ hB).mono ?_
  rintro e w3 ⟨u, rfl, ho, hbb⟩
  have HU := Lib.hid (fun W (hW : Below w3.heap.size w3 W) => show Wrs W.heap.size W u (b ++ [x]) from ((Rw.own ho (Nat.le_refl _)).below hW).more hW.size)
  unfold OwnW at ho
  rw [HX.out.2.2] at ho
  obtain ⟨g, c, rfl, hg1, hg2, hg3, hg4⟩ := own_form ho (by omega)
  unfold maxLen at hg4
  have HB3 := chain hB hbb
  have HBL := Lib.hid HB3
  replace hB := chain hB hbb
  replace x0 := kc hbb x0
  replace x1 := kc hbb x1
  clear hbb HPu HB3 ho hg1 hg2
  have hl7 : (b ++ [x]).length ≤ 1000000 := by rw [HX.out.2.2]; omega
  have HLa := Lib.hid (fun W (hW : Below w3.heap.size w3 W) => last_any x.loc W (HU.out W hW) (Nat.le_refl _) hl7)
  have HV2 := Lib.hid (fun W (hW : Below w3.heap.size w3 W) => view_any l W (HU.out W hW) (HVm.out W (chain HBL.out hW)) (Nat.le_refl _) hl7 hm6)
  rw [HX.out.1.1] at HLa
  rw [HX.out.2.1] at HV2
  have HSa := Lib.hid (fun W (hW : Below w3.heap.size w3 W) => same_any W (rw_init (HU.out W hW)) (HVb.out W (chain HBL.out hW)) (Nat.le_refl _))
  have hR : Below w3.heap.size w3 w3 := Below.refl _ _
  clear HU HVb HVm HX hl7 hB
  go_wp2_with fail
  refine (HLa.out _ hR).mono ?_
  rintro e w4 ⟨rfl, hbb⟩
  replace hR := chain hR hbb
  replace x0 := kc hbb x0
  replace x1 := kc hbb x1
  clear hbb HLa
  go_wp2_with fail
  refine (HVi.out _ (chain HBL.out hR)).mono ?_
  rintro e w5 ⟨rfl, hbb⟩
  replace hR := chain hR hbb
  replace x0 := kc hbb x0
  replace x1 := kc hbb x1
  clear hbb HVi
  go_wp2_with fail
  refine (HV2.out _ hR).mono ?_
  rintro e w6 ⟨rfl, hbb⟩
  replace hR := chain hR hbb
  replace x0 := kc hbb x0
  replace x1 := kc hbb x1
  clear hbb HV2
  go_wp2_with fail
  refine (HSa.out _ hR).mono ?_
  rintro e w7 ⟨rfl, hbb⟩
  replace hR := chain hR hbb
  replace x0 := kc hbb x0
  replace x1 := kc hbb x1
  have hE := chain HBL.out hR
  clear hbb HSa hR
  by_cases hxl : x.loc = l
  · have hxl' : l = x.loc := hxl.symm
    clear hxl HOT
    go_wp2
    go_ret
    exact ⟨rfl, hE⟩
  · have hxl' : ¬ l = x.loc := fun e => hxl e.symm
    have hot := HOT.out hxl
    injection hot with hot
    obtain rfl : n2 = n1 := by
      have := congrArg (fun (a : Array Value) => a[0]?) hot
      simpa using this
    obtain rfl : s2 = s1 := by
      have := congrArg (fun (a : Array Value) => a[1]?) hot
      simpa using this
    clear hot HOT hxl
    go_wp2
    go_ret
    exact ⟨rfl, hE⟩
end Go.Proofs.Ytnfdaajbfheocaa
