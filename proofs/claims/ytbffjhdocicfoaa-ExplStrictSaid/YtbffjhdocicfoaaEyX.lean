/-
  THE ENDS THAT ARE FOUND, mathematics: those of the states in the row, in order, each by the first way. Of no program.
-/
import Derived.Test.YtbffjhdocicfoaaK36
import Derived.Test.YtbffjhdocicfoaaEyI
namespace Go.Proofs.Ytbffjhdocicfoaa
set_option linter.unusedVariables false
set_option linter.unusedSimpArgs false
open CodM (St Pg rightP hReg hLoc)
open OtM ScM ExM ExN ExO ExP ExR EyM EyP
def wayAt (l : List (Nd Sta (Nat × Bool))) (i : Nat) : List (Nat × Bool) := match l[i]? with
  | some n => n.2
  | none => []
abbrev endW (l : List (Nd Sta (Nat × Bool))) (q : Ot × Nat) : FdE := (q.1, wayAt l q.2)
theorem endN_is (P : Pg) (l : List (Nd Sta (Nat × Bool))) : ∀ k, k ≤ l.length → endsOf (overB P) enS (l.take k) = (endN P (l.map (·.1)) k).map (endW l)
  | 0, _ => by simp [endsOf, endN]
  | k + 1, hk => by
    have ih := endN_is P l k (by omega)
    have hkl : k < l.length := by omega
    rw [List.take_succ_eq_append_getElem hkl]
    unfold endsOf at ih ⊢
    rw [List.filter_append, List.map_append, ih]
    conv => rhs; unfold endN
    rw [List.getElem?_eq_getElem (by simpa using hkl)]
    simp only [List.getElem_map]
    by_cases c : overB P l[k].1 = true
    · have hw : wayAt l k = l[k].2 := by unfold wayAt; rw [List.getElem?_eq_getElem hkl]
      simp [c, hw]
    · simp [c]
theorem endN_snd (P : Pg) (ss : List Sta) : ∀ k, (endN P ss k).Pairwise (fun x y => x.2 < y.2) ∧ ∀ q ∈ endN P ss k, q.2 < k
  | 0 => ⟨.nil, fun q hq => by cases hq⟩
  | k + 1 => by
    obtain ⟨h1, h2⟩ := endN_snd P ss k
    unfold endN
    split
    · split
      · refine ⟨List.pairwise_append.2 ⟨h1, List.pairwise_singleton _ _, fun x hx y hy => ?_⟩, fun q hq => ?_⟩
        · rw [List.mem_singleton.1 hy]; exact h2 x hx
        · rcases List.mem_append.1 hq with hq | hq
          · have := h2 q hq; omega
          · rw [List.mem_singleton.1 hq]; exact Nat.lt_succ_self _
      · exact ⟨h1, fun q hq => by have := h2 q hq; omega⟩
    · exact ⟨h1, fun q hq => by have := h2 q hq; omega⟩
theorem ix_of {P : Pg} {ss : List Sta} {k : Nat} {es : List EV} (h : es.map evP = endN P ss k) : Ix es := by
  have := (endN_snd P ss k).1
  rw [← h, List.pairwise_map] at this
  exact this
/-- What is kept of the sorted ends, with the ways, is what is found. -/
theorem found_math {P : Pg} {l : List (Nd Sta (Nat × Bool))} {es ss rs : List EV} (he : es.map evP = endN P (l.map (·.1)) l.length) (hp : ss.Perm es) (h1 : rs.Pairwise fun x y => Lt x.o y.o) (h2 : ∀ y ∈ rs, y ∈ ss ∧ ∀ z ∈ ss, z.o = y.o → y.i ≤ z.i) (h3 : ∀ z ∈ ss, ∃ y ∈ rs, y.o = z.o) :
    rs.map (fun e => endW l (evP e)) = fnd (endsOf (overB P) enS l) := by
  have hE : endsOf (overB P) enS l = es.map (fun e => endW l (evP e)) := by
    have := endN_is P l l.length (Nat.le_refl _)
    rw [List.take_length, ← he, List.map_map] at this
    exact this
  have hix := ix_of he
  have hf := fnd_ok (endsOf (overB P) enS l)
  refine srtF_ext (by show List.Pairwise _ _; rw [List.pairwise_map]; exact h1) hf.srt fun f => ?_
  rw [hf.mem, hE]
  constructor
  · intro h
    obtain ⟨y, hy, rfl⟩ := List.mem_map.1 h
    obtain ⟨k1, k2⟩ := h2 y hy
    obtain ⟨A, B, e⟩ := List.append_of_mem (hp.mem_iff.1 k1)
    refine ⟨A.map (fun e => endW l (evP e)), B.map (fun e => endW l (evP e)), by rw [e]; simp, fun x hx => ?_⟩
    obtain ⟨z, hz, rfl⟩ := List.mem_map.1 hx
    intro hzo
    rw [e] at hix
    have hlt := (List.pairwise_append.1 hix).2.2 z hz y (List.mem_cons_self ..)
    have := k2 z (hp.mem_iff.2 (by rw [e]; exact List.mem_append_left _ hz)) hzo
    omega
  · rintro ⟨A, B, e, hn⟩
    obtain ⟨A', B', e2, rfl, e3⟩ := List.map_eq_append_iff.1 e
    obtain ⟨z, B'', rfl, hz, rfl⟩ := List.map_eq_cons_iff.1 e3
    obtain ⟨y, hy, hyo⟩ := h3 z (hp.mem_iff.2 (by rw [e2]; simp))
    obtain ⟨k1, k2⟩ := h2 y hy
    have hyz := k2 z (hp.mem_iff.2 (by rw [e2]; simp)) hyo.symm
    have hym := hp.mem_iff.1 k1
    rw [e2] at hym hix
    have hlt := (List.pairwise_append.1 hix).2
    rcases List.mem_append.1 hym with q | q
    · exact absurd (by rw [← hz]; exact hyo) (hn (endW l (evP y)) (List.mem_map.2 ⟨y, q, rfl⟩))
    · rcases List.mem_cons.1 q with q | q
      · rw [← hz, ← q]; exact List.mem_map.2 ⟨y, hy, rfl⟩
      · have := (List.pairwise_cons.1 hlt.1).1 y q; omega
end Go.Proofs.Ytbffjhdocicfoaa
