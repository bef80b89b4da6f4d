/-
  ENDS: slices.SortFunc over a row of the call's own.
-/
import Derived.Test.YtodpajnpnobfmaaOtJ
import Derived.Test.YtodpajnpnobfmaaShelfO
namespace Go.Proofs.Ytodpajnpnobfmaa
open Go.RowKit
set_option linter.unusedVariables false
set_option linter.unusedSimpArgs false
open OtM

theorem own_of_cells {b T s g n cap : Nat} {w W : World} {xs ys : List Value} (h : w.ownsRow b T s (.slice (some ⟨g, 0, none⟩) n cap) n xs) (hW : ∀ cur, w.heap[g]? = some (.cells cur T (0, 0)) → ∃ cur', W.heap[g]? = some (.cells cur' T (0, 0)) ∧ cur'.size = cur.size)
    (hl : ys.length = n * s) (hc : ∀ j, j < n * s → W.cell? ⟨g, j, none⟩ = ys[j]?) : W.ownsRow b T s (.slice (some ⟨g, 0, none⟩) n cap) n ys := by
  refine ⟨hl, ?_⟩
  rcases h.2 with ⟨h', _⟩ | ⟨g', cap', cur, h', hb, hg, hnc, hcm, hcs, htake⟩
  · simp at h'
  · simp only [Value.slice.injEq, Option.some.injEq, Addr.mk.injEq, and_true, true_and] at h'
    obtain ⟨rfl, rfl⟩ := h'
    obtain ⟨cur', hg', hs'⟩ := hW cur hg
    refine .inr ⟨g, cap, cur', rfl, hb, hg', hnc, hcm, by rw [hs', hcs], ?_⟩
    apply List.ext_getElem?
    intro j
    by_cases hj : j < n * s
    · rw [List.getElem?_take, if_pos hj, ← hc j hj]
      simp [World.cell?, hg']
    · rw [List.getElem?_eq_none (by rw [List.length_take]; omega), List.getElem?_eq_none (by omega)]
section
variable {α : Type} [Inhabited α]
theorem heap_sortW (enc : α → List Value) (k : Nat) (w : World) (blk off m : Nat) (dk : Array α) (os : Array Obj) (i : Nat) (hi : i < w.heap.size) :
    (sortWorldK enc k w blk off m dk os).heap[i]? = if blk = i then (w.heap[i]?).map (Sort.onCells (Sort.putCells id off (Sort.flatK enc k dk))) else w.heap[i]? := by
  unfold sortWorldK Sort.putRowK Sort.putRow Sort.mapBlock Sort.ahead Sort.grow
  show (Array.modify w.heap blk _ ++ os)[i]? = _
  rw [Array.getElem?_append_left (by simpa using hi), Array.getElem?_modify]
theorem below_sortW (enc : α → List Value) (k : Nat) (w : World) (blk off m : Nat) (dk : Array α) (os : Array Obj) (B : Nat) (hB : B ≤ blk) (hb : blk < w.heap.size) : Below B w (sortWorldK enc k w blk off m dk os) :=
  ⟨rfl, rfl, rfl, size_sortWorldK_c enc k w blk off m dk os, fun i hi => by rw [heap_sortW enc k w blk off m dk os i (by omega), if_neg (by omega)]⟩
theorem gb_sortW (enc : α → List Value) (k : Nat) (w : World) (blk off m : Nat) (dk : Array α) (os : Array Obj) : w.grownBy (sortWorldK enc k w blk off m dk os) (some blk) :=
  ⟨rfl, rfl, rfl, size_sortWorldK_c enc k w blk off m dk os, fun i hi hne => by rw [heap_sortW enc k w blk off m dk os i hi, if_neg (fun e => hne (by rw [e]))]⟩
end
/-- Ends that read in a world. -/
abbrev OvS (B : Nat) (w : World) : Type := { x : OV // OvOk B w x }
theorem ltO_swo {B : Nat} {w : World} : Sort.SWO (ltOf fun x y : OvS B w => cmpO x.1.o y.1.o) where
  irrefl x := decide_eq_false (Lt.irrefl _)
  trans x y z h1 h2 := decide_eq_true (Lt.trans (of_decide_eq_true h1) (of_decide_eq_true h2))
  ntrans x y z h1 h2 := decide_eq_false (fun h => by
    have h1 : ¬ Lt x.1.o y.1.o := of_decide_eq_false h1
    have h2 : ¬ Lt y.1.o z.1.o := of_decide_eq_false h2
    have h : Lt x.1.o z.1.o := h
    rcases tri x.1.o y.1.o with k | k | k
    · exact h1 k
    · rw [k] at h; exact h2 h
    · exact h2 (k.trans h))
/-- A row that is sorted: none is ahead of one that stands ahead of it. -/
def SrtW (l : List Ot) : Prop := l.Pairwise fun a b => ¬ Lt b a
def SoRet (B b g n cap : Nat) (zs : List OV) (w : World) (e : Ending) (w' : World) : Prop :=
  e = .returned (.tuple #[]) ∧ ∃ ys : List OV, ys.Perm zs ∧ SrtW (os ys) ∧ w'.ownsRow b 24 2 (.slice (some ⟨g, 0, none⟩) n cap) n (ys.flatMap ovC) ∧ w.grownBy w' (some g)
theorem osort_any {B b g n cap : Nat} {zs : List OV} (w : World) (ho : w.ownsRow b 24 2 (.slice (some ⟨g, 0, none⟩) n cap) n (zs.flatMap ovC)) (hz : zs.length = n) (hn : n ≤ 1000000) (hB : B ≤ b) (hok : ∀ z ∈ zs, OvOk B w z) :
    Calls Try.prog 29 #[.slice (some ⟨g, 0, none⟩) n cap, .func (.func 25) #[] #[]] w (SoRet B b g n cap zs w) := by
  rcases Nat.eq_zero_or_pos n with h0 | hpos
  · subst h0
    have hcon := AnyF.slices_SortFunc_none Try.shSortO (some ⟨g, 0, none⟩) cap (.func (.func 25) #[] #[]) w
    change Calls Try.prog 29 _ _ _ at hcon
    refine hcon.mono ?_
    rintro e w' ⟨rfl, rfl⟩
    have := List.eq_nil_of_length_eq_zero hz
    subst this
    exact ⟨rfl, [], List.Perm.refl _, List.Pairwise.nil, ho, gb_of (Below.refl _ _) _⟩
  have hgl := ho.lt g rfl
  let α := OvS B w
  have hne : 0 < zs.length := by omega
  haveI : Inhabited α := ⟨⟨zs[0], hok _ (List.getElem_mem hne)⟩⟩
  let enc : α → List Value := fun x => ovC x.1
  let d : Array α := (zs.attach.map fun z => (⟨z.1, hok _ z.2⟩ : α)).toArray
  have hds : d.size = n := by simp [d, hz]
  have hdl : d.toList.map (·.1) = zs := by
    show List.map _ (List.map _ _) = _
    rw [List.map_map]
    exact List.attach_map_subtype_val zs
  have hfl : ∀ (d1 : Array α) (W : World), d1.size = n → ∀ j, j < n * 2 → ((d1.toList.map (·.1)).flatMap ovC)[j]? = some (enc d1[j / 2]!)[j % 2]! := fun d1 W hs j hj => by
    have h1 : j / 2 < n := by omega
    have := fl_at ovC_len (d1.toList.map (·.1)) (j / 2) (j % 2) (by simp; omega) (by omega)
    rw [show j / 2 * 2 + j % 2 = j by omega] at this
    rw [this, List.getElem_map, getElem!_pos d1 (j / 2) (by omega)]
    have e : d1.toList[j / 2]'(by simp; omega) = d1[j / 2] := by simp
    rw [e]
    show (ovC _)[_]? = _
    rw [List.getElem?_eq_getElem (by show j % 2 < 2; omega), getElem!_pos _ _ (by show j % 2 < 2; omega)]
  have hH : Sort.HoldsK enc 2 w g 0 d := fun j hj => by
    rw [Sort.size_flatK, hds] at hj
    rw [Sort.get_flatK _ _ _ _ (by rw [hds]; exact hj), Nat.zero_add]
    refine ⟨?_, own_frozen ho _⟩
    rw [ho.cellAt j hj, ← hdl, hfl d w hds j hj]
    rfl
  have hcmp : CmpLays Try.prog 25 #[] enc 2 (fun x y : α => cmpO x.1.o y.1.o) g 0 d.size w := fun m os dk hs x y => by
    have hbl := below_sortW enc 2 w g 0 m dk os B (Nat.le_trans hB hgl.1) hgl.2
    have := order_any (sortWorldK enc 2 w g 0 m dk os) (x.2.below hbl).out (y.2.below hbl).out (Nat.le_trans (Nat.le_trans hB (Nat.le_trans hgl.1 (Nat.le_of_lt hgl.2))) hbl.size)
    refine this.mono ?_
    rintro e w' ⟨rfl, hb⟩
    exact ⟨rfl, hb.grow⟩
  have eg : ∀ args w, (callFunc 25 args).run Try.prog w = .ok (.enter 25 args) w := enters_of Try.func25 (by kernel_rfl) rfl
  have hcon := AnyQ.slices_SortFunc Try.shSortO 2 Try.isAgg24 Try.sizeOf24 enc (fun _ => rfl) (fun x v hv => ov_one (xs := [x.1]) (B := B) (w := w) (fun z hz => by rw [List.mem_singleton.1 hz]; exact x.2) v (by simpa [enc] using hv)) (fun x y : α => cmpO x.1.o y.1.o) ltO_swo 25 #[] g 0 cap d w eg hcmp hH hgl.2 (by rw [hds]; omega)
  change Calls Try.prog 29 _ _ _ at hcon
  rw [hds] at hcon
  refine hcon.mono ?_
  rintro e w' ⟨rfl, d', m, os', hp, hsd, rfl⟩
  obtain ⟨hp1, -, hp3⟩ := hp
  have hp1 : d'.size = n := hp1.trans hds
  refine ⟨rfl, d'.toList.map (·.1), ?_, ?_, ?_, gb_sortW enc 2 w g 0 m d' os'⟩
  · have e1 : (d'.extract 0 n).toList = d'.toList := by rw [← hp1]; simp
    have e2 : (d.extract 0 n).toList = d.toList := by rw [← hds]; simp
    rw [e1, e2] at hp3
    have := hp3.map (·.1)
    rwa [hdl] at this
  · unfold SrtW
    rw [List.pairwise_iff_getElem]
    intro i j hi hj hij
    have hj' : j < n := by simpa [hp1] using hj
    have := hsd i j (Nat.zero_le _) hij hj'
    rw [getElem!_pos d' i (by omega), getElem!_pos d' j (by omega)] at this
    have := of_decide_eq_false this
    intro hl
    unfold Lt at hl
    exact this (by simpa using hl)
  · refine own_of_cells ho (fun cur hc => ?_) (by rw [fl_len ovC_len]; simp [hp1]) (fun j hj => ?_)
    · rw [heap_sortW enc 2 w g 0 m d' os' g hgl.2, if_pos rfl, hc]
      exact ⟨_, rfl, by simp [Sort.putCells]⟩
    · have h1 := holdsK_sortWorldK_c enc 2 w g 0 d d' m os' hH hgl.2 (hp1.trans hds.symm)
      have h2 := (h1 j (by rw [Sort.size_flatK, hp1]; exact hj)).1
      rw [Nat.zero_add] at h2
      rw [h2, Sort.get_flatK _ _ _ _ (by rw [hp1]; exact hj), hfl d' w hp1 j hj]
      rfl
end Go.Proofs.Ytodpajnpnobfmaa
