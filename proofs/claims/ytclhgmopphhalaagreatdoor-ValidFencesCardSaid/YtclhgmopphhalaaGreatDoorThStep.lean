/-
  A PROGRAM WITH ANOTHER THREAD, made in memory: its box, its row of threads, the thread's lines.
-/
import Derived.Test.YtclhgmopphhalaaGreatDoorVLabM
import Derived.Test.YtclhgmopphhalaaGreatDoorLnOwn
import Derived.Test.YtclhgmopphhalaaGreatDoorAppS
import Derived.Test.YtclhgmopphhalaaGreatDoorCheck
namespace Go.Proofs.YtclhgmopphhalaaGreatDoor
open Go.RowKit
set_option linter.unusedVariables false
set_option linter.unusedSimpArgs false
open WordM (L)
open VM

theorem own_set {w : World} {b i : Nat} {u : Value} {base : Nat} {e : TypeId} {size n : Nat} {v : Value} {xs : List Value} (h : w.ownsRow base e size v n xs) (hne : ∀ k, v.ownBlock = some k → k ≠ b) : (w.setCell ⟨b, i, none⟩ u).ownsRow base e size v n xs :=
  h.kept (row := some b) ⟨rfl, rfl, rfl, by simp, fun k _ hk => heap_setCell_other w ⟨b, i, none⟩ k u (fun e => hk (by simp [e]))⟩ (by
    cases hb : v.ownBlock with
    | none => exact .inl rfl
    | some k => exact .inr (fun c => hne k hb (by injection c)))
/-- Behind the append of the threads: what is known ahead of the store into the box, and behind it. -/
theorem th_step {w W w4 : World} {gb rb gT n cap : Nat} {E : TypeId} {nm : ByteArray} {vi vt vc T : Value} {al : Bool} {vs : List Value} (hB : Below w.heap.size w W) (hgb : w.heap.size ≤ gb) (hrb : w.heap.size ≤ rb) (hlt : gb < W.heap.size) (hne : gb ≠ rb)
    (hbox : FlBox W gb nm vi vt vc al) (hfz : W.frozen? ⟨gb, 2, none⟩ = false) (hown : w4.ownsRow w.heap.size E 1 (.slice (some ⟨gT, 0, none⟩) n cap) n vs) (hg : W.grownBy w4 (some rb)) (hat : some rb = some gT ∨ gT = W.heap.size) :
    w4.cell? ⟨gb, 2, none⟩ = some vt ∧ w4.frozen? ⟨gb, 2, none⟩ = false ∧ Below w.heap.size w (w4.setCell ⟨gb, 2, none⟩ T) ∧ FlBox (w4.setCell ⟨gb, 2, none⟩ T) gb nm vi T vc al ∧ (w4.setCell ⟨gb, 2, none⟩ T).ownsRow w.heap.size E 1 (.slice (some ⟨gT, 0, none⟩) n cap) n vs ∧ gb ≠ gT ∧ w.heap.size ≤ gT := by
  obtain ⟨b0, b1, b2, b3, b4⟩ := hbox
  have hnr : ∀ i, some (⟨gb, i, none⟩ : Addr).block ≠ some rb := fun i c => hne (by injection c)
  have c0 := hg.cell b0 (hnr 0)
  have c1 := hg.cell b1 (hnr 1)
  have c2 := hg.cell b2 (hnr 2)
  have c3 := hg.cell b3 (hnr 3)
  have c4 := hg.cell b4 (hnr 4)
  have hgT : gb ≠ gT := by
    rcases hat with h | h
    · injection h with h; omega
    · omega
  have hgl := (hown.lt gT rfl).1
  refine ⟨c2, (hg.frozen_far _ hlt (hnr 2)).trans hfz, ?_, ⟨set_oth (.inr (by decide)) c0, set_oth (.inr (by decide)) c1, World.cell?_setCell_same _ _ _ c2, set_oth (.inr (by decide)) c3, set_oth (.inr (by decide)) c4⟩, own_set hown (fun k hk => ?_), hgT, hgl⟩
  · exact (hB.grown hg hB.size (fun j e => by injection e with e; omega)).setCell (p := ⟨gb, 2, none⟩) hgb T
  · have : gT = k := by simpa [Value.ownBlock] using hk
    omega
/-- Another box, behind the same. -/
theorem box_kept {W w4 : World} {gb rb g : Nat} {nm : ByteArray} {vi vt vc T : Value} {al : Bool} (hbox : FlBox W g nm vi vt vc al) (hg : W.grownBy w4 (some rb)) (h1 : g ≠ rb) (h2 : gb ≠ g) : FlBox (w4.setCell ⟨gb, 2, none⟩ T) g nm vi vt vc al := by
  obtain ⟨b0, b1, b2, b3, b4⟩ := hbox
  have hnr : ∀ i, some (⟨g, i, none⟩ : Addr).block ≠ some rb := fun i c => h1 (by injection c)
  exact ⟨set_oth (.inl h2) (hg.cell b0 (hnr 0)), set_oth (.inl h2) (hg.cell b1 (hnr 1)), set_oth (.inl h2) (hg.cell b2 (hnr 2)), set_oth (.inl h2) (hg.cell b3 (hnr 3)), set_oth (.inl h2) (hg.cell b4 (hnr 4))⟩
theorem box_set {w : World} {x i g : Nat} {u : Value} {nm : ByteArray} {vi vt vc : Value} {al : Bool} (h : FlBox w g nm vi vt vc al) (hne : x ≠ g) : FlBox (w.setCell ⟨x, i, none⟩ u) g nm vi vt vc al := by
  obtain ⟨b0, b1, b2, b3, b4⟩ := h
  exact ⟨set_oth (.inl hne) b0, set_oth (.inl hne) b1, set_oth (.inl hne) b2, set_oth (.inl hne) b3, set_oth (.inl hne) b4⟩
theorem strs_up2 {B : Nat} {w w' : World} {v : Value} {ls : List L} (h : Strs B w v ls) (hB : B ≤ w.heap.size) (hb : Below w.heap.size w w') : Strs w'.heap.size w' v ls :=
  strs_more (strs_below h (hb.mono hB)) (Nat.le_trans hB hb.size)
theorem keep11 {w W w' : World} {g h : Nat} {x0 x1 x2 x3 x4 y0 y1 y2 y3 y4 : Value} (hb : Below W.heap.size W w') (k : (W.cell? ⟨g, 0, none⟩ = some x0 ∧ W.cell? ⟨g, 1, none⟩ = some x1 ∧ W.cell? ⟨g, 2, none⟩ = some x2 ∧ W.cell? ⟨g, 3, none⟩ = some x3 ∧ W.cell? ⟨g, 4, none⟩ = some x4) ∧
      (W.cell? ⟨h, 0, none⟩ = some y0 ∧ W.cell? ⟨h, 1, none⟩ = some y1 ∧ W.cell? ⟨h, 2, none⟩ = some y2 ∧ W.cell? ⟨h, 3, none⟩ = some y3 ∧ W.cell? ⟨h, 4, none⟩ = some y4) ∧ Below w.heap.size w W) :
    (w'.cell? ⟨g, 0, none⟩ = some x0 ∧ w'.cell? ⟨g, 1, none⟩ = some x1 ∧ w'.cell? ⟨g, 2, none⟩ = some x2 ∧ w'.cell? ⟨g, 3, none⟩ = some x3 ∧ w'.cell? ⟨g, 4, none⟩ = some x4) ∧
      (w'.cell? ⟨h, 0, none⟩ = some y0 ∧ w'.cell? ⟨h, 1, none⟩ = some y1 ∧ w'.cell? ⟨h, 2, none⟩ = some y2 ∧ w'.cell? ⟨h, 3, none⟩ = some y3 ∧ w'.cell? ⟨h, 4, none⟩ = some y4) ∧ Below w.heap.size w w' := by
  obtain ⟨⟨h0, h1, h2, h3, h4⟩, ⟨k0, k1, k2, k3, k4⟩, hB⟩ := k
  exact ⟨⟨kc hb h0, kc hb h1, kc hb h2, kc hb h3, kc hb h4⟩, ⟨kc hb k0, kc hb k1, kc hb k2, kc hb k3, kc hb k4⟩, chain hB hb⟩
/-- The lines ahead of, and from, a place of a row, as cells. -/
theorem ahead_cells {w W : World} {A : Option Addr} {c k : Nat} {ls : List OpsM.Ln} (hk : k ≤ ls.length) (h : 0 < ls.length → ∃ b f, A = some ⟨b, f, none⟩ ∧ b < w.heap.size ∧ ∀ j (h : j < ls.length), LnAt w b (f + j * 5) ls[j]) (hW : Below w.heap.size w W) :
    ∀ ad, A = some ad → ∀ (j : Nat) (u : Value), (lnsCs (ls.take k))[j]? = some u → W.cell? (ad.add j) = some u := by
  intro ad e j u hu
  have h1 := (List.getElem?_eq_some_iff.1 hu).1
  rw [lnsCs_len, List.length_take] at h1
  obtain ⟨b, f, e2, hb, hc⟩ := h (by omega)
  rw [e2] at e
  injection e with e
  rw [← e, Addr.add_lit]
  refine cells_of_lns (ls := ls.take k) (fun i hi => ?_) j u hu
  rw [List.getElem_take]
  exact (hc i (by rw [List.length_take] at hi; omega)).below hW hb
theorem behind_cells {w W : World} {A : Option Addr} {c k : Nat} {ls : List OpsM.Ln} (hk : k ≤ ls.length) (hc : ls.length ≤ c) (h : 0 < ls.length → ∃ b f, A = some ⟨b, f, none⟩ ∧ b < w.heap.size ∧ ∀ j (h : j < ls.length), LnAt w b (f + j * 5) ls[j]) (hW : Below w.heap.size w W) :
    ∀ ad, (if c = k then A else Option.map (fun x => x.add (k * 5)) A) = some ad → ∀ (j : Nat) (u : Value), (lnsCs (ls.drop k))[j]? = some u → W.cell? (ad.add j) = some u := by
  intro ad e j u hu
  have h1 := (List.getElem?_eq_some_iff.1 hu).1
  rw [lnsCs_len, List.length_drop] at h1
  obtain ⟨b, f, e2, hb, hcl⟩ := h (by omega)
  rw [if_neg (by omega), e2] at e
  simp only [Option.map_some] at e
  injection e with e
  rw [← e, Addr.add_lit, Addr.add_lit]
  refine cells_of_lns (ls := ls.drop k) (fun i hi => ?_) j u hu
  rw [List.getElem_drop, show f + k * 5 + i * 5 = f + (k + i) * 5 by omega]
  exact (hcl (k + i) (by rw [List.length_drop] at hi; omega)).below hW hb
/-- The program with another thread. -/
theorem fl_set {w W : World} {E : TypeId} {gT cap : Nat} {v2 vi vt vc : Value} {vs : List Value} {F : Fl} {t : Nat} {ls' : List OpsM.Ln} (hB : Below w.heap.size w W) (hM : FlM w.heap.size w vi vt vc F) (hvl : vs.length = F.ths.length)
    (hv : ∀ j (hj : j < F.ths.length), ∃ u, vs[j]? = some u ∧ Lns w.heap.size w u F.ths[j]) (hown : W.ownsRow w.heap.size E 1 (.slice (some ⟨gT, 0, none⟩) F.ths.length cap) F.ths.length (vs.set t v2)) (ht : t < F.ths.length) (hl : Lns W.heap.size W v2 ls') :
    FlV W.heap.size W (.agg #[.string ⟨F.name.toArray⟩, vi, .slice (some ⟨gT, 0, none⟩) F.ths.length cap, .bool F.all, vc]) (setT F t ls') := by
  refine ⟨vi, _, vc, rfl, (hM.1.below hB).more hB.size, ?_, (hM.2.2.below hB).more hB.size⟩
  refine ths_of_own (T := E) (base := w.heap.size) (vs := vs.set t v2) (by rw [setT_len]; exact hown) (Nat.le_refl _) (fun j hj => ?_)
  have hj' : j < F.ths.length := by rw [setT_len] at hj; exact hj
  by_cases e : j = t
  · subst e
    refine ⟨v2, List.getElem?_set_self (by omega), ?_⟩
    have e : (setT F j ls').ths[j] = ls' := by simp [setT]
    rw [e]; exact hl
  · obtain ⟨u, h1, h2⟩ := hv j hj'
    refine ⟨u, by rw [List.getElem?_set_ne (fun c => e c.symm)]; exact h1, ?_⟩
    have e2 : (setT F t ls').ths[j] = F.ths[j] := by
      show (F.ths.set t ls')[j]'(by simpa [setT] using hj) = F.ths[j]
      exact List.getElem_set_ne (fun c => e c.symm) _
    rw [e2]
    exact (h2.below hB).more hB.size
/-- Does a fence stand right ahead of a place, or at it? -/
def sideB (ls : List OpsM.Ln) (k : Nat) : Bool := fenB ls k || (match ls[k]? with | some x => x.op == 6 | none => false)
theorem sideB_in {ls : List OpsM.Ln} {k : Nat} (h : k < ls.length) : sideB ls k = (fenB ls k || (ls[k].op == 6)) := by
  unfold sideB; rw [List.getElem?_eq_getElem h]
theorem sideB_end {ls : List OpsM.Ln} {k : Nat} (h : ¬ k < ls.length) : sideB ls k = fenB ls k := by
  unfold sideB; rw [List.getElem?_eq_none (by omega)]; simp
theorem fenB_in {ls : List OpsM.Ln} {n : Nat} (h : n < ls.length) : fenB ls (n + 1) = (ls[n].op == 6) := by
  simp [fenB_succ, h]
theorem sideB_true {ls : List OpsM.Ln} {k : Nat} (h : sideB ls k = true) : fenB ls k = true ∨ ∃ (q : k < ls.length), ls[k].op = 6 := by
  by_cases q : k < ls.length
  · rw [sideB_in q] at h
    rcases Bool.or_eq_true_iff.1 h with h | h
    · exact Or.inl h
    · exact Or.inr ⟨q, by simpa using h⟩
  · rw [sideB_end q] at h; exact Or.inl h
theorem sideB_false {ls : List OpsM.Ln} {k : Nat} (h : sideB ls k = false) : ¬ fenB ls k = true ∧ ∀ (q : k < ls.length), ¬ ls[k].op = 6 := by
  by_cases q : k < ls.length
  · rw [sideB_in q] at h
    obtain ⟨h1, h2⟩ := Bool.or_eq_false_iff.1 h
    exact ⟨by simp [h1], fun _ => by simpa using h2⟩
  · rw [sideB_end q] at h; exact ⟨by simp [h], fun q' => absurd q' q⟩
theorem setT_ok {F : Fl} {t : Nat} {ls : List OpsM.Ln} (ok : FlOk F) (h : ls.length ≤ 100000 ∧ ∀ l ∈ ls, l.reg.length ≤ 100000 ∧ l.loc.length ≤ 100000 ∧ l.label.length ≤ 100000) : FlOk (setT F t ls) := by
  refine ⟨ok.name, ok.init, fun x hx => ?_, ok.cond, ⟨ok.nums.1, by rw [setT_len]; exact ok.nums.2.1, ok.nums.2.2⟩⟩
  rcases List.mem_or_eq_of_mem_set hx with h1 | h1
  · exact ok.ths x h1
  · subst h1; exact h
end Go.Proofs.YtclhgmopphhalaaGreatDoor
