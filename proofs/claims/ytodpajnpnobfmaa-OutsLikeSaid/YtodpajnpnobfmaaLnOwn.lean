/-
  ROWS OF LINES OF THE CALL's OWN: the cells of lines, one behind the other, and what they read as.
-/
import Derived.Test.YtodpajnpnobfmaaFile
namespace Go.Proofs.Ytodpajnpnobfmaa
open Go.RowKit
set_option linter.unusedVariables false
set_option linter.unusedSimpArgs false
open WordM (L)
open OpsM (Ln)

/-- A nil slice has no room. -/
def NilZ (v : Value) : Prop := ∀ n c, v = .slice none n c → c = 0
def NilAt (w : World) (b f : Nat) : Prop := ∀ u, w.cell? ⟨b, f, none⟩ = some u → NilZ u
/-- Each thread's row is so. -/
def ThsN (w : World) (v : Value) : Prop := ∀ nm vi b f n c al vc, v = flv nm vi (.slice (some ⟨b, f, none⟩) n c) vc al → ∀ j, j < n → NilAt w b (f + j)
def lnCs (l : Ln) : List Value := [.int .i64 l.op, .string ⟨l.reg.toArray⟩, .string ⟨l.loc.toArray⟩, .string ⟨l.label.toArray⟩, .int .i64 l.n]
def lnsCs : List Ln → List Value
  | [] => []
  | l :: r => lnCs l ++ lnsCs r
theorem lnsCs_len : ∀ ls : List Ln, (lnsCs ls).length = ls.length * 5
  | [] => rfl
  | l :: r => by
    rw [lnsCs, List.length_append, lnsCs_len r, List.length_cons, Nat.succ_mul, Nat.add_comm]; rfl
theorem lnsCs_app : ∀ a b : List Ln, lnsCs (a ++ b) = lnsCs a ++ lnsCs b
  | [], b => rfl
  | l :: r, b => by rw [List.cons_append, lnsCs, lnsCs, lnsCs_app r b, List.append_assoc]
theorem lnsCs_one : ∀ (ls : List Ln), ∀ u ∈ lnsCs ls, u.oneCell' = true
  | [], u, h => by cases h
  | l :: r, u, h => by
    rcases List.mem_append.1 h with h | h
    · simp only [lnCs, List.mem_cons, List.not_mem_nil, or_false] at h
      rcases h with rfl | rfl | rfl | rfl | rfl <;> rfl
    · exact lnsCs_one r u h
theorem lnsCs_at : ∀ (ls : List Ln) (j i : Nat) (hj : j < ls.length), i < 5 → (lnsCs ls)[j * 5 + i]? = (lnCs ls[j])[i]?
  | [], j, i, hj, _ => absurd hj (Nat.not_lt_zero j)
  | l :: r, 0, i, hj, hi => by
    rw [lnsCs, Nat.zero_mul, Nat.zero_add, List.getElem?_append_left (by simpa [lnCs] using hi)]; rfl
  | l :: r, j + 1, i, hj, hi => by
    have hl : (lnCs l).length = 5 := rfl
    rw [lnsCs, List.getElem?_append_right (by rw [hl]; omega), hl, show (j + 1) * 5 + i - 5 = j * 5 + i by omega, lnsCs_at r j i (by simpa using hj) hi]; rfl
/-- The cells of lines in memory are the lines' cells. -/
theorem cells_of_lns {w : World} {b f : Nat} {ls : List Ln} (h : ∀ j (hj : j < ls.length), LnAt w b (f + j * 5) ls[j]) : ∀ (j : Nat) (u : Value), (lnsCs ls)[j]? = some u → w.cell? ⟨b, f + j, none⟩ = some u := by
  intro j u hu
  have hj : j < ls.length * 5 := by
    rw [← lnsCs_len]
    exact (List.getElem?_eq_some_iff.1 hu).1
  have e : j = j / 5 * 5 + j % 5 := by omega
  have h1 : j / 5 < ls.length := by omega
  have h2 : j % 5 < 5 := by omega
  rw [e, lnsCs_at ls (j / 5) (j % 5) h1 h2] at hu
  obtain ⟨c0, c1, c2, c3, c4⟩ := h (j / 5) h1
  rw [e]
  generalize j % 5 = i at *
  generalize j / 5 = q at *
  have e0 : f + (q * 5 + i) = f + q * 5 + i := by omega
  rw [e0]
  rcases (show i = 0 ∨ i = 1 ∨ i = 2 ∨ i = 3 ∨ i = 4 by omega) with rfl | rfl | rfl | rfl | rfl
  · injection hu with hu; subst hu; exact c0
  · injection hu with hu; subst hu; exact c1
  · injection hu with hu; subst hu; exact c2
  · injection hu with hu; subst hu; exact c3
  · injection hu with hu; subst hu; exact c4
/-- A row of the call's own that holds lines' cells reads as the lines. -/
theorem lns_of_own {w : World} {base B : Nat} {T : TypeId} {v : Value} {ls : List Ln} (h : w.ownsRow base T 5 v ls.length (lnsCs ls)) (hB : w.heap.size ≤ B) : Lns B w v ls := by
  rcases id h.2 with ⟨rfl, h0⟩ | ⟨g, cap, cur, rfl, hbg, hg, hnc, hcm, hcs, htake⟩
  · exact ⟨none, 0, by rw [h0], by omega, by decide, fun k => absurd k (by omega)⟩
  · refine ⟨_, cap, rfl, hnc, hcm, fun _ => ⟨g, 0, rfl, ?_, fun j hj => ?_⟩⟩
    · have := (Array.getElem?_eq_some_iff.1 hg).1; omega
    · have hc : ∀ i, i < 5 → w.cell? ⟨g, 0 + j * 5 + i, none⟩ = (lnCs ls[j])[i]? := fun i hi => by
        rw [Nat.zero_add, h.cellAt (j * 5 + i) (by omega), lnsCs_at ls j i hj hi]
      exact ⟨hc 0 (by omega), hc 1 (by omega), hc 2 (by omega), hc 3 (by omega), hc 4 (by omega)⟩
/-- A row of the call's own whose cells are rows of lines reads as threads. -/
theorem ths_of_own {w : World} {base B : Nat} {T : TypeId} {v : Value} {vs : List Value} {ts : List (List Ln)} (h : w.ownsRow base T 1 v ts.length vs) (hB : w.heap.size ≤ B)
    (hl : ∀ j (hj : j < ts.length), ∃ u, vs[j]? = some u ∧ Lns B w u ts[j]) : Ths B w v ts := by
  rcases id h.2 with ⟨rfl, h0⟩ | ⟨g, cap, cur, rfl, hbg, hg, hnc, hcm, hcs, htake⟩
  · exact ⟨none, 0, by rw [h0], by omega, by decide, fun k => absurd k (by omega)⟩
  · refine ⟨_, cap, rfl, hnc, hcm, fun _ => ⟨g, 0, rfl, ?_, fun j hj => ?_⟩⟩
    · have := (Array.getElem?_eq_some_iff.1 hg).1; omega
    · obtain ⟨u, h1, h2⟩ := hl j hj
      exact ⟨u, by rw [Nat.zero_add, h.cellAt j (by omega)]; exact h1, h2⟩
/-- The cells of threads in memory, as values. -/
theorem cells_of_ths {B : Nat} {w : World} {b f : Nat} {ts : List (List Ln)} (h : ∀ j (hj : j < ts.length), ThAt B w b (f + j) ts[j]) :
    ∃ vs : List Value, vs.length = ts.length ∧ (∀ (j : Nat) (u : Value), vs[j]? = some u → w.cell? ⟨b, f + j, none⟩ = some u) ∧ (∀ u ∈ vs, u.oneCell' = true) ∧ ∀ j (hj : j < ts.length), ∃ u, vs[j]? = some u ∧ Lns B w u ts[j] := by
  refine ⟨(List.range ts.length).map (fun j => (w.cell? ⟨b, f + j, none⟩).getD (.bool false)), by simp, fun j u hu => ?_, fun u hu => ?_, fun j hj => ?_⟩
  · have hj : j < ts.length := by
      have := (List.getElem?_eq_some_iff.1 hu).1
      simpa using this
    obtain ⟨x, h1, h2⟩ := h j hj
    rw [List.getElem?_map, List.getElem?_range hj] at hu
    injection hu with hu
    replace hu : (w.cell? ⟨b, f + j, none⟩).getD (.bool false) = u := hu
    rw [h1] at hu
    rw [h1]
    exact congrArg some hu
  · obtain ⟨j, hj, rfl⟩ := List.mem_map.1 hu
    obtain ⟨x, h1, A, c, rfl, _⟩ := h j (List.mem_range.1 hj)
    rw [h1]; rfl
  · obtain ⟨x, h1, h2⟩ := h j hj
    refine ⟨x, ?_, h2⟩
    rw [List.getElem?_map, List.getElem?_range hj]
    show some ((w.cell? ⟨b, f + j, none⟩).getD (.bool false)) = some x
    rw [h1]; rfl
end Go.Proofs.Ytodpajnpnobfmaa
