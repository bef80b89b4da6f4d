/-
  valid.reader's own closures: what is wrong with a line, by what the closure holds: each way.
  valid.reader's own closures: the state that they share, and what keeps it.
  valid.locations: the map of all locations.
  THE LOCATIONS, as mathematics: names put one by one among others that rise; they are a map's keys, sorted.
  THE DOCUMENT's put: a name among others that rise.
  code.firstNumber; each location's first number, as a row.
  code.maker: the step of a line; where its jump goes.
  code.maker$2: a line's step, as a row of one; none of a label.
  APPEND AS ONE STEP OF A DRAWN REGION: a source that may be nil, onto a row of the call's own. Of no program.
-/
import Derived.Test.YtaelfjphgdlbcaaM02
import Derived.Test.YtaelfjphgdlbcaaM03
import Derived.Sort.KeysCollected
import Derived.Test.YtaelfjphgdlbcaaM01
import Derived.Deep.RegionHeld3
import Derived.Laws.AppendOwnNone
import Derived.Laws.OwnMore
import Derived.Deep.AppendLies
import Derived.WalkKit
namespace Go.Proofs.Ytaelfjphgdlbcaa
open Go.RowKit Go.WideMaps Go.Maps
set_option linter.unusedVariables false
set_option linter.unusedSimpArgs false
open WordM (L)

/-- What the closure of a thread's reader holds: two maps, how many instructions, and whether the last line is a fence. -/
def RdC (w : World) (h ga gb : Nat) (i : Int) (f : Bool) : Prop :=
  w.cell? ⟨h, 0, none⟩ = some (.map (some ga)) ∧ w.cell? ⟨h + 1, 0, none⟩ = some (.map (some gb)) ∧ w.cell? ⟨h + 1 + 1, 0, none⟩ = some (.int .i64 i) ∧ w.cell? ⟨h + 1 + 1 + 1, 0, none⟩ = some (.bool f)
theorem RdC.below {w w' : World} {h ga gb : Nat} {i : Int} {f : Bool} (H : RdC w h ga gb i f) (hb : Below w.heap.size w w') : RdC w' h ga gb i f :=
  ⟨kc hb H.1, kc hb H.2.1, kc hb H.2.2.1, kc hb H.2.2.2⟩

end Go.Proofs.Ytaelfjphgdlbcaa
namespace Go.Proofs.Ytaelfjphgdlbcaa
open Go.RowKit Go.WideMaps Go.Maps
set_option linter.unusedVariables false
set_option linter.unusedSimpArgs false
open WordM (L)

section
variable {w w' : World} {h ga gb na nb : Nat} {i : Int} {f : Bool} {fa fb : L → Int} {Da Db : MD}
theorem CMap.set {b n : Nat} {g : L → Int} {D : MD} (H : CMap w b n g D) {x : Nat} (hx : b ≠ x) (v : Value) : CMap (w.setCell ⟨x, 0, none⟩ v) b n g D := ⟨H.1.setCell (a := ⟨x, 0, none⟩) hx v, H.2⟩
theorem cell_set {x y j : Nat} {v u : Value} (hne : x ≠ y) (hc : w.cell? ⟨y, j, none⟩ = some u) : (w.setCell ⟨x, 0, none⟩ v).cell? ⟨y, j, none⟩ = some u :=
  (World.cell?_setCell_other _ _ _ _ (fun e => hne (by injection e))).trans hc
theorem cell_grown {x y j : Nat} {u : Value} (hg : w.grownBy w' (some x)) (hne : x ≠ y) (hc : w.cell? ⟨y, j, none⟩ = some u) : w'.cell? ⟨y, j, none⟩ = some u :=
  (World.cell?_of_block (a := ⟨y, j, none⟩) (hg.block y (lt_of_cell hc) (fun e => hne (Option.some.inj e).symm))).trans hc
theorem CMap.grown {b n x : Nat} {g : L → Int} {D : MD} (H : CMap w b n g D) (hg : w.grownBy w' (some x)) (hne : x ≠ b) : CMap w' b n g D := by
  have hl := H.lt
  obtain ⟨⟨es, clock, he, h1, h2, h3⟩, h4⟩ := H
  exact ⟨⟨es, clock, (hg.block b hl (fun e => hne (Option.some.inj e).symm)).trans he, h1, h2, h3⟩, h4⟩
end
end Go.Proofs.Ytaelfjphgdlbcaa
namespace Go.Proofs.Ytaelfjphgdlbcaa
open Go.RowKit Go.WideMaps Go.Maps
set_option linter.unusedVariables false
set_option linter.unusedSimpArgs false
open WordM (L)
open VM

/-- Block b is a map whose keys are the texts of S. -/
def CSet (w : World) (b : Nat) (S : List L) : Prop := ∃ (n : Nat) (f : L → Int) (D : MD), n ≤ S.length ∧ CMap w b n f D ∧ Maps.Tidy D ∧ ∀ s, Maps.has D (.string s) = true ↔ s ∈ S
theorem CSet.made (w : World) : CSet (w.alloc (.map #[] 0)) w.heap.size [] := ⟨0, _, _, Nat.le_refl _, CMap.made w, Maps.tidy_empty, fun s => by simp [Maps.has]⟩
theorem CSet.below {w w' : World} {b : Nat} {S : List L} (h : CSet w b S) (hb : Below w.heap.size w w') : CSet w' b S := by
  obtain ⟨n, f, D, h1, h2, h3⟩ := h
  exact ⟨n, f, D, h1, h2.below hb, h3⟩
theorem CSet.lt {w : World} {b : Nat} {S : List L} (h : CSet w b S) : b < w.heap.size := by
  obtain ⟨n, f, D, h1, h2, h3⟩ := h
  exact h2.lt
theorem CSet.put {w1 : World} {b n : Nat} {f : L → Int} {D : MD} {S : List L} {s : L} {x : Int} {w : World} (h : CMap w b n f D) (hn : n ≤ S.length) (ht : Maps.Tidy D) (hh : ∀ s, Maps.has D (.string s) = true ↔ s ∈ S)
    (hown : w1.ownsMap Try.prog 9 (plainElem Try.prog 3) b (n + 1) (D.put (.string s) (.lit (.int .i64 x)))) : CSet w1 b (S ++ [s]) := by
  refine ⟨n + 1, _, _, by simp; omega, h.put hown, ht.put (k := .string s) (by trivial) _, fun t => ?_⟩
  by_cases e : t = s
  · subst e
    rw [Maps.has_put_same ht.isMap (by trivial)]; simp
  · rw [Maps.has_put_other (fun c => e (by injection c)), hh t]; simp [e]
theorem FlBox.grown {w w' : World} {g x : Nat} {nm : ByteArray} {vi vt vc : Value} {al : Bool} (h : FlBox w g nm vi vt vc al) (hg : w.grownBy w' (some x)) (hne : x ≠ g) : FlBox w' g nm vi vt vc al := by
  obtain ⟨h0, h1, h2, h3, h4⟩ := h
  exact ⟨cell_grown hg hne h0, cell_grown hg hne h1, cell_grown hg hne h2, cell_grown hg hne h3, cell_grown hg hne h4⟩
/-- What the three loops keep: the program's box, the map, all below. -/
def LcI (F : Fl) (vi vt vc : Value) (w : World) (S : List L) (wr : World) : Prop :=
  CSet wr (w.heap.size + 1) S ∧ Below w.heap.size w wr ∧ FlBox wr w.heap.size ⟨F.name.toArray⟩ vi vt vc F.all
theorem LcI.below {F : Fl} {vi vt vc : Value} {w wr w' : World} {S : List L} (h : LcI F vi vt vc w S wr) (hb : Below wr.heap.size wr w') : LcI F vi vt vc w S w' :=
  ⟨h.1.below hb, chain h.2.1 hb, h.2.2.below hb⟩
def L1Rel (F : Fl) (vi vt vc : Value) (w : World) (i : Value) (wr : World) : Prop :=
  ∃ k : Nat, k ≤ F.init.length ∧ i = .int .i64 k ∧ LcI F vi vt vc w ((F.init.take k).map (·.1)) wr
def L2Rel (F : Fl) (vi vt vc : Value) (w : World) (i : Value) (wr : World) : Prop :=
  ∃ k : Nat, k ≤ F.ths.length ∧ i = .int .i64 k ∧ LcI F vi vt vc w (F.init.map (·.1) ++ tnames (F.ths.take k)) wr
def L3Rel (F : Fl) (ls : List OpsM.Ln) (S : List L) (vi vt vc : Value) (w : World) (i : Value) (wr : World) : Prop :=
  ∃ k : Nat, k ≤ ls.length ∧ i = .int .i64 k ∧ LcI F vi vt vc w (S ++ lnames (ls.take k)) wr
def L4Rel (F : Fl) (vi vt vc : Value) (w : World) (i : Value) (wr : World) : Prop :=
  ∃ k : Nat, k ≤ F.cond.length ∧ i = .int .i64 k ∧ LcI F vi vt vc w (F.init.map (·.1) ++ (tnames F.ths ++ anames (F.cond.take k))) wr
theorem FlOk.tn {F : Fl} (ok : FlOk F) : (tnames F.ths).length ≤ 10000000000 := by
  have h1 := tnames_le (M := 100000) F.ths (fun ls h => (ok.ths ls h).1)
  have := ok.nums.2.1
  omega
end Go.Proofs.Ytaelfjphgdlbcaa
namespace Go.Proofs.Ytaelfjphgdlbcaa
open Go.RowKit Go.WideMaps Go.Maps
set_option linter.unusedVariables false
open WordM (L)
open VM

theorem ins_mem (s : L) : ∀ (l : List L) (x : L), x ∈ ins s l ↔ x = s ∨ x ∈ l
  | [], x => by simp [ins]
  | y :: r, x => by
    unfold ins
    by_cases h : s ≤ y
    · rw [if_pos h]
      by_cases e : s = y
      · rw [if_pos e]; subst e; simp
      · rw [if_neg e]; simp
    · rw [if_neg h]
      simp only [List.mem_cons, ins_mem s r x]
      constructor
      · rintro (a | a | a) <;> simp [a]
      · rintro (a | a | a) <;> simp [a]
theorem lt_of_not_le {a b : L} (h : ¬ a ≤ b) : b < a := List.not_le.1 h
theorem lt_of_le_ne {a b : L} (h : a ≤ b) (e : a ≠ b) : a < b := Decidable.byContradiction fun c => e (List.le_antisymm h (List.not_lt.1 c))
theorem ins_sorted (s : L) : ∀ (l : List L), l.Pairwise (· < ·) → (ins s l).Pairwise (· < ·)
  | [], _ => by simp [ins]
  | y :: r, hp => by
    obtain ⟨h1, h2⟩ := List.pairwise_cons.1 hp
    unfold ins
    by_cases h : s ≤ y
    · rw [if_pos h]
      by_cases e : s = y
      · rw [if_pos e]; exact hp
      · rw [if_neg e]
        have hs := lt_of_le_ne h e
        refine List.pairwise_cons.2 ⟨fun x hx => ?_, hp⟩
        rcases List.mem_cons.1 hx with rfl | hx
        · exact hs
        · exact List.lt_trans hs (h1 x hx)
    · rw [if_neg h]
      refine List.pairwise_cons.2 ⟨fun x hx => ?_, ins_sorted s r h2⟩
      rcases (ins_mem s r x).1 hx with rfl | hx
      · exact lt_of_not_le h
      · exact h1 x hx
theorem fold_mem : ∀ (ns acc : List L) (x : L), x ∈ ns.foldl put acc ↔ x ∈ acc ∨ (x ≠ [] ∧ x ∈ ns)
  | [], acc, x => by simp
  | s :: r, acc, x => by
    rw [List.foldl_cons, fold_mem r (put acc s) x]
    unfold put
    by_cases e : s = []
    · rw [if_pos e]; subst e
      constructor
      · rintro (a | ⟨a, b⟩)
        · exact .inl a
        · exact .inr ⟨a, by simp [b]⟩
      · rintro (a | ⟨a, b⟩)
        · exact .inl a
        · exact .inr ⟨a, by simpa [a] using b⟩
    · rw [if_neg e, ins_mem]
      constructor
      · rintro ((a | a) | ⟨a, b⟩)
        · subst a; exact .inr ⟨e, by simp⟩
        · exact .inl a
        · exact .inr ⟨a, by simp [b]⟩
      · rintro (a | ⟨a, b⟩)
        · exact .inl (.inr a)
        · rcases List.mem_cons.1 b with c | c
          · exact .inl (.inl c)
          · exact .inr ⟨a, c⟩
theorem fold_sorted : ∀ (ns acc : List L), acc.Pairwise (· < ·) → (ns.foldl put acc).Pairwise (· < ·)
  | [], acc, h => h
  | s :: r, acc, h => by
    rw [List.foldl_cons]
    refine fold_sorted r _ ?_
    unfold put
    by_cases e : s = []
    · rw [if_pos e]; exact h
    · rw [if_neg e]; exact ins_sorted s acc h
theorem locs_sorted (F : Fl) : (locs F).Pairwise (· < ·) := fold_sorted _ _ List.Pairwise.nil
theorem locs_mem (F : Fl) (x : L) : x ∈ locs F ↔ x ≠ [] ∧ x ∈ names F := by
  unfold locs; rw [fold_mem]; simp
theorem locs_nodup (F : Fl) : (locs F).Nodup := (locs_sorted F).imp fun {a b} h e => by subst e; exact List.lt_irrefl _ h
/-- A program's own locations have names, once its head, lines and atoms are right. -/
def NamesOk (F : Fl) : Prop := ∀ x ∈ names F, x ≠ []
theorem locs_mem' {F : Fl} (h : NamesOk F) (x : L) : x ∈ locs F ↔ x ∈ names F := by
  rw [locs_mem]; exact ⟨fun a => a.2, fun a => ⟨h x a, a⟩⟩
theorem cset_perm {w : World} {b n : Nat} {f : L → Int} {D : MD} {S ss : List L} (h : CMap w b n f D) (htd : Maps.Tidy D) (hh : ∀ s, Maps.has D (.string s) = true ↔ s ∈ S) (hnd : ss.Nodup) (hm : ∀ x, x ∈ ss ↔ x ∈ S) : ss.Perm (strKeys D) := by
  obtain ⟨es, rfl, hp⟩ := htd
  obtain ⟨es', hD, hko⟩ := h.1.keysOf
  obtain rfl : es = es' := by simpa using hD
  exact perm_strKeys hp (fun p hp' => by obtain ⟨v, hv⟩ := hko p hp'; obtain ⟨x, _, hx, _⟩ := Maps.keyOf_str Try.underlying9 hv; exact ⟨x, hx⟩) hnd (fun x => (hm x).trans (hh x).symm)
theorem size_keys {D : MD} (htd : Maps.Tidy D) : (strKeys D).length = Maps.size D := by
  obtain ⟨es, rfl, _⟩ := htd
  exact List.length_map _
theorem cset_size {F : Fl} {w : World} {b n : Nat} {f : L → Int} {D : MD} (hn : NamesOk F) (h : CMap w b n f D) (htd : Maps.Tidy D) (hh : ∀ s, Maps.has D (.string s) = true ↔ s ∈ names F) : Maps.size D = (locs F).length := by
  rw [← size_keys htd, (cset_perm h htd hh (locs_nodup F) (locs_mem' hn)).length_eq]
theorem sort_locs {F : Fl} {ss : List L} (h : ss.Perm (locs F)) : ss.mergeSort (fun x y => decide (x ≤ y)) = locs F := by
  rw [show ss.mergeSort (fun x y => decide (x ≤ y)) = (locs F).mergeSort (fun x y => decide (x ≤ y)) from mergeSort_of_perm h]
  exact List.mergeSort_of_pairwise ((locs_sorted F).imp fun {a b} h => decide_eq_true (List.le_of_lt h))
end Go.Proofs.Ytaelfjphgdlbcaa
namespace Go.Proofs.Ytaelfjphgdlbcaa
open Go.RowKit
set_option linter.unusedVariables false
set_option linter.unusedSimpArgs false
open WordM (L)
open VM

def PtRel (ls : List L) (s : L) (w : World) (v d i : Value) (wr : World) : Prop :=
  ∃ (k : Nat) (out : List L) (dn : Bool), k ≤ ls.length ∧ i = .int .i64 k ∧ d = .bool dn ∧ out.length ≤ 2 * k ∧ VM.put ls s = out ++ (if dn = true then ls.drop k else ins s (ls.drop k)) ∧ wr.ownsRow w.heap.size 9 1 v out.length (svs out) ∧ Below w.heap.size w wr
theorem pt_own {w wr w1 : World} {v v' : Value} {out : List L} {x : L} (h : w1.ownsRow w.heap.size 9 1 v' (out.length + 1) (svs out ++ [.string ⟨x.toArray⟩])) : w1.ownsRow w.heap.size 9 1 v' (out ++ [x]).length (svs (out ++ [x])) := by
  rw [svs_snoc, List.length_append]; exact h
set_option maxHeartbeats 4000000 in
set_option maxRecDepth 100000 in
theorem rput_any {B : Nat} {v : Value} {ls : List L} (s : L) (w : World) (h : Strs B w v ls) (hBB : B ≤ w.heap.size) (hn : ls.length ≤ 1000000000000) :
    Calls Try.prog 78 #[v, .string ⟨s.toArray⟩] w (RetStrs (VM.put ls s) w) := by
  obtain ⟨i0, hi, hz0, hz1, hz2⟩ := info_parts info_string
  obtain ⟨A1, c1, rfl, ha1, ha2, ha3⟩ := h
  unfold maxLen at ha2
  have H0 := Lib.hid (show VM.put ls s = [] ++ (if decide (s = []) = true then ls.drop 0 else ins s (ls.drop 0)) by
    unfold VM.put; by_cases e : s = [] <;> simp [e])
  have q0 := beq_dec s ([] : L)
  obtain ⟨d0, hd0⟩ : ∃ d, d = decide (s = []) := ⟨_, rfl⟩
  rw [← hd0] at H0 q0
  clear hd0
  go_enter Try.func78, Try.ntmps78
  go_wp2
  go_loopw [5, 6, 7] (fun v d i wr => PtRel ls s w v d i wr) (fun _ _ i _ => ls.length - (intOf i).toNat)
  case atStart => exact ⟨0, [], d0, Nat.zero_le _, rfl, rfl, Nat.le_refl _, H0.out, World.ownsRow_nil _ _ _ _, Below.refl _ _⟩
  case round =>
    obtain ⟨k, out, dn, hk, rfl, rfl, ho, hsp, hown, hB⟩ := hrel
    clear q0
    by_cases hlt : k < ls.length
    · obtain ⟨b1, f1, rfl, hb1, hcl⟩ := ha3 (by omega)
      have e0 := hcl k hlt
      have hdr := List.drop_eq_getElem_cons hlt
      obtain ⟨x, hx⟩ : ∃ x, x = ls[k] := ⟨_, rfl⟩
      rw [← hx] at e0 hdr
      rw [hdr] at hsp
      have e1 : wr.cell? ⟨b1, f1 + k, none⟩ = some (.string ⟨x.toArray⟩) := ((hB.mono hBB).cell (p := ⟨b1, f1 + k, none⟩) hb1).trans e0
      have E0 := Lib.hid e0
      clear hx hcl ha3 e0 hdr
      cases dn
      · simp only [Bool.false_eq_true, if_false] at hsp
        rcases le_cases s x with ⟨q3, hle⟩ | ⟨q3, q4, hle⟩ | ⟨q3, q4, hle⟩
        · have hne : ¬ s = x := by intro e; subst e; rw [bytes_lt] at q3; exact List.lt_irrefl _ (of_decide_eq_true q3)
          have q4 : (s == x) = false := by rw [beq_dec]; exact decide_eq_false hne
          have q5 : (x == s) = false := by rw [beq_dec]; exact decide_eq_false (fun e => hne e.symm)
          have HS := Lib.hid (show VM.put ls s = ((out ++ [s]) ++ [x]) ++ (if true = true then ls.drop (k + 1) else ins s (ls.drop (k + 1))) by
            rw [hsp]; unfold ins; rw [if_pos hle, if_neg hne]; simp)
          clear hsp hle hne
          go_wp2_with (first | (at_builtin; refine wpList_append_own _ rfl _ _ 93 rfl w.heap.size 9 i0 (.string ⟨#[]⟩) 1 16 Try.underlying93 hi hz0 hz1 hz2 rfl (by decide) _ _ _ rfl (hown.alloc _) ⟨wr.heap.size, 0, none⟩ 1 1 [.string ⟨s.toArray⟩] rfl rfl (cell_one_new _ _ _) (by simp [Value.oneCell']) (by unfold maxLen; omega) (by omega) (by have := hB.size; simp; omega) ?_; intro v1 w1 hown1 hg1 _; have hB1 := below_append (hB.alloc hB.size (.cells #[.string ⟨s.toArray⟩] 9)) (hown.alloc _) (Nat.le_refl _) (by have := hB.size; simp; omega) hg1; have hown1' := pt_own (wr := wr) (v := .bool true) hown1; have e1' := (show w1.cell? ⟨b1, f1 + k, none⟩ = some (.string ⟨x.toArray⟩) from ((hB1.mono hBB).cell (p := ⟨b1, f1 + k, none⟩) hb1).trans E0.out)) | (at_builtin; refine wpList_append_own _ rfl _ _ 93 rfl w.heap.size 9 i0 (.string ⟨#[]⟩) 1 16 Try.underlying93 hi hz0 hz1 hz2 rfl (by decide) _ _ _ rfl (hown1'.alloc _) ⟨w1.heap.size, 0, none⟩ 1 1 [.string ⟨x.toArray⟩] rfl rfl (cell_one_new _ _ _) (by simp [Value.oneCell']) (by unfold maxLen; simp; omega) (by simp; omega) (by have := hB1.size; simp; omega) ?_; intro v2 w2 hown2 hg2 _))
          have hB2 := below_append (hB1.alloc hB1.size (.cells #[.string ⟨x.toArray⟩] 9)) (hown1'.alloc _) (Nat.le_refl _) (by have := hB1.size; simp; omega) hg2
          go_roundw
          case rel => exact ⟨k + 1, _, true, by omega, by go_num, rfl, by simp; omega, HS.out, pt_own (wr := wr) (v := .bool true) hown2, hB2⟩
          case measure => simp [intOf]; omega
        · have e := (show s = x from by rw [beq_dec] at q4; exact of_decide_eq_true q4)
          have q5 : (x == s) = true := by rw [e]; simp
          have HS := Lib.hid (show VM.put ls s = (out ++ [x]) ++ (if true = true then ls.drop (k + 1) else ins s (ls.drop (k + 1))) by
            rw [hsp]; unfold ins; rw [if_pos hle, if_pos e]; simp)
          clear hsp hle e
          go_wp2_with (at_builtin; refine wpList_append_own _ rfl _ _ 93 rfl w.heap.size 9 i0 (.string ⟨#[]⟩) 1 16 Try.underlying93 hi hz0 hz1 hz2 rfl (by decide) _ _ _ rfl (hown.alloc _) ⟨wr.heap.size, 0, none⟩ 1 1 [.string ⟨x.toArray⟩] rfl rfl (cell_one_new _ _ _) (by simp [Value.oneCell']) (by unfold maxLen; omega) (by omega) (by have := hB.size; simp; omega) ?_; intro v1 w1 hown1 hg1 _)
          have hB1 := below_append (hB.alloc hB.size (.cells #[.string ⟨x.toArray⟩] 9)) (hown.alloc _) (Nat.le_refl _) (by have := hB.size; simp; omega) hg1
          go_roundw
          case rel => exact ⟨k + 1, _, true, by omega, by go_num, rfl, by simp; omega, HS.out, pt_own (wr := wr) (v := .bool true) hown1, hB1⟩
          case measure => simp [intOf]; omega
        · have HS := Lib.hid (show VM.put ls s = (out ++ [x]) ++ (if false = true then ls.drop (k + 1) else ins s (ls.drop (k + 1))) by
            rw [hsp, show ins s (x :: ls.drop (k + 1)) = x :: ins s (ls.drop (k + 1)) from if_neg hle]; simp)
          clear hsp hle
          go_wp2_with (at_builtin; refine wpList_append_own _ rfl _ _ 93 rfl w.heap.size 9 i0 (.string ⟨#[]⟩) 1 16 Try.underlying93 hi hz0 hz1 hz2 rfl (by decide) _ _ _ rfl (hown.alloc _) ⟨wr.heap.size, 0, none⟩ 1 1 [.string ⟨x.toArray⟩] rfl rfl (cell_one_new _ _ _) (by simp [Value.oneCell']) (by unfold maxLen; omega) (by omega) (by have := hB.size; simp; omega) ?_; intro v1 w1 hown1 hg1 _)
          have hB1 := below_append (hB.alloc hB.size (.cells #[.string ⟨x.toArray⟩] 9)) (hown.alloc _) (Nat.le_refl _) (by have := hB.size; simp; omega) hg1
          go_roundw
          case rel => exact ⟨k + 1, _, false, by omega, by go_num, rfl, by simp; omega, HS.out, pt_own (wr := wr) (v := .bool true) hown1, hB1⟩
          case measure => simp [intOf]; omega
      · simp only [if_true] at hsp
        have HS := Lib.hid (show VM.put ls s = (out ++ [x]) ++ (if true = true then ls.drop (k + 1) else ins s (ls.drop (k + 1))) by
          rw [hsp]; simp)
        clear hsp
        go_wp2_with (at_builtin; refine wpList_append_own _ rfl _ _ 93 rfl w.heap.size 9 i0 (.string ⟨#[]⟩) 1 16 Try.underlying93 hi hz0 hz1 hz2 rfl (by decide) _ _ _ rfl (hown.alloc _) ⟨wr.heap.size, 0, none⟩ 1 1 [.string ⟨x.toArray⟩] rfl rfl (cell_one_new _ _ _) (by simp [Value.oneCell']) (by unfold maxLen; omega) (by omega) (by have := hB.size; simp; omega) ?_; intro v1 w1 hown1 hg1 _)
        have hB1 := below_append (hB.alloc hB.size (.cells #[.string ⟨x.toArray⟩] 9)) (hown.alloc _) (Nat.le_refl _) (by have := hB.size; simp; omega) hg1
        go_roundw
        case rel => exact ⟨k + 1, _, true, by omega, by go_num, rfl, by simp; omega, HS.out, pt_own (wr := wr) (v := .bool true) hown1, hB1⟩
        case measure => simp [intOf]; omega
    · obtain rfl : ls.length = k := by omega
      rw [List.drop_length] at hsp
      clear ha3
      cases dn
      · simp only [Bool.false_eq_true, if_false] at hsp
        have HS := Lib.hid (show VM.put ls s = out ++ [s] by rw [hsp]; rfl)
        clear hsp
        go_wp2_with (at_builtin; refine wpList_append_own _ rfl _ _ 93 rfl w.heap.size 9 i0 (.string ⟨#[]⟩) 1 16 Try.underlying93 hi hz0 hz1 hz2 rfl (by decide) _ _ _ rfl (hown.alloc _) ⟨wr.heap.size, 0, none⟩ 1 1 [.string ⟨s.toArray⟩] rfl rfl (cell_one_new _ _ _) (by simp [Value.oneCell']) (by unfold maxLen; omega) (by omega) (by have := hB.size; simp; omega) ?_; intro v1 w1 hown1 hg1 _)
        have hB1 := below_append (hB.alloc hB.size (.cells #[.string ⟨s.toArray⟩] 9)) (hown.alloc _) (Nat.le_refl _) (by have := hB.size; simp; omega) hg1
        go_ret
        unfold RetStrs
        rw [HS.out]
        exact ⟨v1, rfl, pt_own (wr := wr) (v := .bool true) hown1, hB1⟩
      · simp only [if_true, List.append_nil] at hsp
        have HS := Lib.hid hsp
        clear hsp
        go_wp2
        go_ret
        unfold RetStrs
        rw [HS.out]
        exact ⟨_, rfl, hown, hB⟩
end Go.Proofs.Ytaelfjphgdlbcaa
namespace Go.Proofs.Ytaelfjphgdlbcaa
open Go.RowKit
set_option linter.unusedVariables false
set_option linter.unusedSimpArgs false
open WordM (L)
open VM
open CodM (St Pg fstN)

/-- No cell ahead of the k-th is the location's. -/
def FnRel (cs : List (L × Int)) (s : L) (w : World) (i : Value) (wr : World) : Prop :=
  ∃ k : Nat, k ≤ cs.length ∧ i = .int .i64 k ∧ (∀ j (hj : j < cs.length), j < k → ¬ cs[j].1 = s) ∧ Below w.heap.size w wr
theorem info_int : (Try.prog.info? 3).map (fun i => (i.zero, i.size, i.bytes)) = some (some (.int .i64 0), 1, 8) := by kernel_rfl
def EsRel (cs : List (L × Int)) (ls : List L) (w : World) (v i : Value) (wr : World) : Prop :=
  ∃ k : Nat, k ≤ ls.length ∧ i = .int .i64 k ∧ wr.ownsRow w.heap.size 3 1 v k (intCs ((ls.take k).map (fstN cs))) ∧ Below w.heap.size w wr
end Go.Proofs.Ytaelfjphgdlbcaa
namespace Go.Proofs.Ytaelfjphgdlbcaa
open Go.RowKit
set_option linter.unusedVariables false
set_option linter.unusedSimpArgs false
open WordM (L)
open VM
open CodM (St Pg posI pos0 isLab hasS toN cnt)

def IxRel (ls : List L) (s : L) (i : Value) : Prop :=
  ∃ k : Nat, k ≤ ls.length ∧ i = .int .i64 k ∧ (∀ j (hj : j < ls.length), j < k → decide (ls[j] = s) = false)
def IlRel (ls : List OpsM.Ln) (s : L) (w : World) (i : Value) (wr : World) : Prop :=
  ∃ k : Nat, k ≤ ls.length ∧ i = .int .i64 k ∧ (∀ j (hj : j < ls.length), j < k → isLab s ls[j] = false) ∧ Below w.heap.size w wr
end Go.Proofs.Ytaelfjphgdlbcaa
namespace Go.Proofs.Ytaelfjphgdlbcaa
open Go.RowKit
set_option linter.unusedVariables false
set_option linter.unusedSimpArgs false
open WordM (L)
open VM
open CodM (St Pg posI pos0 isLab hasS toN cnt stp regI locN)

/-- The steps that a line makes. -/
def mkS (ls : List OpsM.Ln) (locs : List L) (x : OpsM.Ln) : List St := if hasS x then [stp ls locs x] else []
theorem fin_own {W : World} {B : Nat} {T : TypeId} {v : Value} {ls : List OpsM.Ln} {locs : List L} {x : OpsM.Ln} {r p r' p' : Int} (h : mkS ls locs x = [stp ls locs x]) (ho : W.ownsRow B T 5 v 1 [.int .i64 x.op, .int .i64 r', .int .i64 p', .int .i64 x.n, .int .i64 (toN ls x.label : Nat)])
    (he : stp ls locs x = ⟨x.op, max r 0, max p 0, x.n, (toN ls x.label : Nat)⟩) (hr : max r 0 = r') (hp : max p 0 = p') : W.ownsRow B T 5 v (mkS ls locs x).length (stsCs (mkS ls locs x)) := by
  rw [h, he, hr, hp]; exact ho
end Go.Proofs.Ytaelfjphgdlbcaa
namespace Go.Proofs.Ytaelfjphgdlbcaa
open Go.RowKit
set_option linter.unusedVariables false
theorem step_append_src {P : Program} {w : World} {ops : Array Oper} {o : Oper} {a : Act} {K : Act → World → Prop} {Q : Exit → Act → World → Prop} {E : Prop} (hgd : o.guard = none) (s x : Operand) (t : TypeId)
    (ho : o.op = .call { callee := .builtin .append, args := #[s, x], argTypes := #[t, t] })
    (base : Nat) (e : TypeId) (i : TypeInfo) (z : Value) (size bytes : Nat) (ht : P.underlying t = some (.slice e)) (hi : P.info? e = some i) (hz : i.zero = some z)
    (hsize : i.size = size) (hby : i.bytes = bytes) (hzs : z.cells.size = size) (hsz : 0 < size)
    (v : Value) (n : Nat) (xs : List Value) (hs : a.eval s = v) (hown : w.ownsRow base e size v n xs)
    (A : Option Addr) (m c : Nat) (news : List Value) (hx : a.eval x = .slice A m c) (hl : news.length = m * size) (hnil : A = none → m = 0 ∧ c = 0) (hnews : ∀ ad, A = some ad → ∀ j u, news[j]? = some u → w.cell? (ad.add j) = some u) (h1 : ∀ u ∈ news, u.oneCell' = true)
    (h63 : n + m ≤ maxLen) (hbytes : (n + m) * bytes ≤ 140737488355328) (hbase : base ≤ w.heap.size)
    (h : ∀ v' w', w'.ownsRow base e size v' (n + m) (xs ++ news) → w.grownBy w' v.ownBlock → K (a.put o.dst v') w') :
    if Region.wanted o (yielded ops a.tmps) = true then Oper.wp P o a w K Q else E := by
  have hw : Region.wanted o (yielded ops a.tmps) = true := by simp [Region.wanted, hgd]
  rw [if_pos hw]
  cases A with
  | some ad => exact wp_append_own w s x t ho base e i z size bytes ht hi hz hsize hby hzs hsz v n xs hs hown ad m c news hx hl (hnews ad rfl) h1 h63 hbytes hbase (fun v' w' a b _ => h v' w' a b)
  | none =>
    obtain ⟨rfl, rfl⟩ := hnil rfl
    have : news = [] := List.eq_nil_of_length_eq_zero (by rw [hl]; simp)
    subst this
    have hr := run_append_owned_none (P := P) (w := w) base t o.type e i size ht hi v n xs hown
    unfold Oper.wp execOp
    simp only [ho, resolve, invoke, builtin, Sem.run_bind, Sem.run_pure, Result.andThen_ok, List.map_toArray, List.map_cons, List.map_nil, hs, hx, hr]
    exact h v w (by simpa using hown) ⟨rfl, rfl, rfl, Nat.le_refl _, fun _ _ _ => rfl⟩
theorem own_slice {w : World} {base : Nat} {e : TypeId} {size n : Nat} {v : Value} {xs : List Value} (h : w.ownsRow base e size v n xs) : ∃ A c, v = .slice A n c := by
  rcases h.2 with ⟨rfl, rfl⟩ | ⟨g, cap, cur, rfl, _⟩
  · exact ⟨_, _, rfl⟩
  · exact ⟨_, _, rfl⟩
end Go.Proofs.Ytaelfjphgdlbcaa
