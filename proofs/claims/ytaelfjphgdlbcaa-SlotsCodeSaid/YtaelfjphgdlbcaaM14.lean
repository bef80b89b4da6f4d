/-
  WHAT slots.Insert HOLDS while it moves the jumps: rows of steps of the call's own, changed in place. Of no function of the program.
  slots.chosen: the places of the steps whose slots are in a row.
-/
import Derived.Test.YtaelfjphgdlbcaaSlY
import Derived.Test.YtaelfjphgdlbcaaSlD
import Derived.RangeFuncNested
import Derived.RangeFuncBound
import Derived.RangeFuncCalls
import Derived.RangeFuncLeaves
import Derived.RangeFuncBox
import Derived.Shelf.Abstract
import Derived.WalkKit
import Derived.OwnWalkIn
import Derived.TacticsInMore
import Derived.LoopNIn
import Derived.LoopIn
import Derived.Maps.OwnIn
import Derived.Test.YtaelfjphgdlbcaaM09
namespace Go.Proofs.Ytaelfjphgdlbcaa
open Go.RowKit
set_option linter.unusedVariables false
set_option linter.unusedSimpArgs false
open CodM (St Pg)
open SlM

theorem own_box {W : World} {base s n g : Nat} {T T' : TypeId} {v : Value} {xs : List Value} {cs : Array Value} (h : W.ownsRow base T s v n xs) (hb : BoxC W g T' cs) (hT : T ≠ T') : v.ownBlock = none ∨ v.ownBlock ≠ some g := by
  rcases h.2 with ⟨rfl, _⟩ | ⟨g2, cap, cur, rfl, _, hg, _⟩
  · exact .inl rfl
  · right
    intro e
    have e : g2 = g := by simpa [Value.ownBlock] using e
    subst e
    rw [show W.heap[g2]? = _ from hb] at hg
    injection hg with hg; injection hg with _ h _
    exact hT h.symm
theorem BoxC.kept {W W' : World} {g : Nat} {T : TypeId} {cs : Array Value} {row : Option Nat} (h : BoxC W g T cs) (hg : W.grownBy W' row) (hne : row ≠ some g) : BoxC W' g T cs := (hg.block g h.lt (fun e => hne e.symm)).trans h
section
variable {A : Type}
def rowsG (full rest : Nat → List A) (part : List A) (n i : Nat) : List (List A) := (List.range n).map fun j => if j < i then full j else if j = i then part else rest j
theorem rowsG_len (full rest : Nat → List A) (part : List A) (n i : Nat) : (rowsG full rest part n i).length = n := by simp [rowsG]
theorem rowsG_at (full rest : Nat → List A) (part : List A) {n i : Nat} (h : i < n) : (rowsG full rest part n i)[i]'(by rw [rowsG_len]; exact h) = part := by simp [rowsG]
theorem rowsG_set (full rest : Nat → List A) (part part' : List A) {n i : Nat} (h : i < n) : (rowsG full rest part n i).set i part' = rowsG full rest part' n i := by
  refine List.ext_getElem (by simp [rowsG_len]) (fun j h1 h2 => ?_)
  by_cases e : j = i
  · subst e; rw [List.getElem_set_self, rowsG_at full rest part' h]
  · rw [List.getElem_set_ne (Ne.symm e)]; simp [rowsG, e]
theorem rowsG_next (full rest : Nat → List A) (n i : Nat) : rowsG full rest (full i) n i = rowsG full rest (rest (i + 1)) n (i + 1) := by
  unfold rowsG
  refine List.map_congr_left (fun j _ => ?_)
  by_cases e : j < i
  · simp [e, show j < i + 1 by omega]
  · by_cases e2 : j = i
    · subst e2; simp
    · by_cases e3 : j = i + 1
      · subst e3; simp; intro h; exact absurd h (by omega)
      · simp [e, e2, e3, show ¬ j < i + 1 by omega]
theorem rowsG_zero (full rest : Nat → List A) (n : Nat) : rowsG full rest (rest 0) n 0 = (List.range n).map rest := by
  unfold rowsG
  refine List.map_congr_left (fun j _ => ?_)
  by_cases e : j = 0
  · subst e; simp
  · simp [e]
theorem rowsG_end (full rest : Nat → List A) (p : List A) (n : Nat) : rowsG full rest p n n = (List.range n).map full := by
  unfold rowsG
  refine List.map_congr_left (fun j hj => ?_)
  simp [List.mem_range.1 hj]
end
/-- The first k steps changed. -/
def pm (m : St → St) (R : List St) (k : Nat) : List St := (R.take k).map m ++ R.drop k
theorem pm_len (m : St → St) (R : List St) (k : Nat) : (pm m R k).length = R.length := by unfold pm; rw [List.length_append, List.length_map, List.length_take, List.length_drop]; omega
theorem pm_zero (m : St → St) (R : List St) : pm m R 0 = R := rfl
theorem pm_end (m : St → St) (R : List St) : pm m R R.length = R.map m := by unfold pm; rw [List.take_length, List.drop_length, List.append_nil]
theorem pm_get (m : St → St) (R : List St) {k : Nat} (hk : k ≤ R.length) (j : Nat) : (pm m R k)[j]? = (R[j]?).map (fun s => if j < k then m s else s) := by
  unfold pm
  by_cases hl : j < k
  · rw [List.getElem?_append_left (by simp; omega), List.getElem?_map, List.getElem?_take, if_pos hl]; simp [hl]
  · rw [List.getElem?_append_right (by simp; omega), List.getElem?_drop]
    simp only [List.length_map, List.length_take, Nat.min_eq_left hk]
    rw [show k + (j - k) = j by omega]
    simp [hl]
theorem pm_at (m : St → St) (R : List St) {k : Nat} (h : k < R.length) : (pm m R k)[k]'(by rw [pm_len]; exact h) = R[k] := by
  have := pm_get m R (Nat.le_of_lt h) k
  rw [List.getElem?_eq_getElem (by rw [pm_len]; exact h), List.getElem?_eq_getElem h] at this
  simpa using this
theorem pm_next (m : St → St) (R : List St) {k : Nat} (h : k < R.length) : pm m R (k + 1) = (pm m R k).set k (m R[k]) := by
  refine List.ext_getElem? (fun j => ?_)
  rw [pm_get m R h, List.getElem?_set, pm_get m R (Nat.le_of_lt h), pm_len]
  by_cases e : k = j
  · subst e
    rw [if_pos rfl, if_pos h, List.getElem?_eq_getElem h]; simp
  · rw [if_neg e]
    congr 1; funext s
    by_cases hl : j < k
    · simp [hl, show j < k + 1 by omega]
    · simp [hl, show ¬ j < k + 1 by omega]
theorem pm_same (m : St → St) (R : List St) {k : Nat} (h : k < R.length) (hm : m R[k] = R[k]) : pm m R (k + 1) = pm m R k := by
  rw [pm_next m R h, hm]
  refine List.ext_getElem (by simp) (fun j h1 h2 => ?_)
  by_cases e : j = k
  · subst e; rw [List.getElem_set_self, pm_at m R h]
  · rw [List.getElem_set_ne (Ne.symm e)]
theorem stsCs_set : ∀ (l : List St) (k : Nat) (hk : k < l.length) (x : Int), stsCs (l.set k ⟨l[k].op, l[k].reg, l[k].loc, l[k].n, x⟩) = (stsCs l).set (k * 5 + 4) (.int .i64 x)
  | [], k, hk, _ => absurd hk (Nat.not_lt_zero k)
  | s :: r, 0, hk, x => by
    rw [List.set_cons_zero, stsCs, stsCs]
    show _ = ((stCs s) ++ stsCs r).set 4 _
    rw [List.set_append_left _ _ (by show 4 < 5; omega)]; rfl
  | s :: r, k + 1, hk, x => by
    rw [List.set_cons_succ, stsCs, stsCs, List.set_append_right _ _ (by show 5 ≤ _; omega)]
    have := stsCs_set r k (by simpa using hk) x
    simp only [List.getElem_cons_succ]
    rw [this]
    show _ ++ _ = _ ++ (stsCs r).set ((k + 1) * 5 + 4 - 5) _
    rw [show (k + 1) * 5 + 4 - 5 = k * 5 + 4 by omega]
theorem cntC_congr {c c' : Nat → Bool} : ∀ n, (∀ k, k < n → c k = c' k) → cntC c n = cntC c' n
  | 0, _ => rfl
  | n + 1, h => by rw [cntC, cntC, cntC_congr n (fun k hk => h k (by omega)), h n (Nat.lt_succ_self n)]
theorem mv_congr {c c' : Nat → Bool} {len : Nat} (h : ∀ k, k < len → c k = c' k) (s : St) : mv c len s = mv c' len s := by
  unfold mv land
  rw [cntC_congr _ (fun k hk => h k (by omega))]
/-- The code with fences at the places that f tells. -/
def insF (f : Int → Int → Bool) (P : Pg) : Pg := ⟨P.init, (List.range P.ths.length).map fun (t : Nat) => (wthN (fun q => f (t : Int) (q : Int)) fenS (P.ths.getD t []) (P.ths.getD t []).length).map (mv (fun q => f (t : Int) (q : Int)) (P.ths.getD t []).length)⟩
theorem insF_eq {f : Int → Int → Bool} {P : Pg} {g : List Int} (h : ∀ t k (ht : t < P.ths.length), k < P.ths[t].length → f (t : Nat) (k : Nat) = ch anyS P.ths g t k) : insF f P = insP P g := by
  have e : (insF f P).ths = (insP P g).ths := by
    refine List.ext_getElem (by rw [insP_len]; simp [insF]) (fun t h1 h2 => ?_)
    have ht : t < P.ths.length := by rw [insP_len] at h2; exact h2
    rw [insP_row g ht]
    simp only [insF, List.getElem_map, List.getElem_range, SlM.getD_at ht]
    rw [wthN_congr fenS P.ths[t] _ (fun k hk => h t k ht hk)]
    refine List.map_congr_left (fun s _ => mv_congr (fun k hk => h t k ht hk) s)
  show Pg.mk (insF f P).init (insF f P).ths = Pg.mk (insP P g).init (insP P g).ths
  rw [e]; rfl
theorem mem_wthN {A : Type} {c : Nat → Bool} {x : A} {l : List A} : ∀ {n : Nat} {s : A}, s ∈ wthN c x l n → s = x ∨ s ∈ l
  | 0, _, h => by cases h
  | n + 1, s, h => by
    rw [wthN] at h
    rcases List.mem_append.1 h with h | h
    · exact mem_wthN h
    · rcases List.mem_append.1 h with h | h
      · split at h
        · exact .inl (by simpa using h)
        · cases h
      · right
        cases e : l[n]? with
        | none => rw [e] at h; cases h
        | some y => rw [e] at h; rw [show s = y by simpa using h]; exact List.mem_of_getElem? e
structure IS (b : Nat) (WW : World) (ns : List Int) (ui : Value) (gm gq n : Nat) (vs : List Value) (xss : List (List St)) (W : World) : Prop where
  ini : W.ownsRow b 3 1 ui ns.length (ns.flatMap inC)
  more : W.ownsRow b 50 1 (.slice (some ⟨gm, 0, none⟩) n n) n vs
  rows : RowsA W b 53 stsCs vs xss
  box : BoxC W gq 25 #[ui, .slice (some ⟨gm, 0, none⟩) n n]
  below : Below b WW W
section
variable {b gm gq n : Nat} {WW W W' : World} {ns : List Int} {ui : Value} {vs : List Value} {xss : List (List St)}
theorem IS.grow (h : IS b WW ns ui gm gq n vs xss W) (hb : Below W.heap.size W W') (hbW : b ≤ WW.heap.size) : IS b WW ns ui gm gq n vs xss W' :=
  ⟨own_below h.ini hb, own_below h.more hb, h.rows.below hb, h.box.below hb h.box.lt, h.below.trans (hb.mono (Nat.le_trans hbW h.below.size))⟩
theorem RowsA.cell {A : Type} {base g N cap : Nat} {T : TypeId} {cs : List A → List Value} {vs : List Value} {xss : List (List A)} {W : World} (h : RowsA W base T cs vs xss) {i m : Nat} (hu : vs[i]? = some (.slice (some ⟨g, 0, none⟩) N cap)) {v : Value} {ys : List A}
    (hi : i < xss.length) (hy : ys.length = xss[i].length) (hcs : cs ys = (cs xss[i]).set m v) : RowsA (W.setCell ⟨g, m, none⟩ v) base T cs vs (xss.set i ys) := by
  obtain ⟨hi', ho⟩ := h.of hu
  have hN : xss[i].length = N := by
    rcases ho.2 with ⟨e, _⟩ | ⟨_, _, _, e, _⟩
    · cases e
    · injection e with _ e _; exact e.symm
  rw [hN] at ho
  have hst := ho.stored m v
  refine ⟨by simp [h.len], fun j hj => ?_, h.apart⟩
  have hj' : j < xss.length := by simpa using hj
  by_cases e : j = i
  · subst e
    refine ⟨_, hu, ?_⟩
    rw [List.getElem_set_self, hcs, hy, hN]
    exact hst.1
  · obtain ⟨u, h1, h2⟩ := h.own j hj'
    refine ⟨u, h1, ?_⟩
    rw [List.getElem_set_ne (Ne.symm e)]
    exact h2.kept hst.2 (by have := h.apart j i u _ e h1 hu; simpa [Value.ownBlock] using this)
theorem IS.cell (h : IS b WW ns ui gm gq n vs xss W) {i m N cap g : Nat} (hu : vs[i]? = some (.slice (some ⟨g, 0, none⟩) N cap)) {v : Value} {ys : List St} (hi : i < xss.length) (hy : ys.length = xss[i].length) (hcs : stsCs ys = (stsCs xss[i]).set m v) :
    IS b WW ns ui gm gq n vs (xss.set i ys) (W.setCell ⟨g, m, none⟩ v) ∧ W.grownBy (W.setCell ⟨g, m, none⟩ v) (some g) := by
  obtain ⟨hi', ho⟩ := h.rows.of hu
  have hg := grown_set W g m v
  have hob : (Value.slice (some ⟨g, 0, none⟩) N cap).ownBlock = some g := rfl
  refine ⟨⟨?_, ?_, h.rows.cell hu hi hy hcs, ?_, h.below.setCell (p := ⟨g, m, none⟩) (ho.lt g rfl).1 v⟩, hg⟩
  · exact h.ini.kept hg (by have := own_apart (by decide) h.ini ho; rwa [hob] at this)
  · exact h.more.kept hg (by have := own_apart (by decide) h.more ho; rwa [hob] at this)
  · refine h.box.kept hg (fun e => ?_)
    rcases own_box ho h.box (by decide) with e2 | e2
    · cases e2
    · exact e2 e
end
end Go.Proofs.Ytaelfjphgdlbcaa
namespace Go.Proofs.Ytaelfjphgdlbcaa
open Go.RowKit Go.Shelf
set_option linter.unusedVariables false
set_option linter.unusedSimpArgs false
attribute [local go_sem] Oper.semAt_some
open CodM (St Pg)
open SlM

set_option maxRecDepth 100000 in
set_option maxHeartbeats 2000000 in
theorem chosens_in (F : Fence) (n : Nat) (h46 : F.fn 46) (h44 : F.fn 44) (h62 : F.fn 62) (h34 : F.fn 34) (h59 : F.fn 59) (h35 : F.fn 35) (hro : F.round = none) (hn : 6 ≤ n) {B : Nat} {v vg : Value} {ths : List (List St)} {g : List Int} (w : World)
    (hv : Sss B w v ths) (hg : Ints B w vg g) (hBB : B ≤ w.heap.size) (hl : ths.length ≤ 1000000) (hll : ∀ ss ∈ ths, ss.length ≤ 1000000) (hgl : g.length ≤ 1000000) :
    CallsIn F n Try.prog 46 #[v, .func (.func 35) #[] #[], vg] w fun e w' => ∃ b f, e = .returned (.map (some b)) ∧ b < w'.heap.size ∧ w.heap.size ≤ b ∧ MapP w' b (many anyS ths) f ∧ (∀ t k (ht : t < ths.length), k < ths[t].length → f (t : Nat) (k : Nat) = ch anyS ths g t k) ∧ Below w.heap.size w w' := by
  have h1 : 1 ≤ n := by omega
  have hmm := @run_makeMap Try.prog
  have HV := Lib.hid hv
  have HLL := Lib.hid hll
  have HG := Lib.hid hg
  have hM : many anyS ths ≤ 1000000000000 := many_le anyS (M := 1000000) (N := 1000000) ths hl hll
  obtain ⟨A, c, rfl, hc1, hc2, -⟩ := hv
  obtain ⟨A', c', rfl, hc1', hc2', -⟩ := hg
  refine callsIn_of_wp_marks Try.func46 rfl h46 ?_ hro
  simp only [Try.ntmps46, List.size_toArray, List.length_cons, List.length_nil, Nat.reduceAdd, Nat.reduceSub, Array.replicate_succ, Array.replicate_zero, List.push_toArray, List.append_toArray, List.nil_append, List.cons_append]
  gi_wp2_with (first
    | (gi_at_call 44; refine (counts_in F (n - 1) h44 h34 h59 h35 hro (by omega) _ HV.out hBB hl HLL.out).mono ?_; rintro e w1 ⟨rfl, hB1⟩; have hz1 := hB1.size)
    | (gi_at_call 62; refine (keys_in F (n - 1) h62 hro (many anyS ths) _ (HG.out.below (hB1.mono hBB)) (Nat.le_trans hBB hB1.size) hM hgl).mono ?_; rintro e w2 ⟨rfl, hK2, hB2⟩; have hz2 := hB2.size)
    | (gi_at_call 34; refine (alls_in F (n - 1) h34 hro _ _ _ _).mono ?_; rintro e w' ⟨rfl, rfl⟩))
  obtain ⟨M, hMe⟩ : ∃ M, M = many anyS ths := ⟨_, rfl⟩
  obtain ⟨W0, hW0⟩ : ∃ W0, W0 = ((w2.alloc (.map #[] 0)).alloc (.cells #[.map (some w1.heap.size)] 101)).alloc (.cells #[.map (some w2.heap.size)] 76) := ⟨_, rfl⟩
  have hs0 : W0.heap.size = w2.heap.size + 1 + 1 + 1 := by rw [hW0]; simp
  have b7 : Boxed W0 (w2.heap.size + 1) 101 (.map (some w1.heap.size)) := by
    have := (Boxed.new (w2.alloc (.map #[] 0)) 101 (.map (some w1.heap.size))).alloc (.cells #[.map (some w2.heap.size)] 76)
    rw [World.size_alloc] at this; rw [hW0]; exact this
  have b8 : Boxed W0 (w2.heap.size + 1 + 1) 76 (.map (some w2.heap.size)) := by
    have := Boxed.new ((w2.alloc (.map #[] 0)).alloc (.cells #[.map (some w1.heap.size)] 101)) 76 (.map (some w2.heap.size))
    rw [World.size_alloc, World.size_alloc] at this; rw [hW0]; exact this
  have hbk := hK2.lt
  have hI0 : MapI W0 w1.heap.size g.length (keyB g M) := by
    rw [hW0, hMe]
    exact ((hK2.kept (World.grownBy_alloc _ _ none) (by simp)).kept (World.grownBy_alloc _ _ none) (by simp)).kept (World.grownBy_alloc _ _ none) (by simp)
  have hP0 : MapP W0 w2.heap.size 0 (chI g M []) := by
    rw [hW0, chI_nil]
    exact ((MapP.made w2).kept (World.grownBy_alloc _ _ none) (by simp)).kept (World.grownBy_alloc _ _ none) (by simp)
  have hB0 : Below w.heap.size w W0 := by
    rw [hW0]
    exact ((((hB1.trans (hB2.mono hz1)).alloc (by omega) _).alloc (by simp; omega) _).alloc (by simp; omega) _)
  rw [← hW0]
  obtain ⟨bt, bs, hb2⟩ := alls_boxes W0 (.slice A ths.length c) (.func (.func 35) #[] #[]) 23 69
  have b7' := (b7.alloc (.cells #[.slice A ths.length c] 23)).alloc (.cells #[.func (.func 35) #[] #[]] 69)
  have b8' := (b8.alloc (.cells #[.slice A ths.length c] 23)).alloc (.cells #[.func (.func 35) #[] #[]] 69)
  have hI0' := (hI0.kept (World.grownBy_alloc _ (.cells #[.slice A ths.length c] 23) none) (by simp)).kept (World.grownBy_alloc _ (.cells #[.func (.func 35) #[] #[]] 69) none) (by simp)
  have hP0' := (hP0.kept (World.grownBy_alloc _ (.cells #[.slice A ths.length c] 23) none) (by simp)).kept (World.grownBy_alloc _ (.cells #[.func (.func 35) #[] #[]] 69) none) (by simp)
  have hB := hB0.trans (hb2.mono hB0.size)
  clear b7 b8 hW0 hI0 hP0
  rw [← hs0]
  refine wpIn_rangeFunc_ownH hro h1 (gf := 59) (lb := #[.pointer (some ⟨W0.heap.size, 0, none⟩), .pointer (some ⟨W0.heap.size + 1, 0, none⟩)]) rfl h59 (enters_of Try.func59 (by kernel_rfl) rfl)
    (alls_stops F (n - 1) h59 h35 hro (by omega) w.heap.size _ _ _ ths _ (by simp; omega) bt bs ((HV.out.more hBB).below hB) hl HLL.out) KpS.t (KpS.b (by simp; omega)) (Below.refl _ _) (fun _ => rfl)
    (fun pre W => (Boxed W (w2.heap.size + 1) 101 (.map (some w1.heap.size)) ∧ Boxed W (w2.heap.size + 1 + 1) 76 (.map (some w2.heap.size))) ∧ (MapI W w1.heap.size g.length (keyB g M) ∧ MapP W w2.heap.size pre.length (chI g M pre)) ∧ Below w.heap.size w W)
    (fun _ _ _ => False)
    (OwnFrom.and (OwnFrom.and (Own.from (boxed_own _ _ (fun _ : List Sq => .map (some w1.heap.size))) _) (Own.from (boxed_own _ _ (fun _ : List Sq => .map (some w2.heap.size))) _)) (OwnFrom.and (fun s A B row hs hg hr => ⟨hs.1.kept hg (fun e => by have := (hr _ e.symm).1; simp at this; omega), hs.2.kept hg (fun e => by have := (hr _ e.symm).1; simp at this; omega)⟩) (ownFrom_below (Nat.le_refl _) (by simp; omega))))
    (fun _ _ _ _ _ hs _ _ => hs)
    ⟨⟨b7', b8'⟩, ⟨hI0', hP0'⟩, hB⟩
    (fun x a' W => ∃ Bx, w2.heap.size + 1 + 1 < Bx ∧ Box2 W Bx 71 (.int .i64 (x.1.t : Int)) (.int .i64 (x.1.k : Int)) ∧ a' = { tmps := #[.slice A ths.length c, .func (.func 35) #[] #[], .slice A' g.length c', undef, undef, undef, .map none, .pointer (some ⟨w2.heap.size + 1, 0, none⟩), .pointer (some ⟨w2.heap.size + 1 + 1, 0, none⟩), .int .i64 (x.1.n : Int), .pointer (some ⟨Bx, 0, none⟩), .slice A' g.length c', .slice A ths.length c, .func (.func 35) #[] #[], .int .i64 (many anyS ths : Nat), .map (some w1.heap.size), .map (some w2.heap.size), .slice A ths.length c, .func (.func 35) #[] #[], .func (.func 59) #[] #[.pointer (some ⟨W0.heap.size, 0, none⟩), .pointer (some ⟨W0.heap.size + 1, 0, none⟩)], .int .i64 (x.1.n : Int), .agg #[.int .i64 (x.1.t : Int), .int .i64 (x.1.k : Int)], undef, undef, undef, undef, undef, undef], defers := [] })
    (fun x a' s A B row hs hg hr => by obtain ⟨Bx, h1, h2, h3⟩ := hs; exact ⟨Bx, h1, (box2_own (β := Unit) Bx _ _ _) () A B row h2 hg (fun r e => (hr r e).2), h3⟩)
    ?assign ?body ?done ?stop
  case assign =>
    rintro l pre x W K ⟨⟨h1, h2⟩, ⟨h3, h4⟩, hB⟩ hK
    dsimp only [encs]
    gi_wp2
    exact hK _ _ ((KeepsOthers.alloc _ _).from _) (KpS.grown hB.size (World.grownBy_alloc _ _ none) (fun r e => by cases e)) ⟨⟨h1.alloc _, h2.alloc _⟩, ⟨h3.kept (World.grownBy_alloc _ _ none) (by simp), h4.kept (World.grownBy_alloc _ _ none) (by simp)⟩, hB.alloc hB.size _⟩ ⟨W.heap.size, h2.lt, Box2.new W _ _ _, by simp⟩
  case body =>
    rintro l pre x a' W hll ⟨r, hr⟩ ⟨⟨h1, h2⟩, ⟨h3, h4⟩, hB⟩ ⟨Bx, hBx, hx, rfl⟩ hlt
    have c1 := h1.cell
    have c2 := h2.cell
    have x0 := hx.cell0
    have x1 := hx.cell1
    have wn := wf_small x.2.1
    have wt := wf_small x.2.2.1
    have wk := wf_small x.2.2.2
    have hlt' : pre.length < maxLen := by unfold maxLen; omega
    cases hkb : keyB g M (x.1.n : Int)
    · have hno := chI_no (pre := pre) hkb
      gi_wp2_with (gi_at_lookup; refine in_mapI _ rfl _ _ rfl w1.heap.size g.length _ rfl h3 (x.1.n : Int) rfl wn ?_; rw [hkb])
      exact ⟨KeepsFrom.refl _ _, ⟨Below.refl _ _, fun _ h _ => h⟩, ⟨h1, h2⟩, ⟨h3, by rw [← hno]; exact h4.mono (by simp)⟩, hB⟩
    · have hyes := chI_yes (pre := pre) hkb
      gi_wp2_with (first
        | (gi_at_lookup; refine in_mapI _ rfl _ _ rfl w1.heap.size g.length _ rfl h3 (x.1.n : Int) rfl wn ?_; rw [hkb])
        | (gi_at_mapUpdate; refine in_putP _ rfl _ _ _ rfl w2.heap.size pre.length _ rfl h4 hlt' (x.1.t : Int) (x.1.k : Int) rfl rfl wt wk ?_; intro w3 hP3 hg3))
      exact ⟨KeepsFrom.of_grownBy hg3 (fun j e => by cases e; simp; omega), KpS.grown hB.size hg3 (fun r e => by cases e; exact ⟨by omega, by omega⟩), ⟨h1.kept hg3 (fun e => by injection e with e; omega), h2.kept hg3 (fun e => by injection e with e; omega)⟩, ⟨h3.kept hg3 (fun e => by injection e with e; omega), by rw [← hyes, List.length_append]; exact hP3⟩, hB.grown hg3 hB.size (fun r e => by cases e; omega)⟩
  case done =>
    rintro D ys W hD hys ⟨⟨h1, h2⟩, ⟨h3, h4⟩, hB⟩ hK
    have c2 := h2.cell
    have hbp := h4.lt
    have hDs : W0.heap.size ≤ D := by simp at hD; omega
    gi_wp2
    refine ⟨by simp, .inl ⟨_, _, rfl, run_takeDeferred hK, ?_⟩⟩
    refine ⟨_, results_tmp rfl _ _ _, w2.heap.size, chI g M ys, rfl, ?_, by omega, ?_, ?_, ?_⟩
    · exact Nat.lt_of_lt_of_le hbp (grownBy_putObj' W D (.deferred none)).size
    · have := h4.kept (grownBy_putObj' W D (.deferred none)) (fun e => by injection e with e; omega)
      rw [sq_len hys, pls_len] at this; exact this
    · intro t k ht hk
      rw [hMe]; exact chI_end anyS ths g hys ht hk
    · exact hB.trans (belowK_b (w := w) (Nat.le_refl _) W D _ _ (by omega) hK rfl rfl)
  case stop =>
    rintro D cc pre W _ _ h _
    exact h.elim
end Go.Proofs.Ytaelfjphgdlbcaa
