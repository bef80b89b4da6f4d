/-
  code.firstNumber; each location's first number, as a row.
  code.maker: the step of a line; where its jump goes.
  code.maker$2: a line's step, as a row of one; none of a label.
  code.maker, each line's steps, joined: the steps of a thread.
  ROWS OF ROWS of the call's own, each row in a block of its own; append as one step of a drawn region, with the word on where the new row lies. Of no function of the program.
  WHAT A ROUND OF 'more[i] = append(more[i], y)' HOLDS: a row of rows, each in a block of its own, a box of five cells beside them. Of no function of the program.
  slots.chosen: the places of the steps whose slots are in a row.
  LAYER 11: Buffering as a code, in memory.
  LAYER 8's Great: is a code too much, or none?
  THE DOCUMENT's Has, Count, Many, Of, Num of layer 8.
  THE DOCUMENT's Meet of layer 14.
  MATHEMATICS OF LAYER 8: right codes' jumps; rows gone through from behind.
-/
import Derived.Test.YtlpjgaeelnlipaaGreatCdC
import Derived.Test.YtlpjgaeelnlipaaGreatK01
import Derived.Test.YtlpjgaeelnlipaaGreatK09
import Derived.Deep.RegionHeld3
import Derived.Test.YtlpjgaeelnlipaaGreatK02
import Derived.Maps.AppendAt
import Derived.RangeFuncBox
import Derived.RangeFuncNested
import Derived.RangeFuncBound
import Derived.RangeFuncCalls
import Derived.RangeFuncLeaves
import Derived.Shelf.Abstract
import Derived.WalkKit
import Derived.OwnWalkIn
import Derived.TacticsInMore
import Derived.LoopNIn
import Derived.LoopIn
import Derived.Maps.OwnIn
import Derived.Test.YtlpjgaeelnlipaaGreatScP
import Derived.Test.YtlpjgaeelnlipaaGreatRCdC
set_option linter.unusedVariables false
set_option linter.unusedSimpArgs false
namespace Go.Proofs.YtlpjgaeelnlipaaGreat
open Go.RowKit
open WordM (L)
open VM
open CodM (St Pg fstN)

theorem info_int : (Tryz.prog.info? 3).map (fun i => (i.zero, i.size, i.bytes)) = some (some (.int .i64 0), 1, 8) := by kernel_rfl
end Go.Proofs.YtlpjgaeelnlipaaGreat
namespace Go.Proofs.YtlpjgaeelnlipaaGreat
open Go.RowKit
open WordM (L)
open VM
open CodM (St Pg posI pos0 isLab hasS toN cnt)

end Go.Proofs.YtlpjgaeelnlipaaGreat
namespace Go.Proofs.YtlpjgaeelnlipaaGreat
open Go.RowKit
open WordM (L)
open VM
open CodM (St Pg posI pos0 isLab hasS toN cnt stp regI locN)

end Go.Proofs.YtlpjgaeelnlipaaGreat
namespace Go.Proofs.YtlpjgaeelnlipaaGreat
open Go.RowKit
open WordM (L)
open VM
open CodM (St Pg hasS stp thrS)

theorem cdown_apart {W : World} {b1 b2 s1 s2 n m : Nat} {T1 T2 : TypeId} {u v : Value} {xs ys : List Value} (hT : T1 ≠ T2) (h1 : W.ownsRow b1 T1 s1 u n xs) (h2 : W.ownsRow b2 T2 s2 v m ys) : u.ownBlock = none ∨ u.ownBlock ≠ v.ownBlock := by
  rcases h1.2 with ⟨rfl, _⟩ | ⟨g, cap, cur, rfl, hb, hg, _⟩
  · exact .inl rfl
  rcases h2.2 with ⟨rfl, _⟩ | ⟨g2, cap2, cur2, rfl, hb2, hg2, _⟩
  · right; simp [Value.ownBlock]
  right
  intro e
  have e : g = g2 := by simpa [Value.ownBlock] using e
  subst e
  rw [hg] at hg2
  injection hg2 with hg2
  injection hg2 with _ h _
  exact hT h
theorem cdown_grown {W W' : World} {b1 b2 s1 s2 n m : Nat} {T1 T2 : TypeId} {u v : Value} {xs ys : List Value} (hT : T1 ≠ T2) (h1 : W.ownsRow b1 T1 s1 u n xs) (h2 : W.ownsRow b2 T2 s2 v m ys) (hg : W.grownBy W' v.ownBlock) : W'.ownsRow b1 T1 s1 u n xs :=
  h1.kept hg (cdown_apart hT h1 h2)
/-- Each of the values is a row of the call's own, of these steps. -/
def StsAll (W : World) (base : Nat) (vs : List Value) (tss : List (List St)) : Prop :=
  vs.length = tss.length ∧ ∀ j (hj : j < tss.length), ∃ u, vs[j]? = some u ∧ W.ownsRow base 75 5 u tss[j].length (stsCs tss[j])
theorem StsAll.below {W W' : World} {base : Nat} {vs : List Value} {tss : List (List St)} (h : StsAll W base vs tss) (hb : Below W.heap.size W W') : StsAll W' base vs tss := by
  refine ⟨h.1, fun j hj => ?_⟩
  obtain ⟨u, h1, h2⟩ := h.2 j hj
  exact ⟨u, h1, own_below h2 hb⟩
theorem StsAll.grown {W W' : World} {base b n : Nat} {T : TypeId} {v : Value} {vs xs : List Value} {tss : List (List St)} (h : StsAll W base vs tss) (hT : 75 ≠ T) (ho : W.ownsRow b T 1 v n xs) (hg : W.grownBy W' v.ownBlock) : StsAll W' base vs tss := by
  refine ⟨h.1, fun j hj => ?_⟩
  obtain ⟨u, h1, h2⟩ := h.2 j hj
  exact ⟨u, h1, cdown_grown hT h2 ho hg⟩
theorem StsAll.snoc {W : World} {base : Nat} {vs : List Value} {tss : List (List St)} {u : Value} {ss : List St} (h : StsAll W base vs tss) (ho : W.ownsRow base 75 5 u ss.length (stsCs ss)) : StsAll W base (vs ++ [u]) (tss ++ [ss]) := by
  refine ⟨by rw [List.length_append, List.length_append, h.1]; rfl, fun j hj => ?_⟩
  by_cases e : j < tss.length
  · obtain ⟨u', h1, h2⟩ := h.2 j e
    rw [List.getElem_append_left e]
    exact ⟨u', by rw [List.getElem?_append_left (by rw [h.1]; exact e)]; exact h1, h2⟩
  · have hj' : j = tss.length := by rw [List.length_append] at hj; simp at hj; omega
    subst hj'
    rw [List.getElem_append_right (Nat.le_refl _)]
    refine ⟨u, ?_, by simpa using ho⟩
    rw [List.getElem?_append_right (by rw [h.1]; exact Nat.le_refl _), h.1, Nat.sub_self]; rfl
end Go.Proofs.YtlpjgaeelnlipaaGreat
namespace Go.Proofs.YtlpjgaeelnlipaaGreat
open Go.RowKit

theorem slgrown_set (W : World) (b i : Nat) (v : Value) : W.grownBy (W.setCell ⟨b, i, none⟩ v) (some b) :=
  ⟨rfl, rfl, rfl, by simp, fun k _ hk => heap_setCell_other W ⟨b, i, none⟩ k v (fun e => hk (by rw [e]))⟩
structure RowsA {A : Type} (W : World) (base : Nat) (T : TypeId) (cs : List A → List Value) (vs : List Value) (xss : List (List A)) : Prop where
  len : vs.length = xss.length
  own : ∀ j (hj : j < xss.length), ∃ u, vs[j]? = some u ∧ W.ownsRow base T 5 u xss[j].length (cs xss[j])
  apart : ∀ (i j : Nat) (u v : Value), i ≠ j → vs[i]? = some u → vs[j]? = some v → u.ownBlock = none ∨ u.ownBlock ≠ v.ownBlock
section
variable {A : Type} {W W' : World} {base : Nat} {T : TypeId} {cs : List A → List Value} {vs : List Value} {xss : List (List A)}
theorem RowsA.of (h : RowsA W base T cs vs xss) {j : Nat} {u : Value} (hu : vs[j]? = some u) : ∃ hj : j < xss.length, W.ownsRow base T 5 u xss[j].length (cs xss[j]) := by
  have hj : j < xss.length := by rw [← h.len]; exact (List.getElem?_eq_some_iff.1 hu).1
  obtain ⟨u', h1, h2⟩ := h.own j hj
  rw [hu] at h1; injection h1 with h1; subst h1
  exact ⟨hj, h2⟩
theorem RowsA.kept {row : Option Nat} (h : RowsA W base T cs vs xss) (hg : W.grownBy W' row) (hne : ∀ (j : Nat) (u : Value), vs[j]? = some u → u.ownBlock = none ∨ u.ownBlock ≠ row) : RowsA W' base T cs vs xss :=
  ⟨h.len, fun j hj => by obtain ⟨u, h1, h2⟩ := h.own j hj; exact ⟨u, h1, h2.kept hg (hne j u h1)⟩, h.apart⟩
theorem RowsA.new (h : RowsA W base T cs vs xss) (hg : W.grownBy W' none) : RowsA W' base T cs vs xss :=
  h.kept hg (fun j u _ => by cases u.ownBlock; exact .inl rfl; exact .inr (fun e => by cases e))
theorem RowsA.below (h : RowsA W base T cs vs xss) (hb : Below W.heap.size W W') : RowsA W' base T cs vs xss :=
  ⟨h.len, fun j hj => by obtain ⟨u, h1, h2⟩ := h.own j hj; exact ⟨u, h1, own_below h2 hb⟩, h.apart⟩
theorem RowsA.setAt (h : RowsA W base T cs vs xss) {i : Nat} {u u' : Value} {ys : List A} (hu : vs[i]? = some u) (hg : W.grownBy W' u.ownBlock) (ho : W'.ownsRow base T 5 u' ys.length (cs ys)) (hat : u'.ownBlock = u.ownBlock ∨ u'.ownBlock = some W.heap.size) :
    RowsA W' base T cs (vs.set i u') (xss.set i ys) := by
  have hi : i < vs.length := (List.getElem?_eq_some_iff.1 hu).1
  have key : ∀ (j : Nat) (v : Value), j ≠ i → vs[j]? = some v → (u'.ownBlock = none ∨ u'.ownBlock ≠ v.ownBlock) ∧ (v.ownBlock = none ∨ v.ownBlock ≠ u'.ownBlock) := by
    intro j v hj hv
    obtain ⟨hjl, hov⟩ := h.of hv
    rcases hat with e | e
    · rw [e]; exact ⟨h.apart i j u v (Ne.symm hj) hu hv, h.apart j i v u hj hv hu⟩
    · rw [e]
      have hlt : v.ownBlock ≠ some W.heap.size := fun c => by have := (hov.lt _ c).2; omega
      exact ⟨.inr (Ne.symm hlt), .inr hlt⟩
  refine ⟨by simp [h.len], fun j hj => ?_, fun a b x y hab hx hy => ?_⟩
  · by_cases e : j = i
    · subst e
      refine ⟨u', by rw [List.getElem?_set_self hi], ?_⟩
      simpa using ho
    · have hj' : j < xss.length := by simpa using hj
      obtain ⟨v, h1, h2⟩ := h.own j hj'
      refine ⟨v, by rw [List.getElem?_set_ne (Ne.symm e)]; exact h1, ?_⟩
      rw [List.getElem_set_ne (Ne.symm e)]
      exact h2.kept hg (h.apart j i v u e h1 hu)
  · by_cases ea : a = i
    · subst ea
      rw [List.getElem?_set_self hi] at hx; injection hx with hx; subst hx
      rw [List.getElem?_set_ne (fun c => hab c)] at hy
      exact (key b y (fun c => hab c.symm) hy).1
    · rw [List.getElem?_set_ne (Ne.symm ea)] at hx
      by_cases eb : b = i
      · subst eb
        rw [List.getElem?_set_self hi] at hy; injection hy with hy; subst hy
        exact (key a x ea hx).2
      · rw [List.getElem?_set_ne (Ne.symm eb)] at hy
        exact h.apart a b x y hab hx hy
theorem RowsA.made (W : World) (base : Nat) (T : TypeId) (cs : List A → List Value) (hcs : cs [] = []) (n : Nat) : RowsA W base T cs (List.replicate n (.slice none 0 0)) (List.replicate n []) := by
  refine ⟨by simp, fun j hj => ⟨.slice none 0 0, by rw [List.getElem?_replicate, if_pos (by simpa using hj)], ?_⟩, fun i j u v _ hu _ => .inl ?_⟩
  · rw [List.getElem_replicate, hcs]; exact World.ownsRow_nil _ _ _ _
  · rw [List.getElem?_replicate] at hu
    split at hu
    · injection hu with hu; subst hu; rfl
    · cases hu
end
/-! Rows that are done, a row under way, rows to come. -/
section
variable {A : Type}
def rowsAt (full : Nat → List A) (part : List A) (n i : Nat) : List (List A) := (List.range n).map fun j => if j < i then full j else if j = i then part else []
theorem rowsAt_len (full : Nat → List A) (part : List A) (n i : Nat) : (rowsAt full part n i).length = n := by simp [rowsAt]
theorem rowsAt_at (full : Nat → List A) (part : List A) {n i : Nat} (h : i < n) : (rowsAt full part n i)[i]'(by rw [rowsAt_len]; exact h) = part := by simp [rowsAt]
theorem rowsAt_set (full : Nat → List A) (part part' : List A) {n i : Nat} (h : i < n) : (rowsAt full part n i).set i part' = rowsAt full part' n i := by
  refine List.ext_getElem (by simp [rowsAt_len]) (fun j h1 h2 => ?_)
  by_cases e : j = i
  · subst e; rw [List.getElem_set_self, rowsAt_at full part' h]
  · rw [List.getElem_set_ne (Ne.symm e)]; simp [rowsAt, e]
theorem rowsAt_next (full : Nat → List A) (n i : Nat) : rowsAt full (full i) n i = rowsAt full [] n (i + 1) := by
  unfold rowsAt
  refine List.map_congr_left (fun j _ => ?_)
  by_cases e : j < i
  · simp [e, show j < i + 1 by omega]
  · by_cases e2 : j = i
    · subst e2; simp
    · simp [e, e2, show ¬ j < i + 1 by omega]
theorem rowsAt_zero (full : Nat → List A) (n : Nat) : rowsAt full [] n 0 = List.replicate n [] := by
  refine List.ext_getElem (by simp [rowsAt_len]) (fun j h1 h2 => ?_)
  simp [rowsAt]
theorem rowsAt_end (full : Nat → List A) (p : List A) (n : Nat) : rowsAt full p n n = (List.range n).map full := by
  unfold rowsAt
  refine List.map_congr_left (fun j hj => ?_)
  simp [List.mem_range.1 hj]
theorem wthN_congr {c c' : Nat → Bool} (x : A) (l : List A) : ∀ n, (∀ k, k < n → c k = c' k) → SlM.wthN c x l n = SlM.wthN c' x l n
  | 0, _ => rfl
  | n + 1, h => by rw [SlM.wthN, SlM.wthN, wthN_congr x l n (fun k hk => h k (by omega)), h n (Nat.lt_succ_self n)]
end
/-- append of written-out cells, as one step of a drawn region. -/
theorem step_append_at {P : Program} {w : World} {ops : Array Oper} {o : Oper} {a : Act} {K : Act → World → Prop} {Q : Exit → Act → World → Prop} {E : Prop} (hgd : o.guard = none) (s x : Operand) (t : TypeId)
    (ho : o.op = .call { callee := .builtin .append, args := #[s, x], argTypes := #[t, t] })
    (base : Nat) (e : TypeId) (i : TypeInfo) (z : Value) (size bytes : Nat) (ht : P.underlying t = some (.slice e)) (hi : P.info? e = some i) (hz : i.zero = some z)
    (hsize : i.size = size) (hby : i.bytes = bytes) (hzs : z.cells.size = size) (hsz : 0 < size)
    (v : Value) (n : Nat) (xs : List Value) (hs : a.eval s = v) (hown : w.ownsRow base e size v n xs)
    (ad : Addr) (m c : Nat) (news : List Value) (hx : a.eval x = .slice (some ad) m c) (hl : news.length = m * size) (hnews : ∀ j u, news[j]? = some u → w.cell? (ad.add j) = some u) (h1 : ∀ u ∈ news, u.oneCell' = true)
    (h63 : n + m ≤ maxLen) (hbytes : (n + m) * bytes ≤ 140737488355328) (hbase : base ≤ w.heap.size)
    (h : ∀ v' w', w'.ownsRow base e size v' (n + m) (xs ++ news) → w.grownBy w' v.ownBlock → (v'.ownBlock = v.ownBlock ∨ v'.ownBlock = some w.heap.size) → K (a.put o.dst v') w') :
    if Region.wanted o (yielded ops a.tmps) = true then Oper.wp P o a w K Q else E := by
  have hw : Region.wanted o (yielded ops a.tmps) = true := by simp [Region.wanted, hgd]
  rw [if_pos hw]
  obtain ⟨v', w', hr, h2, h3, -, h5⟩ := run_append_own_at (P := P) w base t o.type e i z size bytes ht hi hz hsize hby hzs hsz v n xs hown ad m c news hl hnews h1 h63 hbytes hbase
  unfold Oper.wp execOp
  simp only [ho, resolve, invoke, builtin, Sem.run_bind, Sem.run_pure, Result.andThen_ok, List.map_toArray, List.map_cons, List.map_nil, hs, hx, hr]
  exact h v' w' h2 h3 h5
end Go.Proofs.YtlpjgaeelnlipaaGreat
namespace Go.Proofs.YtlpjgaeelnlipaaGreat
open Go.RowKit
/-- vm: what the row holds; vr: the rows' values (unlike between an append and its store). -/
structure WS {A : Type} (w1 : World) (T T2 : TypeId) (cs : List A → List Value) (bm n gy : Nat) (ys : List Value) (vm vr : List Value) (xss : List (List A)) (W : World) : Prop where
  more : W.ownsRow w1.heap.size T2 1 (.slice (some ⟨bm, 0, none⟩) n n) n vm
  rows : RowsA W w1.heap.size T cs vr xss
  y : ∀ (i : Nat) (v : Value), ys[i]? = some v → W.cell? ⟨gy, i, none⟩ = some v
  yb : gy ≠ bm ∧ ∀ (j : Nat) (u : Value), vr[j]? = some u → u.ownBlock ≠ some gy
  ylt : gy < W.heap.size
  below : Below w1.heap.size w1 W
section
variable {A : Type} {w1 W W' : World} {T T2 : TypeId} {cs : List A → List Value} {bm n gy : Nat} {ys vm vr : List Value} {xss : List (List A)}
theorem WS.lt (h : WS w1 T T2 cs bm n gy ys vm vr xss W) : w1.heap.size ≤ bm ∧ bm < W.heap.size := h.more.lt bm rfl
theorem WS.alloc (h : WS w1 T T2 cs bm n gy ys vm vr xss W) (o : Obj) : WS w1 T T2 cs bm n gy ys vm vr xss (W.alloc o) :=
  ⟨h.more.alloc o, h.rows.new (World.grownBy_alloc W o none), fun i v hv => (World.grownBy_alloc W o none).cell (h.y i v hv) (by simp), h.yb, by rw [World.size_alloc]; exact Nat.lt_succ_of_lt h.ylt, h.below.alloc h.below.size o⟩
theorem WS.drew (h : WS w1 T T2 cs bm n gy ys vm vr xss W) : WS w1 T T2 cs bm n gy ys vm vr xss W.drew := ⟨h.more, ⟨h.rows.len, h.rows.own, h.rows.apart⟩, h.y, h.yb, h.ylt, h.below.drew⟩
theorem WS.load (h : WS w1 T T2 cs bm n gy ys vm vr xss W) {j : Nat} {u : Value} (hj : j < n) (hu : vm[j]? = some u) : W.cell? ⟨bm, j, none⟩ = some u := by
  rw [h.more.cellAt j (by omega)]; exact hu
theorem WS.frz (h : WS w1 T T2 cs bm n gy ys vm vr xss W) (j : Nat) : W.frozen? ⟨bm, j, none⟩ = false := h.more.frozenAt j
theorem WS.append (h : WS w1 T T2 cs bm n gy ys vm vr xss W) (hT : T ≠ T2) {j : Nat} {u u' : Value} {zs : List A} (hu : vr[j]? = some u) (ho : W'.ownsRow w1.heap.size T 5 u' zs.length (cs zs)) (hg : W.grownBy W' u.ownBlock) (hat : u'.ownBlock = u.ownBlock ∨ u'.ownBlock = some W.heap.size) :
    WS w1 T T2 cs bm n gy ys vm (vr.set j u') (xss.set j zs) W' := by
  obtain ⟨hj, hou⟩ := h.rows.of hu
  refine ⟨cdown_grown (Ne.symm hT) h.more hou hg, h.rows.setAt hu hg ho hat, fun i v hv => hg.cell (h.y i v hv) (fun e => h.yb.2 j u hu e.symm), ⟨h.yb.1, fun i v hv => ?_⟩, Nat.lt_of_lt_of_le h.ylt hg.size, below_append h.below hou (Nat.le_refl _) h.below.size hg⟩
  by_cases e : i = j
  · subst e
    rw [List.getElem?_set_self (List.getElem?_eq_some_iff.1 hu).1] at hv; injection hv with hv; subst hv
    rcases hat with e | e
    · rw [e]; exact h.yb.2 i u hu
    · rw [e]; intro c; injection c with c; have := h.ylt; omega
  · rw [List.getElem?_set_ne (Ne.symm e)] at hv
    exact h.yb.2 i v hv
theorem WS.store (h : WS w1 T T2 cs bm n gy ys vm vr xss W) (hT : T ≠ T2) {j : Nat} {u : Value} (he : vr = vm.set j u) : WS w1 T T2 cs bm n gy ys vr vr xss (W.setCell ⟨bm, j, none⟩ u) := by
  have hg := slgrown_set W bm j u
  refine ⟨by rw [he]; exact (h.more.stored j u).1, h.rows.kept hg (fun i v hv => ?_), fun i v hv => hg.cell (h.y i v hv) (fun e => by injection e with e; exact h.yb.1 e), h.yb, Nat.lt_of_lt_of_le h.ylt hg.size, h.below.setCell (p := ⟨bm, j, none⟩) h.lt.1 u⟩
  obtain ⟨hi, ho⟩ := h.rows.of hv
  have := cdown_apart hT ho h.more
  simpa [Value.ownBlock] using this
theorem WS.row {full : Nat → List A} {pt : List A} {j : Nat} (h : WS w1 T T2 cs bm n gy ys vm vr (rowsAt full pt n j) W) (hj : j < n) :
    ∃ Au cu, vr[j]? = some (.slice Au pt.length cu) ∧ ∀ (gy' : Nat) (ys' vm' : List Value) (W' : World), WS w1 T T2 cs bm n gy' ys' vm' vr (rowsAt full pt n j) W' → W'.ownsRow w1.heap.size T 5 (.slice Au pt.length cu) pt.length (cs pt) := by
  obtain ⟨u, hu, ho⟩ := h.rows.own j (by rw [rowsAt_len]; exact hj)
  rw [rowsAt_at full pt hj] at ho
  obtain ⟨Au, cu, rfl⟩ := own_slice ho
  refine ⟨Au, cu, hu, fun gy' ys' vm' W' h' => ?_⟩
  obtain ⟨hj', ho'⟩ := h'.rows.of hu
  rw [rowsAt_at full pt hj] at ho'
  exact ho'
/-- A new box takes the elder one's place. -/
theorem WS.box (h : WS w1 T T2 cs bm n gy ys vm vr xss W) (zs : List Value) (T' : TypeId) : WS w1 T T2 cs bm n W.heap.size zs vm vr xss (W.alloc (.cells zs.toArray T')) := by
  obtain ⟨h1, h2, -, -, -, h6⟩ := h.alloc (.cells zs.toArray T')
  refine ⟨h1, h2, fun i v hv => ?_, ⟨fun e => ?_, fun j u hu e => ?_⟩, by rw [World.size_alloc]; omega, h6⟩
  · have e := World.news_of_block (heap_alloc_new W (.cells zs.toArray T')) i v (by simpa using hv)
    rw [Addr.add_lit, Nat.zero_add] at e; exact e
  · have := h.lt.2; omega
  · obtain ⟨hj, ho⟩ := h.rows.of hu
    have := (ho.lt _ e).2; omega
end
end Go.Proofs.YtlpjgaeelnlipaaGreat
namespace Go.Proofs.YtlpjgaeelnlipaaGreat
open Go.RowKit Go.Shelf
attribute [local go_sem] Oper.semAt_some
open CodM (St Pg)
open SlM

set_option maxRecDepth 100000 in
set_option maxHeartbeats 2000000 in
theorem chosens_in (F : Fence) (n : Nat) (h46 : F.fn 56) (h44 : F.fn 72) (h62 : F.fn 73) (h34 : F.fn 74) (h59 : F.fn 92) (h35 : F.fn 57) (hro : F.round = none) (hn : 6 ≤ n) {B : Nat} {v vg : Value} {ths : List (List St)} {g : List Int} (w : World)
    (hv : Sss B w v ths) (hg : Ints B w vg g) (hBB : B ≤ w.heap.size) (hl : ths.length ≤ 1000000) (hll : ∀ ss ∈ ths, ss.length ≤ 1000000) (hgl : g.length ≤ 1000000) :
    CallsIn F n Tryz.prog 56 #[v, .func (.func 57) #[] #[], vg] w fun e w' => ∃ b f, e = .returned (.map (some b)) ∧ b < w'.heap.size ∧ w.heap.size ≤ b ∧ MapP w' b (many anyS ths) f ∧ (∀ t k (ht : t < ths.length), k < ths[t].length → f (t : Nat) (k : Nat) = ch anyS ths g t k) ∧ Below w.heap.size w w' := by
  have h1 : 1 ≤ n := by omega
  have hmm := @run_makeMap Tryz.prog
  have HV := Lib.hid hv
  have HLL := Lib.hid hll
  have HG := Lib.hid hg
  have hM : many anyS ths ≤ 1000000000000 := many_le anyS (M := 1000000) (N := 1000000) ths hl hll
  obtain ⟨A, c, rfl, hc1, hc2, -⟩ := hv
  obtain ⟨A', c', rfl, hc1', hc2', -⟩ := hg
  refine callsIn_of_wp_marks Tryz.func56 rfl h46 ?_ hro
  simp only [Tryz.ntmps56, List.size_toArray, List.length_cons, List.length_nil, Nat.reduceAdd, Nat.reduceSub, Array.replicate_succ, Array.replicate_zero, List.push_toArray, List.append_toArray, List.nil_append, List.cons_append]
  gi_wp2_with (first
    | (gi_at_call 72; refine (counts_in F (n - 1) h44 h34 h59 h35 hro (by omega) _ HV.out hBB hl HLL.out).mono ?_; rintro e w1 ⟨rfl, hB1⟩; have hz1 := hB1.size)
    | (gi_at_call 73; refine (keys_in F (n - 1) h62 hro (many anyS ths) _ (HG.out.below (hB1.mono hBB)) (Nat.le_trans hBB hB1.size) hM hgl).mono ?_; rintro e w2 ⟨rfl, hK2, hB2⟩; have hz2 := hB2.size)
    | (gi_at_call 74; refine (alls_in F (n - 1) h34 hro _ _ _ _).mono ?_; rintro e w' ⟨rfl, rfl⟩))
  obtain ⟨M, hMe⟩ : ∃ M, M = many anyS ths := ⟨_, rfl⟩
  obtain ⟨W0, hW0⟩ : ∃ W0, W0 = ((w2.alloc (.map #[] 0)).alloc (.cells #[.map (some w1.heap.size)] 55)).alloc (.cells #[.map (some w2.heap.size)] 96) := ⟨_, rfl⟩
  have hs0 : W0.heap.size = w2.heap.size + 1 + 1 + 1 := by rw [hW0]; simp
  have b7 : Boxed W0 (w2.heap.size + 1) 55 (.map (some w1.heap.size)) := by
    have := (Boxed.new (w2.alloc (.map #[] 0)) 55 (.map (some w1.heap.size))).alloc (.cells #[.map (some w2.heap.size)] 96)
    rw [World.size_alloc] at this; rw [hW0]; exact this
  have b8 : Boxed W0 (w2.heap.size + 1 + 1) 96 (.map (some w2.heap.size)) := by
    have := Boxed.new ((w2.alloc (.map #[] 0)).alloc (.cells #[.map (some w1.heap.size)] 55)) 96 (.map (some w2.heap.size))
    rw [World.size_alloc, World.size_alloc] at this; rw [hW0]; exact this
  have hbk := hK2.lt
  have hI0 : MapI W0 w1.heap.size g.length (keyB g M) := by
    rw [hW0, hMe]
    exact ((hK2.kept (World.grownBy_alloc _ _ none) (by simp)).kept (World.grownBy_alloc _ _ none) (by simp)).kept (World.grownBy_alloc _ _ none) (by simp)
  have hP0 : MapP W0 w2.heap.size 0 (chI g M []) := by
    rw [hW0, chI_nil]
    exact ((MapP.made w2).kept (World.grownBy_alloc _ _ none) (by simp)).kept (World.grownBy_alloc _ _ none) (by simp)
  have hB0 : Below w.heap.size w W0 := by
    rw [hW0]
    exact ((((hB1.trans (hB2.mono hz1)).alloc (by omega) _).alloc (by simp; omega) _).alloc (by simp; omega) _)
  rw [← hW0]
  obtain ⟨bt, bs, hb2⟩ := alls_boxes W0 (.slice A ths.length c) (.func (.func 57) #[] #[]) 23 98
  have b7' := (b7.alloc (.cells #[.slice A ths.length c] 23)).alloc (.cells #[.func (.func 57) #[] #[]] 98)
  have b8' := (b8.alloc (.cells #[.slice A ths.length c] 23)).alloc (.cells #[.func (.func 57) #[] #[]] 98)
  have hI0' := (hI0.kept (World.grownBy_alloc _ (.cells #[.slice A ths.length c] 23) none) (by simp)).kept (World.grownBy_alloc _ (.cells #[.func (.func 57) #[] #[]] 98) none) (by simp)
  have hP0' := (hP0.kept (World.grownBy_alloc _ (.cells #[.slice A ths.length c] 23) none) (by simp)).kept (World.grownBy_alloc _ (.cells #[.func (.func 57) #[] #[]] 98) none) (by simp)
  have hB := hB0.trans (hb2.mono hB0.size)
  clear b7 b8 hW0 hI0 hP0
  rw [← hs0]
  refine wpIn_rangeFunc_ownH hro h1 (gf := 92) (lb := #[.pointer (some ⟨W0.heap.size, 0, none⟩), .pointer (some ⟨W0.heap.size + 1, 0, none⟩)]) rfl h59 (enters_of Tryz.func92 (by kernel_rfl) rfl)
    (alls_stops F (n - 1) h59 h35 hro (by omega) w.heap.size _ _ _ ths _ (by simp; omega) bt bs ((HV.out.more hBB).below hB) hl HLL.out) SlKpS.t (SlKpS.b (by simp; omega)) (Below.refl _ _) (fun _ => rfl)
    (fun pre W => (Boxed W (w2.heap.size + 1) 55 (.map (some w1.heap.size)) ∧ Boxed W (w2.heap.size + 1 + 1) 96 (.map (some w2.heap.size))) ∧ (MapI W w1.heap.size g.length (keyB g M) ∧ MapP W w2.heap.size pre.length (chI g M pre)) ∧ Below w.heap.size w W)
    (fun _ _ _ => False)
    (OwnFrom.and (OwnFrom.and (Own.from (boxed_own _ _ (fun _ : List Sq => .map (some w1.heap.size))) _) (Own.from (boxed_own _ _ (fun _ : List Sq => .map (some w2.heap.size))) _)) (OwnFrom.and (fun s A B row hs hg hr => ⟨hs.1.kept hg (fun e => by have := (hr _ e.symm).1; simp at this; omega), hs.2.kept hg (fun e => by have := (hr _ e.symm).1; simp at this; omega)⟩) (ownFrom_below (Nat.le_refl _) (by simp; omega))))
    (fun _ _ _ _ _ hs _ _ => hs)
    ⟨⟨b7', b8'⟩, ⟨hI0', hP0'⟩, hB⟩
    (fun x a' W => ∃ Bx, w2.heap.size + 1 + 1 < Bx ∧ SlBox2 W Bx 117 (.int .i64 (x.1.t : Int)) (.int .i64 (x.1.k : Int)) ∧ a' = { tmps := #[.slice A ths.length c, .func (.func 57) #[] #[], .slice A' g.length c', undef, undef, undef, .map none, .pointer (some ⟨w2.heap.size + 1, 0, none⟩), .pointer (some ⟨w2.heap.size + 1 + 1, 0, none⟩), .int .i64 (x.1.n : Int), .pointer (some ⟨Bx, 0, none⟩), .slice A' g.length c', .slice A ths.length c, .func (.func 57) #[] #[], .int .i64 (many anyS ths : Nat), .map (some w1.heap.size), .map (some w2.heap.size), .slice A ths.length c, .func (.func 57) #[] #[], .func (.func 92) #[] #[.pointer (some ⟨W0.heap.size, 0, none⟩), .pointer (some ⟨W0.heap.size + 1, 0, none⟩)], .int .i64 (x.1.n : Int), .agg #[.int .i64 (x.1.t : Int), .int .i64 (x.1.k : Int)], undef, undef, undef, undef, undef, undef], defers := [] })
    (fun x a' s A B row hs hg hr => by obtain ⟨Bx, h1, h2, h3⟩ := hs; exact ⟨Bx, h1, (slbox2_own (β := Unit) Bx _ _ _) () A B row h2 hg (fun r e => (hr r e).2), h3⟩)
    ?assign ?body ?done ?stop
  case assign =>
    rintro l pre x W K ⟨⟨h1, h2⟩, ⟨h3, h4⟩, hB⟩ hK
    dsimp only [encs]
    gi_wp2
    exact hK _ _ ((KeepsOthers.alloc _ _).from _) (SlKpS.grown hB.size (World.grownBy_alloc _ _ none) (fun r e => by cases e)) ⟨⟨h1.alloc _, h2.alloc _⟩, ⟨h3.kept (World.grownBy_alloc _ _ none) (by simp), h4.kept (World.grownBy_alloc _ _ none) (by simp)⟩, hB.alloc hB.size _⟩ ⟨W.heap.size, h2.lt, SlBox2.new W _ _ _, by simp⟩
  case body =>
    rintro l pre x a' W hll ⟨r, hr⟩ ⟨⟨h1, h2⟩, ⟨h3, h4⟩, hB⟩ ⟨Bx, hBx, hx, rfl⟩ hlt
    have c1 := h1.cell
    have c2 := h2.cell
    have x0 := hx.cell0
    have x1 := hx.cell1
    have wn := wf_small x.2.1
    have wt := wf_small x.2.2.1
    have wk := wf_small x.2.2.2
    have hlt' : pre.length < maxLen := by unfold maxLen; omega
    cases hkb : keyB g M (x.1.n : Int)
    · have hno := chI_no (pre := pre) hkb
      gi_wp2_with (gi_at_lookup; refine in_mapI _ rfl _ _ rfl w1.heap.size g.length _ rfl h3 (x.1.n : Int) rfl wn ?_; rw [hkb])
      exact ⟨KeepsFrom.refl _ _, ⟨Below.refl _ _, fun _ h _ => h⟩, ⟨h1, h2⟩, ⟨h3, by rw [← hno]; exact h4.mono (by simp)⟩, hB⟩
    · have hyes := chI_yes (pre := pre) hkb
      gi_wp2_with (first
        | (gi_at_lookup; refine in_mapI _ rfl _ _ rfl w1.heap.size g.length _ rfl h3 (x.1.n : Int) rfl wn ?_; rw [hkb])
        | (gi_at_mapUpdate; refine in_putP _ rfl _ _ _ rfl w2.heap.size pre.length _ rfl h4 hlt' (x.1.t : Int) (x.1.k : Int) rfl rfl wt wk ?_; intro w3 hP3 hg3))
      exact ⟨KeepsFrom.of_grownBy hg3 (fun j e => by cases e; simp; omega), SlKpS.grown hB.size hg3 (fun r e => by cases e; exact ⟨by omega, by omega⟩), ⟨h1.kept hg3 (fun e => by injection e with e; omega), h2.kept hg3 (fun e => by injection e with e; omega)⟩, ⟨h3.kept hg3 (fun e => by injection e with e; omega), by rw [← hyes, List.length_append]; exact hP3⟩, hB.grown hg3 hB.size (fun r e => by cases e; omega)⟩
  case done =>
    rintro D ys W hD hys ⟨⟨h1, h2⟩, ⟨h3, h4⟩, hB⟩ hK
    have c2 := h2.cell
    have hbp := h4.lt
    have hDs : W0.heap.size ≤ D := by simp at hD; omega
    gi_wp2
    refine ⟨by simp, .inl ⟨_, _, rfl, run_takeDeferred hK, ?_⟩⟩
    refine ⟨_, results_tmp rfl _ _ _, w2.heap.size, chI g M ys, rfl, ?_, by omega, ?_, ?_, ?_⟩
    · exact Nat.lt_of_lt_of_le hbp (grownBy_putObj' W D (.deferred none)).size
    · have := h4.kept (grownBy_putObj' W D (.deferred none)) (fun e => by injection e with e; omega)
      rw [sq_len hys, pls_len] at this; exact this
    · intro t k ht hk
      rw [hMe]; exact chI_end anyS ths g hys ht hk
    · exact hB.trans (belowK_b (w := w) (Nat.le_refl _) W D _ _ (by omega) hK rfl rfl)
  case stop =>
    rintro D cc pre W _ _ h _
    exact h.elim
end Go.Proofs.YtlpjgaeelnlipaaGreat
namespace Go.Proofs.YtlpjgaeelnlipaaGreat
open Go.RowKit
open CodM (St Pg rightP)
open ScM

theorem allocs_cell : ∀ (l : List Obj) (w : World) (j : Nat) (cs : Array Value) (T : TypeId) (i : Nat) (v : Value), l[j]? = some (.cells cs T) → cs[i]? = some v →
    (l.foldl World.alloc w).cell? ⟨w.heap.size + j, i, none⟩ = some v ∧ (l.foldl World.alloc w).frozen? ⟨w.heap.size + j, i, none⟩ = false
  | [], w, j, cs, T, i, v, h, _ => by simp at h
  | o :: r, w, 0, cs, T, i, v, h, hi => by
    obtain rfl : o = .cells cs T := by simpa using h
    have hb : ∀ (r : List Obj) (W : World), Below W.heap.size W (r.foldl World.alloc W) := by
      intro r
      induction r with
      | nil => exact fun W => Below.refl _ _
      | cons o r ih => exact fun W => (below_al (Below.refl W.heap.size W) o).trans ((ih _).mono (by simp))
    exact kept_box (hb r _) i hi
  | o :: r, w, j + 1, cs, T, i, v, h, hi => by
    have := allocs_cell r (w.alloc o) j cs T i v (by simpa using h) hi
    rw [World.size_alloc, show w.heap.size + 1 + j = w.heap.size + (j + 1) by omega] at this
    exact this
def bufP : Pg := ⟨[0, 0], [[⟨4, 0, 0, 1, 0⟩, ⟨2, 0, 1, 0, 0⟩], [⟨4, 0, 1, 1, 0⟩, ⟨2, 0, 0, 0, 0⟩]]⟩
theorem buf_rp : rightP bufP = true := by kernel_rfl
theorem sts_lit {B b : Nat} {W : World} {ss : List St} (hb : b < B) (hn : ss.length ≤ 1000) (h : ∀ j (hj : j < ss.length), StAt W b (j * 5) ss[j]) : Sts B W (.slice (some ⟨b, 0, none⟩) ss.length ss.length) ss :=
  ⟨_, ss.length, rfl, Nat.le_refl _, by unfold maxLen; omega, fun _ => ⟨b, 0, rfl, hb, fun j hj => by rw [Nat.zero_add]; exact h j hj⟩⟩
theorem sss_lit {B b : Nat} {W : World} {ts : List (List St)} (hb : b < B) (hn : ts.length ≤ 1000) (h : ∀ j (hj : j < ts.length), SsAt B W b j ts[j]) : Sss B W (.slice (some ⟨b, 0, none⟩) ts.length ts.length) ts :=
  ⟨_, ts.length, rfl, Nat.le_refl _, by unfold maxLen; omega, fun _ => ⟨b, 0, rfl, hb, fun j hj => by rw [Nat.zero_add]; exact h j hj⟩⟩
theorem ints_lit {B b : Nat} {W : World} {ns : List Int} (hb : b < B) (hn : ns.length ≤ 1000) (h : ∀ j (hj : j < ns.length), IntAt W b j ns[j]) : Ints B W (.slice (some ⟨b, 0, none⟩) ns.length ns.length) ns :=
  ⟨_, ns.length, rfl, Nat.le_refl _, by unfold maxLen; omega, fun _ => ⟨b, 0, rfl, hb, fun j hj => by rw [Nat.zero_add]; exact h j hj⟩⟩
set_option maxHeartbeats 8000000 in
set_option maxRecDepth 100000 in
theorem buf7_any (w : World) : Calls Tryz.prog 22 #[] w fun e w' => ∃ vi vt, e = .returned (.agg #[vi, vt]) ∧ PgM w'.heap.size w' vi vt bufP ∧ NilZ vi ∧ Below w.heap.size w w' := by
  have hz : Tryz.prog.cellsOf 25 = 2 := by kernel_rfl
  go_enter Tryz.func22, Tryz.ntmps22
  go_wp2
  have hB := (below_al (below_al (below_al (below_al (below_al (Below.refl w.heap.size w) (.cells #[.slice (some ⟨w.heap.size + 1, 0, none⟩) 2 2, .slice (some ⟨w.heap.size + 1 + 1 + 1 + 1, 0, none⟩) 2 2] 25)) (.cells #[.int .i64 0, .int .i64 0] 3)) (.cells #[.int .i64 4, .int .i64 0, .int .i64 0, .int .i64 1, .int .i64 0, .int .i64 2, .int .i64 0, .int .i64 1, .int .i64 0, .int .i64 0] 75)) (.cells #[.int .i64 4, .int .i64 0, .int .i64 1, .int .i64 1, .int .i64 0, .int .i64 2, .int .i64 0, .int .i64 0, .int .i64 0, .int .i64 0] 75)) (.cells #[.slice (some ⟨w.heap.size + 1 + 1, 0, none⟩) 2 2, .slice (some ⟨w.heap.size + 1 + 1 + 1, 0, none⟩) 2 2] 73))
  have HC : ∀ (j i : Nat) (cs : Array Value) (T : TypeId) (v : Value), ([.cells #[.slice (some ⟨w.heap.size + 1, 0, none⟩) 2 2, .slice (some ⟨w.heap.size + 1 + 1 + 1 + 1, 0, none⟩) 2 2] 25, .cells #[.int .i64 0, .int .i64 0] 3, .cells #[.int .i64 4, .int .i64 0, .int .i64 0, .int .i64 1, .int .i64 0, .int .i64 2, .int .i64 0, .int .i64 1, .int .i64 0, .int .i64 0] 75, .cells #[.int .i64 4, .int .i64 0, .int .i64 1, .int .i64 1, .int .i64 0, .int .i64 2, .int .i64 0, .int .i64 0, .int .i64 0, .int .i64 0] 75, .cells #[.slice (some ⟨w.heap.size + 1 + 1, 0, none⟩) 2 2, .slice (some ⟨w.heap.size + 1 + 1 + 1, 0, none⟩) 2 2] 73] : List Obj)[j]? = some (.cells cs T) → cs[i]? = some v → ((World.alloc (World.alloc (World.alloc (World.alloc (World.alloc w (.cells #[.slice (some ⟨w.heap.size + 1, 0, none⟩) 2 2, .slice (some ⟨w.heap.size + 1 + 1 + 1 + 1, 0, none⟩) 2 2] 25)) (.cells #[.int .i64 0, .int .i64 0] 3)) (.cells #[.int .i64 4, .int .i64 0, .int .i64 0, .int .i64 1, .int .i64 0, .int .i64 2, .int .i64 0, .int .i64 1, .int .i64 0, .int .i64 0] 75)) (.cells #[.int .i64 4, .int .i64 0, .int .i64 1, .int .i64 1, .int .i64 0, .int .i64 2, .int .i64 0, .int .i64 0, .int .i64 0, .int .i64 0] 75)) (.cells #[.slice (some ⟨w.heap.size + 1 + 1, 0, none⟩) 2 2, .slice (some ⟨w.heap.size + 1 + 1 + 1, 0, none⟩) 2 2] 73))).cell? ⟨w.heap.size + j, i, none⟩ = some v := fun j i cs T v h1 h2 => (allocs_cell [.cells #[.slice (some ⟨w.heap.size + 1, 0, none⟩) 2 2, .slice (some ⟨w.heap.size + 1 + 1 + 1 + 1, 0, none⟩) 2 2] 25, .cells #[.int .i64 0, .int .i64 0] 3, .cells #[.int .i64 4, .int .i64 0, .int .i64 0, .int .i64 1, .int .i64 0, .int .i64 2, .int .i64 0, .int .i64 1, .int .i64 0, .int .i64 0] 75, .cells #[.int .i64 4, .int .i64 0, .int .i64 1, .int .i64 1, .int .i64 0, .int .i64 2, .int .i64 0, .int .i64 0, .int .i64 0, .int .i64 0] 75, .cells #[.slice (some ⟨w.heap.size + 1 + 1, 0, none⟩) 2 2, .slice (some ⟨w.heap.size + 1 + 1 + 1, 0, none⟩) 2 2] 73] w j cs T i v h1 h2).1
  obtain ⟨W, hW⟩ : ∃ W, W = (World.alloc (World.alloc (World.alloc (World.alloc (World.alloc w (.cells #[.slice (some ⟨w.heap.size + 1, 0, none⟩) 2 2, .slice (some ⟨w.heap.size + 1 + 1 + 1 + 1, 0, none⟩) 2 2] 25)) (.cells #[.int .i64 0, .int .i64 0] 3)) (.cells #[.int .i64 4, .int .i64 0, .int .i64 0, .int .i64 1, .int .i64 0, .int .i64 2, .int .i64 0, .int .i64 1, .int .i64 0, .int .i64 0] 75)) (.cells #[.int .i64 4, .int .i64 0, .int .i64 1, .int .i64 1, .int .i64 0, .int .i64 2, .int .i64 0, .int .i64 0, .int .i64 0, .int .i64 0] 75)) (.cells #[.slice (some ⟨w.heap.size + 1 + 1, 0, none⟩) 2 2, .slice (some ⟨w.heap.size + 1 + 1 + 1, 0, none⟩) 2 2] 73)) := ⟨_, rfl⟩
  rw [← hW] at hB HC ⊢
  have hsz : W.heap.size = w.heap.size + 5 := by rw [hW]; simp only [World.size_alloc]
  clear hW
  have c0 : W.cell? ⟨w.heap.size, 0, none⟩ = some (.slice (some ⟨w.heap.size + 1, 0, none⟩) 2 2) := HC 0 0 _ _ _ rfl rfl
  have c1 : W.cell? ⟨w.heap.size, 1, none⟩ = some (.slice (some ⟨w.heap.size + 1 + 1 + 1 + 1, 0, none⟩) 2 2) := HC 0 1 _ _ _ rfl rfl
  refine bodyPost_ret (v := .agg #[.slice (some ⟨w.heap.size + 1, 0, none⟩) 2 2, .slice (some ⟨w.heap.size + 1 + 1 + 1 + 1, 0, none⟩) 2 2]) (by simp [results, Tryz.results22, go_sem, c0, c1, hz]) rfl ⟨_, _, rfl, ⟨?_, ?_⟩, (fun n c e => by cases e), hB⟩
  · refine ints_lit (ns := [0, 0]) (by omega) (by decide) (fun j hj => ?_)
    match j, hj with
    | 0, _ => exact HC 1 0 _ _ _ rfl rfl
    | 1, _ => exact HC 1 1 _ _ _ rfl rfl
  · refine sss_lit (ts := bufP.ths) (by omega) (by decide) (fun j hj => ?_)
    match j, hj with
    | 0, _ =>
      refine ⟨_, HC 4 0 _ _ _ rfl rfl, sts_lit (ss := [⟨4, 0, 0, 1, 0⟩, ⟨2, 0, 1, 0, 0⟩]) (by omega) (by decide) (fun j hj => ?_)⟩
      match j, hj with
      | 0, _ => exact ⟨HC 2 0 _ _ _ rfl rfl, HC 2 1 _ _ _ rfl rfl, HC 2 2 _ _ _ rfl rfl, HC 2 3 _ _ _ rfl rfl, HC 2 4 _ _ _ rfl rfl⟩
      | 1, _ => exact ⟨HC 2 5 _ _ _ rfl rfl, HC 2 6 _ _ _ rfl rfl, HC 2 7 _ _ _ rfl rfl, HC 2 8 _ _ _ rfl rfl, HC 2 9 _ _ _ rfl rfl⟩
    | 1, _ =>
      refine ⟨_, HC 4 1 _ _ _ rfl rfl, sts_lit (ss := [⟨4, 0, 1, 1, 0⟩, ⟨2, 0, 0, 0, 0⟩]) (by omega) (by decide) (fun j hj => ?_)⟩
      match j, hj with
      | 0, _ => exact ⟨HC 3 0 _ _ _ rfl rfl, HC 3 1 _ _ _ rfl rfl, HC 3 2 _ _ _ rfl rfl, HC 3 3 _ _ _ rfl rfl, HC 3 4 _ _ _ rfl rfl⟩
      | 1, _ => exact ⟨HC 3 5 _ _ _ rfl rfl, HC 3 6 _ _ _ rfl rfl, HC 3 7 _ _ _ rfl rfl, HC 3 8 _ _ _ rfl rfl, HC 3 9 _ _ _ rfl rfl⟩
end Go.Proofs.YtlpjgaeelnlipaaGreat
namespace Go.Proofs.YtlpjgaeelnlipaaGreat
open Go.RowKit
open WordM (L)
open VM
open CodM (St Pg rightP)

/-- A code of which something is said. -/
structure SmallC (P : Pg) : Prop where
  s : SmallP P
  r : rightP P = true
  f : ∀ ss ∈ P.ths, ss.length ≤ 40
def SgRet (P : Pg) (w : World) (e : Ending) (w' : World) : Prop := ∃ b, e = .returned (.bool b) ∧ (b = false → SmallC P) ∧ Below w.heap.size w w'
set_option maxHeartbeats 4000000 in
set_option maxRecDepth 100000 in
theorem sgreat_any {B : Nat} {v : Value} {P : Pg} (w : World) (hv : PgV B w v P) (hBB : B ≤ w.heap.size) :
    Calls Tryz.prog 24 #[v] w (SgRet P w) := by
  obtain ⟨pi, pt, rfl, hpm⟩ := hv
  have HPV := Lib.hid (fun W (hW : Below w.heap.size w W) => show PgV W.heap.size W (.agg #[pi, pt]) P from ⟨pi, pt, rfl, (hpm.below (hW.mono hBB)).more (Nat.le_trans hBB hW.size)⟩)
  have HGP := Lib.hid (fun W (hW : Below w.heap.size w W) => pgreat_any W (HPV.out W hW) (Nat.le_refl _))
  have HRt := Lib.hid (fun W (hW : Below w.heap.size w W) => rrightp_any W (HPV.out W hW) (Nat.le_refl _))
  obtain ⟨⟨P0, d0, rfl, -⟩, ⟨P1, d1, rfl, l1, l2, l3⟩⟩ := hpm
  unfold maxLen at l2
  have hB := below_al (Below.refl w.heap.size w) (.cells #[.slice P0 P.init.length d0, .slice P1 P.ths.length d1] 25)
  have HP := Lib.hid (PgBox.at (w := w) rfl (.slice P0 P.init.length d0) (.slice P1 P.ths.length d1) 25)
  obtain ⟨x0, x1⟩ := HP.out
  go_enter Tryz.func24, Tryz.ntmps24
  go_wp2_with fail
  refine (HGP.out _ hB).mono ?_
  rintro e w1 ⟨gb, rfl, hsx, hbb⟩
  replace hB := chain hB hbb
  replace HP := Lib.hid (HP.out.below hbb)
  clear x0 x1 hbb HGP
  obtain ⟨x0, x1⟩ := HP.out
  cases gb
  case true =>
    go_wp2
    go_ret
    exact ⟨true, rfl, fun h => (by cases h), hB⟩
  have HS := Lib.hid (hsx rfl)
  clear hsx
  go_wp2_with fail
  refine (HRt.out _ hB).mono ?_
  rintro e w2 ⟨rfl, hbb⟩
  replace hB := chain hB hbb
  replace HP := Lib.hid (HP.out.below hbb)
  clear x0 x1 hbb HRt
  obtain ⟨x0, x1⟩ := HP.out
  by_cases hq : rightP P = true
  case neg =>
    rw [Bool.not_eq_true] at hq
    rw [hq]
    go_wp2
    go_ret
    exact ⟨true, rfl, fun h => (by cases h), hB⟩
  rw [hq]
  have HQ := Lib.hid hq
  have hl9 : P.ths.length ≤ 9 := HS.out.ths
  clear hq
  go_wp2
  go_loop [3] (fun i => (∃ k : Nat, k ≤ P.ths.length ∧ i = .int .i64 k ∧ ∀ j (hj : j < P.ths.length), j < k → P.ths[j].length ≤ 40)) (fun i => P.ths.length - (intOf i).toNat)
  case atStart => exact ⟨0, Nat.zero_le _, rfl, fun j _ h => absurd h (Nat.not_lt_zero j)⟩
  case round =>
    obtain ⟨k, hk, rfl, hall⟩ := hrel
    have HA := Lib.hid hall
    clear hall
    by_cases hlt : k < P.ths.length
    · obtain ⟨b1, f1, rfl, hb1, hcl⟩ := l3 (by omega)
      obtain ⟨u, z0, hS⟩ := (hcl k hlt).below (hB.mono hBB) hb1
      have HY := Lib.hid (fun (h : P.ths[k].length ≤ 40) (j : Nat) (hj : j < P.ths.length) (hjk : j < k + 1) => show P.ths[j].length ≤ 40 by
        by_cases e : j = k
        · subst e; exact h
        · exact HA.out j hj (by omega))
      have h300 := HS.out.steps _ (List.getElem_mem hlt)
      obtain ⟨ss, hx⟩ : ∃ x, x = P.ths[k] := ⟨_, rfl⟩
      rw [← hx] at hS HY h300
      obtain ⟨A3, c3, rfl, -⟩ := hS
      clear hx hcl l3 HA
      by_cases hs : 40 < ss.length
      · have q3 : decide (40 < ss.length) = true := decide_eq_true hs
        go_wp2
        go_ret
        exact ⟨true, rfl, fun h => (by cases h), hB⟩
      · have q3 : decide (40 < ss.length) = false := decide_eq_false hs
        go_wp2
        go_round
        case rel => exact ⟨k + 1, by omega, by go_num, HY.out (by omega)⟩
        case measure => simp [intOf]; omega
    · obtain rfl : P.ths.length = k := by omega
      have HC := Lib.hid (show SmallC P from ⟨HS.out, HQ.out, fun ss hs => by
        obtain ⟨j, hj, rfl⟩ := List.mem_iff_getElem.1 hs
        exact HA.out j hj hj⟩)
      clear l3
      go_wp2
      go_ret
      exact ⟨false, rfl, fun _ => HC.out, hB⟩
end Go.Proofs.YtlpjgaeelnlipaaGreat
namespace Go.Proofs.YtlpjgaeelnlipaaGreat
open Go.RowKit
open WordM (L)
open CodM (St Pg hasS)
open SlM

set_option maxHeartbeats 4000000 in
theorem rhas_any {B : Nat} {v : Value} {g : List Int} (n : Int) (w : World) (hg : Ints B w v g) (hBB : B ≤ w.heap.size) :
    Calls Tryz.prog 39 #[v, .int .i64 n] w fun e w' => e = .returned (.bool (has g n)) ∧ w = w' := by
  obtain ⟨A1, c1, rfl, h1, h2, h3⟩ := hg
  unfold maxLen at h2
  go_enter Tryz.func39, Tryz.ntmps39
  go_wp2
  go_loop [5] (fun i => (∃ k : Nat, k ≤ g.length ∧ i = .int .i64 k ∧ has (g.take k) n = false)) (fun i => g.length - (intOf i).toNat)
  case atStart => exact ⟨0, Nat.zero_le _, rfl, rfl⟩
  case round =>
    obtain ⟨k, hk, rfl, hm⟩ := hrel
    have HM := Lib.hid hm
    clear hm
    by_cases hlt : k < g.length
    · obtain ⟨b1, f1, rfl, hb1, hcl⟩ := h3 (by omega)
      have z0 := hcl k hlt
      unfold IntAt at z0
      have HT := Lib.hid (has_take g k hlt n)
      rw [HM.out] at HT
      have HY := Lib.hid (fun (e : g[k] = n) => show has g n = true from (has_mem g n).2 (e ▸ List.getElem_mem hlt))
      obtain ⟨x, hx⟩ : ∃ x, x = g[k] := ⟨_, rfl⟩
      rw [← hx] at z0 HT HY
      clear hx hcl h3
      by_cases he : x = n
      · have HE := Lib.hid (HY.out he)
        subst he
        clear HY HT
        go_wp2
        go_ret
        exact ⟨by rw [HE.out]; rfl, rfl⟩
      · have q : (x == n) = false := beq_eq_false_iff_ne.2 he
        have HE := Lib.hid (show has (g.take (k + 1)) n = false by rw [HT.out, q]; rfl)
        clear HY HT
        go_wp2
        go_round
        case rel => exact ⟨k + 1, by omega, by go_num, HE.out⟩
        case measure => simp [intOf]; omega
    · obtain rfl : g.length = k := by omega
      rw [List.take_length] at HM
      clear h3
      go_wp2
      go_ret
      exact ⟨by rw [HM.out]; rfl, rfl⟩
set_option maxHeartbeats 4000000 in
theorem rcount_any {B : Nat} {v : Value} {g : List Int} (fr m : Nat) (w : World) (hg : Ints B w v g) (hBB : B ≤ w.heap.size) (hf : fr ≤ 1000000) (hm : m ≤ 1000000) :
    Calls Tryz.prog 40 #[v, .int .i64 fr, .int .i64 m] w fun e w' => e = .returned (.int .i64 (cntC (fun i => has g ((fr + i : Nat) : Int)) m : Nat)) ∧ w = w' := by
  have HH := Lib.hid (fun n => rhas_any n w hg hBB)
  obtain ⟨f, hf'⟩ : ∃ f : Nat → Bool, f = fun i => has g ((fr + i : Nat) : Int) := ⟨_, rfl⟩
  have HF := Lib.hid (fun k => show has g ((fr + k : Nat) : Int) = f k from by rw [hf'])
  rw [← hf']
  clear hf'
  obtain ⟨A1, c1, rfl, h1, h2, h3⟩ := hg
  clear h3
  go_enter Tryz.func40, Tryz.ntmps40
  go_wp2
  go_loop [7, 8] (fun n i => (∃ k q : Nat, k ≤ m ∧ i = .int .i64 k ∧ q = cntC f k ∧ q ≤ k ∧ n = .int .i64 q)) (fun _ i => m - (intOf i).toNat)
  case atStart => exact ⟨0, 0, Nat.zero_le _, rfl, rfl, Nat.le_refl _, rfl⟩
  case round =>
    obtain ⟨k, q, hk, rfl, hq, hqk, rfl⟩ := hrel
    have HQ := Lib.hid hq
    clear hq
    by_cases hlt : k < m
    · have HN := Lib.hid (show cntC f (k + 1) = q + if f k then 1 else 0 from by rw [cntC, ← HQ.out])
      have HHk := Lib.hid (HH.out ((fr + k : Nat) : Int))
      rw [HF.out k] at HHk
      cases hb : f k
      · rw [hb] at HN HHk
        have HE := Lib.hid (show q = cntC f (k + 1) from by rw [HN.out]; rfl)
        clear hb HN
        go_wp2_with fail
        refine HHk.out.mono ?_
        rintro e w1 ⟨rfl, rfl⟩
        go_wp2
        go_round
        case rel => exact ⟨k + 1, q, by omega, by go_num, HE.out, by omega, rfl⟩
        case measure => simp [intOf]; omega
      · rw [hb] at HN HHk
        have HE := Lib.hid (show q + 1 = cntC f (k + 1) from by rw [HN.out]; rfl)
        clear hb HN
        go_wp2_with fail
        refine HHk.out.mono ?_
        rintro e w1 ⟨rfl, rfl⟩
        go_wp2
        go_round
        case rel => exact ⟨k + 1, q + 1, by omega, by go_num, HE.out, by omega, by go_num⟩
        case measure => simp [intOf]; omega
    · obtain rfl : m = k := by omega
      clear HH
      go_wp2
      go_ret
      exact ⟨ret_int (by rw [HQ.out]), rfl⟩
end Go.Proofs.YtlpjgaeelnlipaaGreat
namespace Go.Proofs.YtlpjgaeelnlipaaGreat
open Go.RowKit
open CodM (St Pg hasS)
open SlM

/-- Have two rows a number in common? -/
def meetB (a g : List Int) : Bool := a.any fun x => has g x
theorem meet_take (a g : List Int) (k : Nat) (h : k < a.length) : meetB (a.take (k + 1)) g = (meetB (a.take k) g || has g a[k]) := by
  unfold meetB; rw [List.take_succ_eq_append_getElem h, List.any_append]; simp
theorem meet_hit {a g : List Int} {k : Nat} (h : k < a.length) (hh : has g a[k] = true) : meetB a g = true := by
  unfold meetB; rw [List.any_eq_true]; exact ⟨_, List.getElem_mem h, hh⟩
set_option maxHeartbeats 4000000 in
theorem rmeet_any {B : Nat} {v u : Value} {a g : List Int} (w : World) (hv : Ints B w v a) (hu : Ints B w u g) (hBB : B ≤ w.heap.size) :
    Calls Tryz.prog 18 #[v, u] w fun e w' => e = .returned (.bool (meetB a g)) ∧ w = w' := by
  have HH := Lib.hid (fun n => rhas_any n w hu hBB)
  obtain ⟨A2, c2, rfl, -, -, -⟩ := hu
  obtain ⟨A1, c1, rfl, h1, h2, h3⟩ := hv
  unfold maxLen at h2
  go_enter Tryz.func18, Tryz.ntmps18
  go_wp2
  go_loop [5] (fun i => (∃ k : Nat, k ≤ a.length ∧ i = .int .i64 k ∧ meetB (a.take k) g = false)) (fun i => a.length - (intOf i).toNat)
  case atStart => exact ⟨0, Nat.zero_le _, rfl, rfl⟩
  case round =>
    obtain ⟨k, hk, rfl, hm⟩ := hrel
    have HM := Lib.hid hm
    clear hm
    by_cases hlt : k < a.length
    · obtain ⟨b1, f1, rfl, hb1, hcl⟩ := h3 (by omega)
      have z0 := hcl k hlt
      unfold IntAt at z0
      have HT := Lib.hid (meet_take a g k hlt)
      have HY := Lib.hid (fun h => meet_hit (g := g) hlt h)
      rw [HM.out] at HT
      obtain ⟨x, hx⟩ : ∃ x, x = a[k] := ⟨_, rfl⟩
      rw [← hx] at z0 HT HY
      have HHk := Lib.hid (HH.out x)
      clear hx hcl h3 HH
      cases hb : has g x
      · rw [hb] at HHk HT
        have HE := Lib.hid (show meetB (a.take (k + 1)) g = false by rw [HT.out]; rfl)
        clear HY HT hb
        go_wp2_with fail
        refine HHk.out.mono ?_
        rintro e w1 ⟨rfl, rfl⟩
        go_wp2
        go_round
        case rel => exact ⟨k + 1, by omega, by go_num, HE.out⟩
        case measure => simp [intOf]; omega
      · rw [hb] at HHk
        have HE := Lib.hid (HY.out hb)
        clear HY HT hb
        go_wp2_with fail
        refine HHk.out.mono ?_
        rintro e w1 ⟨rfl, rfl⟩
        go_wp2
        go_ret
        exact ⟨by rw [HE.out]; rfl, rfl⟩
    · obtain rfl : a.length = k := by omega
      rw [List.take_length] at HM
      clear h3 HH
      go_wp2
      go_ret
      exact ⟨by rw [HM.out]; rfl, rfl⟩
end Go.Proofs.YtlpjgaeelnlipaaGreat
namespace Go.Proofs.YtlpjgaeelnlipaaGreat
open Go.RowKit
open CodM (St Pg hasS)
open SlM

theorem jmpS_op {s : St} (h1 : s.op ≤ 10) : jmpS s = decide (8 ≤ s.op) := by
  unfold jmpS
  by_cases h : 8 ≤ s.op
  · rw [decide_eq_true h]
    have : s.op = 8 ∨ s.op = 9 ∨ s.op = 10 := by omega
    rcases this with e | e | e <;> simp [e]
  · rw [decide_eq_false h]
    simp; omega
/-- What is right of a step. -/
structure StR (len k : Nat) (s : St) : Prop where
  op : 1 ≤ s.op ∧ s.op ≤ 10
  j : jmpS s = decide (8 ≤ s.op)
  t : 8 ≤ s.op → (k : Int) + 1 ≤ s.5 ∧ s.5 ≤ len
  z : ¬ 8 ≤ s.op → s.5 = 0
theorem SmallC.st {P : Pg} (h : SmallC P) {t k : Nat} (ht : t < P.ths.length) (hk : k < P.ths[t].length) : StR P.ths[t].length k P.ths[t][k] := by
  have hr := h.r
  unfold CodM.rightP at hr
  simp only [Bool.and_eq_true, List.all_eq_true] at hr
  have h1 := (CodM.rightT_at (hr.2 _ (List.getElem_mem ht))).2 k hk
  unfold CodM.rightS at h1
  simp only [Bool.and_eq_true, decide_eq_true_eq] at h1
  obtain ⟨⟨h2, h3⟩, -, -, -, h4⟩ := h1
  refine ⟨⟨h2, h3⟩, jmpS_op h3, fun h8 => ?_, fun h8 => ?_⟩
  · unfold CodM.hTo CodM.zOr at h4
    rw [decide_eq_true h8, if_pos rfl] at h4
    simp only [Bool.and_eq_true, decide_eq_true_eq] at h4
    exact h4
  · unfold CodM.hTo CodM.zOr at h4
    rw [decide_eq_false h8] at h4
    simpa using h4
theorem SmallC.jmp {P : Pg} (h : SmallC P) : ∀ ss ∈ P.ths, ∀ s ∈ ss, jmpS s = true → 0 ≤ s.5 ∧ s.5 ≤ 1000000 := by
  intro ss hs s hx hj
  obtain ⟨t, ht, rfl⟩ := List.mem_iff_getElem.1 hs
  obtain ⟨k, hk, rfl⟩ := List.mem_iff_getElem.1 hx
  have h1 := h.st ht hk
  rw [h1.j, decide_eq_true_eq] at hj
  have h2 := h1.t hj
  have h3 := h.f _ (List.getElem_mem ht)
  omega
/-- What a row gone through from behind, down to place k, leaves: those that are no slot's; each twice. -/
structure NoR (g : List Int) (m : Nat) (k : Nat) (os bs : List Int) : Prop where
  kl : k ≤ g.length
  lo : os.length ≤ g.length - k
  lb : bs.length ≤ 2 * (g.length - k)
  o : ∀ x ∈ os, x < 0 ∨ (m : Int) ≤ x
  b : ∀ x, x ∈ bs ↔ x ∈ g.drop k
end Go.Proofs.YtlpjgaeelnlipaaGreat
