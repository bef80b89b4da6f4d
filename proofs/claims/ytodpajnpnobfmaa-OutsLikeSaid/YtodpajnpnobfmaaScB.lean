/-
  ROWS IN MEMORY, of elements of any number of cells: what it says that a slice reads as a row; rows of the call's own; copy over elements of more than one cell. Of no program.
-/
import Derived.Test.YtodpajnpnobfmaaKit
import Derived.Test.YtodpajnpnobfmaaKit2
import Derived.Test.YtodpajnpnobfmaaBox
import Derived.Test.YtodpajnpnobfmaaStrs
import Derived.Test.YtodpajnpnobfmaaLnOwn
import Derived.Test.YtodpajnpnobfmaaAppS
import Derived.Laws.CopyRow
import Derived.Laws.CopyOwn
import Derived.Laws.IdiomCopy
import Derived.Laws.AppendOwnNone
import Derived.Laws.OwnMore
import Derived.Deep.AppendLies
import Derived.Deep.Fields
import Derived.SliceStrings
import Derived.ChangeSame
import Derived.OpenShut
import Derived.WalkKit
import Derived.Maps.AppendAt
import Derived.RangeFuncBox
namespace Go.Proofs.Ytodpajnpnobfmaa
open Go Go.ChangeShapes Go.WideShapes Go.RowKit Go.Deep
set_option linter.unusedVariables false
set_option linter.unusedSimpArgs false

theorem own_nilz {w : World} {base : Nat} {e : TypeId} {size n : Nat} {v : Value} {xs : List Value} (h : w.ownsRow base e size v n xs) : NilZ v := by
  rcases h.2 with ⟨rfl, rfl⟩ | ⟨g, cap, cur, rfl, _⟩
  · intro n c e; injection e with _ _ e; exact e.symm
  · intro n c e; injection e with e; cases e
section
variable {A : Type} {one : A → List Value} {s : Nat}
theorem fl_len (h : ∀ a, (one a).length = s) : ∀ l : List A, (l.flatMap one).length = l.length * s
  | [] => by simp
  | a :: r => by rw [List.flatMap_cons, List.length_append, h a, fl_len h r, List.length_cons, Nat.succ_mul, Nat.add_comm]
theorem fl_at (h : ∀ a, (one a).length = s) : ∀ (l : List A) (j i : Nat) (hj : j < l.length), i < s → (l.flatMap one)[j * s + i]? = (one l[j])[i]?
  | [], j, i, hj, _ => absurd hj (Nat.not_lt_zero j)
  | a :: r, 0, i, hj, hi => by rw [List.flatMap_cons, Nat.zero_mul, Nat.zero_add, List.getElem?_append_left (by rw [h a]; exact hi)]; rfl
  | a :: r, j + 1, i, hj, hi => by
    rw [List.flatMap_cons, List.getElem?_append_right (by rw [h a, Nat.succ_mul]; omega), h a, show (j + 1) * s + i - s = j * s + i by rw [Nat.succ_mul]; omega, fl_at h r j i (by simpa using hj) hi]; rfl
end
theorem fl_drop {A : Type} {one : A → List Value} {s : Nat} (h : ∀ a, (one a).length = s) : ∀ (k : Nat) (l : List A), (l.drop k).flatMap one = (l.flatMap one).drop (k * s)
  | 0, l => by simp
  | k + 1, [] => by simp
  | k + 1, a :: r => by
    have e : (k + 1) * s = (one a).length + k * s := by rw [h a, Nat.succ_mul, Nat.add_comm]
    rw [List.drop_succ_cons, fl_drop h k r, List.flatMap_cons, e, List.drop_append, Nat.add_sub_cancel_left, show (one a).drop ((one a).length + k * s) = [] from List.drop_of_length_le (by omega), List.nil_append]
/-- The value v is a slice in a block below B that reads as the row xs; nil has no room. -/
def Rw {A : Type} (one : A → List Value) (s B : Nat) (w : World) (v : Value) (xs : List A) : Prop :=
  ∃ A c, v = .slice A xs.length c ∧ xs.length ≤ c ∧ c ≤ maxLen ∧ (A = none → xs.length = 0 ∧ c = 0) ∧
    (0 < xs.length → ∃ b f, A = some ⟨b, f, none⟩ ∧ b < B ∧ ∀ j u, (xs.flatMap one)[j]? = some u → w.cell? ⟨b, f + j, none⟩ = some u)
section
variable {A : Type} {one : A → List Value} {s : Nat}
theorem Rw.below {B : Nat} {w w' : World} {v : Value} {xs : List A} (h : Rw one s B w v xs) (hb : Below B w w') : Rw one s B w' v xs := by
  obtain ⟨A, c, e, h1, h2, h0, h3⟩ := h
  refine ⟨A, c, e, h1, h2, h0, fun k => ?_⟩
  obtain ⟨b, f, e2, h4, h5⟩ := h3 k
  exact ⟨b, f, e2, h4, fun j u hu => (hb.cell (p := ⟨b, f + j, none⟩) h4).trans (h5 j u hu)⟩
theorem Rw.more {B B' : Nat} {w : World} {v : Value} {xs : List A} (h : Rw one s B w v xs) (hb : B ≤ B') : Rw one s B' w v xs := by
  obtain ⟨A, c, e, h1, h2, h0, h3⟩ := h
  refine ⟨A, c, e, h1, h2, h0, fun k => ?_⟩
  obtain ⟨b, f, e2, h4, h5⟩ := h3 k
  exact ⟨b, f, e2, by omega, h5⟩
theorem Rw.own {w : World} {base B : Nat} {T : TypeId} {v : Value} {l : List A} (ho : w.ownsRow base T s v l.length (l.flatMap one)) (hB : w.heap.size ≤ B) : Rw one s B w v l := by
  rcases id ho.2 with ⟨rfl, h0⟩ | ⟨g, cap, cur, rfl, hbg, hg, hnc, hcm, hcs, htake⟩
  · exact ⟨none, 0, by rw [h0], by omega, by decide, fun _ => ⟨h0, rfl⟩, fun k => absurd k (by omega)⟩
  · refine ⟨_, cap, rfl, hnc, hcm, fun e => (by cases e), fun _ => ⟨g, 0, rfl, by have := (Array.getElem?_eq_some_iff.1 hg).1; omega, fun j u hu => ?_⟩⟩
    have hj : j < l.length * s := by have := (List.getElem?_eq_some_iff.1 hu).1; rw [ho.1] at this; exact this
    rw [Nat.zero_add, ho.cellAt j hj, hu]
theorem Rw.nilz {B : Nat} {w : World} {v : Value} {xs : List A} (h : Rw one s B w v xs) : NilZ v := by
  obtain ⟨A, c, e, h1, h2, h0, h3⟩ := h
  intro n c' e2
  rw [e] at e2; injection e2 with e3 _ e4
  rw [← e4]; exact (h0 e3).2
theorem Rw.nil (B : Nat) (w : World) : Rw one s B w (.slice none 0 0) [] := ⟨none, 0, rfl, Nat.le_refl _, by decide, fun _ => ⟨rfl, rfl⟩, fun k => absurd k (by simp)⟩
end
theorem wpList_append_rw {P : Program} (w : World) {ops : Array Oper} {rest : List Oper} {o : Oper} {a : Act} {Q : Exit → Act → World → Prop} (hgd : o.guard = none) (s x : Operand) (t : TypeId)
    (ho : o.op = .call { callee := .builtin .append, args := #[s, x], argTypes := #[t, t] })
    (base : Nat) (e : TypeId) (i : TypeInfo) (z : Value) (size bytes : Nat) (ht : P.underlying t = some (.slice e)) (hi : P.info? e = some i) (hz : i.zero = some z)
    (hsize : i.size = size) (hby : i.bytes = bytes) (hzs : z.cells.size = size) (hsz : 0 < size)
    (v : Value) (n : Nat) (xs : List Value) (hs : a.eval s = v) (hown : w.ownsRow base e size v n xs)
    (A : Option Addr) (m c : Nat) (news : List Value) (hx : a.eval x = .slice A m c) (hl : news.length = m * size) (hnil : A = none → m = 0 ∧ c = 0) (hnews : ∀ ad, A = some ad → ∀ j u, news[j]? = some u → w.cell? (ad.add j) = some u) (h1 : ∀ u ∈ news, u.oneCell' = true)
    (h63 : n + m ≤ maxLen) (hbytes : (n + m) * bytes ≤ 140737488355328) (hbase : base ≤ w.heap.size)
    (h : ∀ v' w', w'.ownsRow base e size v' (n + m) (xs ++ news) → w.grownBy w' v.ownBlock → wpList P ops Q rest (a.put o.dst v') w') :
    wpList P ops Q (o :: rest) a w := by
  cases A with
  | some ad => exact wpList_append_own w hgd s x t ho base e i z size bytes ht hi hz hsize hby hzs hsz v n xs hs hown ad m c news hx hl (hnews ad rfl) h1 h63 hbytes hbase (fun v' w' a b _ => h v' w' a b)
  | none =>
    obtain ⟨rfl, rfl⟩ := hnil rfl
    have : news = [] := List.eq_nil_of_length_eq_zero (by rw [hl]; simp)
    subst this
    have hr := run_append_owned_none (P := P) (w := w) base t o.type e i size ht hi v n xs hown
    refine wpList_plain hgd fun K hK => ?_
    unfold Oper.wp execOp
    simp only [ho, resolve, invoke, builtin, Sem.run_bind, Sem.run_pure, Result.andThen_ok, List.map_toArray, List.map_cons, List.map_nil, hs, hx, hr]
    exact hK _ _ (h v w (by simpa using hown) ⟨rfl, rfl, rfl, Nat.le_refl _, fun _ _ _ => rfl⟩)
/-- copy over elements of any size, into the head of a row that is known whole. -/
theorem run_copy_s (P : Program) (w : World) (dT sT ty elem : TypeId) (g dLen dCap : Nat) (A : Option Addr) (sLen sCap s : Nat) (cur : Array Value) (t : TypeId) (cs : List Value)
    (hu : P.underlying dT = some (.slice elem)) (hs : (P.info? elem).map (·.size) = some s)
    (hg : w.heap[g]? = some (.cells cur t (0, 0))) (hn : cs.length = Nat.min sLen dLen * s)
    (hA : A = none → cs = []) (hsrc : ∀ ad, A = some ad → ∀ j v, cs[j]? = some v → w.cell? (ad.add j) = some v) (hfit : cs.length ≤ cur.size) (h1 : ∀ v ∈ cs, v.oneCell' = true) :
    (Builtin.copy_ #[dT, sT] ty #[.slice (some ⟨g, 0, none⟩) dLen dCap, .slice A sLen sCap]).run P w =
      .ok (goInt (Nat.min sLen dLen)) (w.setRow g (cs ++ cur.toList.drop cs.length).toArray) := by
  have hst := run_storeCells_at P g 0 t cs 0 cur w hg (by simpa using hfit) h1
  cases hq : P.info? elem with
  | none => simp [hq] at hs
  | some i =>
    have hi : i.size = s := by simpa [hq] using hs
    cases A with
    | some a =>
      have hl := run_loadCells_list (P := P) w a cs (hsrc a rfl)
      simp [Builtin.copy_, run_underlying hu, Builtin.lenOf, Builtin.firstCells, sizeOf, typeInfo, hq, hi, ← hn, hl, hst]
    | none =>
      obtain rfl := hA rfl
      have hz : 0 = Nat.min sLen dLen * s := by simpa using hn
      simp at hst
      simp [Builtin.copy_, run_underlying hu, Builtin.lenOf, Builtin.firstCells, sizeOf, typeInfo, hq, hi, ← hz, storeCells]
      exact (setRow_self w g cur t (0, 0) hg).symm
theorem wpList_copy_s {P : Program} {w : World} {ops : Array Oper} {rest : List Oper} {o : Oper} {a : Act} {Q : Exit → Act → World → Prop} (hgd : o.guard = none) (d s : Operand) (dT sT : TypeId)
    (ho : o.op = .call { callee := .builtin .copy, args := #[d, s], argTypes := #[dT, sT] }) (elem : TypeId) (hu : P.underlying dT = some (.slice elem)) (sz : Nat) (hsz : (P.info? elem).map (·.size) = some sz)
    (g dLen dCap : Nat) (A : Option Addr) (sLen sCap : Nat) (hd : a.eval d = .slice (some ⟨g, 0, none⟩) dLen dCap) (hs : a.eval s = .slice A sLen sCap)
    (cur : Array Value) (t : TypeId) (hg : w.heap[g]? = some (.cells cur t (0, 0))) (cs : List Value) (hn : cs.length = Nat.min sLen dLen * sz)
    (hA : A = none → cs = []) (hsrc : ∀ ad, A = some ad → ∀ j v, cs[j]? = some v → w.cell? (ad.add j) = some v) (hfit : cs.length ≤ cur.size) (h1 : ∀ v ∈ cs, v.oneCell' = true)
    (h : wpList P ops Q rest (a.put o.dst (goInt (Nat.min sLen dLen))) (w.setRow g (cs ++ cur.toList.drop cs.length).toArray)) : wpList P ops Q (o :: rest) a w := by
  refine wpList_plain hgd fun K hK => ?_
  have hrun := run_copy_s P w dT sT o.type elem g dLen dCap A sLen sCap sz cur t cs hu hsz hg hn hA hsrc hfit h1
  unfold Oper.wp
  simp [execOp, ho, resolve, invoke, builtin, hd, hs, hrun, Result.andThen]
  exact hK _ _ h
end Go.Proofs.Ytodpajnpnobfmaa
