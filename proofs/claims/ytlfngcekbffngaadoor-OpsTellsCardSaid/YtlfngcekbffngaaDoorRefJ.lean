/-
  THE DOCUMENT's Get: what is known of candidates.
-/
import Derived.Test.YtlfngcekbffngaaDoorRefG
import Derived.Test.YtlfngcekbffngaaDoorRefU
namespace Go.Proofs.YtlfngcekbffngaaDoor
open Go.RowKit
set_option linter.unusedVariables false
set_option linter.unusedSimpArgs false
open WordM (L)

theorem rrightw_any (l : OpsM.Ln) (w : World) (hr : l.reg.length ≤ 100000) (ho : l.loc.length ≤ 100000) (hb : l.label.length ≤ 100000) :
    Calls Tryd.prog 17 #[lnw l] w fun e w' => e = .returned (.bool (OpsM.rightL l)) ∧ Below w.heap.size w w' := rright_any _ _ _ _ _ w (by rw [size_l]; exact hr) (by rw [size_l]; exact ho) (by rw [size_l]; exact hb)
theorem rwordsw_any (l : OpsM.Ln) (w : World) (hn : NumM.inR l.n) (hr : l.reg.length ≤ 100000) (ho : l.loc.length ≤ 100000) (hb : l.label.length ≤ 100000) :
    Calls Tryd.prog 20 #[lnw l] w (RetStrs (OpsM.wordsL l) w) :=
  rlwords_any _ _ _ _ _ w hn (by rw [size_l]; exact hr) (by rw [size_l]; exact ho) (by rw [size_l]; exact hb)
/-- What is known of the words, their candidates, and what comes out. -/
structure GFacts (w : World) (v : Value) (ls : List L) (cs : List OpsM.Ln) (res : OpsM.Ln × Bool) : Prop where
  S : Strs w.heap.size w v ls
  L : ∀ l ∈ cs, l.reg.length ≤ 100000 ∧ l.loc.length ≤ 100000 ∧ l.label.length ≤ 100000
  R : ∀ l ∈ cs, NumM.inR l.n
  F : ∀ k (h : k < cs.length), (∀ j (h : j < cs.length), j < k → OpsM.okL ls cs[j] = false) → OpsM.okL ls cs[k] = true → res = (cs[k], true)
  M : (∀ j (h : j < cs.length), j < cs.length → OpsM.okL ls cs[j] = false) → res = (OpsM.zero, false)
theorem cands_at {w : World} {g : Nat} {cs : List OpsM.Ln} {arr z : Array Value} {t : TypeId} (hg : g = w.heap.size) (ha : arr = (lncs cs).toArray ++ z) : Cands (w.alloc (.cells arr t)) g cs := by
  subst hg; subst ha; exact cands_new w cs z t
theorem cands_drew {w : World} {g : Nat} {cs : List OpsM.Ln} (h : Cands w g cs) : Cands w.drew g cs := h
theorem grel_start {ls : List L} {cs : List OpsM.Ln} {w W : World} {g : Nat} {t : TypeId} (hB : Below (w.heap.size + 1) (w.alloc (.cells #[.int .i64 0, .string ⟨#[]⟩, .string ⟨#[]⟩, .string ⟨#[]⟩, .int .i64 0] t)) W) (hC : Cands W g cs) : GRel ls cs w g (.int .i64 0) W :=
  ⟨0, Nat.zero_le _, rfl, fun j _ h => absurd h (Nat.not_lt_zero j), ((Below.refl _ _).alloc (Nat.le_refl _) _).trans (hB.mono (by omega)), hC, box0_new hB⟩
end Go.Proofs.YtlfngcekbffngaaDoor
