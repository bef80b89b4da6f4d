/-
  MATHEMATICS OF LAYER 8: a row of steps with fences, step by step.
-/
import Derived.Test.YtaelfjphgdlbcaaSlQ
namespace Go.Proofs.Ytaelfjphgdlbcaa
open Go.RowKit
set_option linter.unusedVariables false
set_option linter.unusedSimpArgs false
open CodM (St Pg hasS)
open SlM

/-- What is known of a thread's steps ss with fences, a row R: c tells which are fenced, b where each begins. -/
structure RwF (ss R : List St) (c : Nat → Bool) (b : Nat → Nat) : Prop where
  z : b 0 = 0
  nx : ∀ i, b (i + 1) = b i + (if c i then 1 else 0) + 1
  le : ∀ i, b i ≤ 2 * i
  len : R.length = b ss.length
  fen : ∀ i, i < ss.length → c i = true → ∃ h : b i < R.length, R[b i] = fenS
  own : ∀ i (hi : i < ss.length), ∃ h : b (i + 1) - 1 < R.length, ¬ 8 ≤ (ss[i]).op → R[b (i + 1) - 1] = ss[i]
  jmp : ∀ i (hi : i < ss.length), 8 ≤ (ss[i]).op → ∃ (h : b (i + 1) - 1 < R.length) (tn : Nat), ss[i].5 = (tn : Int) ∧ tn ≤ ss.length ∧ R[b (i + 1) - 1] = ⟨ss[i].op, ss[i].reg, ss[i].loc, ss[i].n, (b tn : Nat)⟩
theorem rw_of {P : Pg} (hs : SmallC P) (g : List Int) {t : Nat} (ht : t < P.ths.length) :
    RwF P.ths[t] ((insP P g).ths[t]'(by rw [insP_len]; exact ht)) (ch anyS P.ths g t) (bg (ch anyS P.ths g t)) := by
  have hrow := insP_row g ht
  have hlen : ((insP P g).ths[t]'(by rw [insP_len]; exact ht)).length = bg (ch anyS P.ths g t) P.ths[t].length := by
    rw [hrow, List.length_map, wthN_bg _ _ _ _ (Nat.le_refl _)]
  have hget : ∀ (k : Nat) (s : St), (wthN (ch anyS P.ths g t) fenS P.ths[t] P.ths[t].length)[k]? = some s → ∃ h : k < ((insP P g).ths[t]'(by rw [insP_len]; exact ht)).length, ((insP P g).ths[t]'(by rw [insP_len]; exact ht))[k] = mv (ch anyS P.ths g t) P.ths[t].length s := by
    intro k s h
    obtain ⟨hk, hk2⟩ := List.getElem?_eq_some_iff.1 h
    have hk3 : k < ((insP P g).ths[t]'(by rw [insP_len]; exact ht)).length := by rw [hrow, List.length_map]; exact hk
    refine ⟨hk3, ?_⟩
    have : ((insP P g).ths[t]'(by rw [insP_len]; exact ht))[k]? = some (mv (ch anyS P.ths g t) P.ths[t].length s) := by
      rw [hrow, List.getElem?_map, h]; rfl
    rw [List.getElem?_eq_getElem hk3] at this
    exact Option.some.inj this
  refine ⟨rfl, bg_next _, fun i => by unfold bg; have := cntC_le (ch anyS P.ths g t) i; omega, hlen, fun i hi hc => ?_, fun i hi => ?_, fun i hi h8 => ?_⟩
  · obtain ⟨h1, h2⟩ := hget _ _ (wthN_fen (ch anyS P.ths g t) fenS P.ths[t] hi (Nat.le_refl _) hc)
    exact ⟨h1, h2.trans (mv_fen _ _)⟩
  · obtain ⟨h1, h2⟩ := hget _ _ (wthN_own (ch anyS P.ths g t) fenS P.ths[t] hi (Nat.le_refl _))
    refine ⟨h1, fun h8 => ?_⟩
    rw [h2]
    have hst := hs.st ht hi
    unfold mv
    rw [hst.j, decide_eq_false h8]; rfl
  · obtain ⟨h1, h2⟩ := hget _ _ (wthN_own (ch anyS P.ths g t) fenS P.ths[t] hi (Nat.le_refl _))
    have hst := hs.st ht hi
    have h9 := hst.t h8
    refine ⟨h1, (P.ths[t][i].5).toNat, by omega, by omega, ?_⟩
    rw [h2]
    unfold mv land
    rw [hst.j, decide_eq_true h8, if_pos rfl]
    have e1 : (min (P.ths[t][i].5) (P.ths[t].length : Int)).toNat = (P.ths[t][i].5).toNat := by omega
    rw [e1]
    unfold bg
    congr 1
    omega
theorem ch_has {P : Pg} (g : List Int) {t k : Nat} (ht : t < P.ths.length) (hk : k < P.ths[t].length) : ch anyS P.ths g t k = has g ((ahd anyS P.ths t + k : Nat) : Int) := by
  unfold ch
  rw [isS_any P.ths ht hk, sl_any P.ths ht (by omega)]; rfl
/-- Where steps begin, as far as place k. -/
def bgs (b : Nat → Nat) (k : Nat) : List Int := (List.range k).map (fun j => ((b j : Nat) : Int))
theorem bgs_len (b : Nat → Nat) (k : Nat) : (bgs b k).length = k := by unfold bgs; simp
theorem bgs_next (b : Nat → Nat) (k : Nat) : bgs b (k + 1) = bgs b k ++ [((b k : Nat) : Int)] := by unfold bgs; rw [List.range_succ, List.map_append]; rfl
theorem bgs_at (b : Nat → Nat) {k j : Nat} (h : j < k) : (intCs (bgs b k))[j]? = some (.int .i64 (b j : Nat)) := by
  unfold intCs bgs
  rw [List.map_map, List.getElem?_map, List.getElem?_range h]; rfl
end Go.Proofs.Ytaelfjphgdlbcaa
