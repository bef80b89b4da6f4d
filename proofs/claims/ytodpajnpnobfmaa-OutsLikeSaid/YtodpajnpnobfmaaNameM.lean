/-
  PLAIN MATHEMATICS OF NAMES: which texts are registers, keys and names. It imports nothing of the program.
-/
import Derived.Test.YtodpajnpnobfmaaWordM
set_option linter.unusedVariables false
set_option linter.unusedSimpArgs false
namespace Go.Proofs.Ytodpajnpnobfmaa.WordM

def letterB (b : UInt8) : Bool := decide (97 ≤ b.toNat) && decide (b.toNat ≤ 122)
def digitB (b : UInt8) : Bool := decide (48 ≤ b.toNat) && decide (b.toNat ≤ 57)
def alnum (b : UInt8) : Bool := letterB b || digitB b
def speltB (l : L) : Bool := decide (l ≠ []) && decide (l.length ≤ 8) && letterB (l.headD 0) && l.all alnum
def regL (n : Nat) : L := match n with | 0 => [101, 97, 120] | 1 => [101, 98, 120] | 2 => [101, 99, 120] | 3 => [101, 100, 120] | _ => []
def regName (n : Int) : L := if 0 ≤ n ∧ n < 4 then regL n.toNat else []
def regNo (l : L) : Int := if l = regL 0 then 0 else if l = regL 1 then 1 else if l = regL 2 then 2 else if l = regL 3 then 3 else -1
def keys : List L := [[120, 56, 54], [105, 110, 105, 116], [116, 104, 114, 101, 97, 100], [109, 111, 118], [120, 99, 104, 103], [109, 102, 101, 110, 99, 101], [99, 109, 112], [106, 109, 112], [106, 101], [106, 110, 101], [101, 120, 105, 115, 116, 115], [102, 111, 114, 97, 108, 108]]
def keyB (l : L) : Bool := decide (l ∈ keys)
def nameB (l : L) : Bool := speltB l && decide (regNo l < 0) && !keyB l

theorem regNo_name (n : Nat) (h : n < 4) : regNo (regL n) = n := by
  match n, h with
  | 0, _ => rfl
  | 1, _ => rfl
  | 2, _ => rfl
  | 3, _ => rfl
theorem regNo_cases (l : L) : (regNo l = -1 ∧ l ≠ regL 0 ∧ l ≠ regL 1 ∧ l ≠ regL 2 ∧ l ≠ regL 3) ∨ ∃ n, n < 4 ∧ l = regL n ∧ regNo l = n := by
  by_cases h0 : l = regL 0
  · exact .inr ⟨0, by omega, h0, by rw [h0]; rfl⟩
  by_cases h1 : l = regL 1
  · exact .inr ⟨1, by omega, h1, by rw [h1]; rfl⟩
  by_cases h2 : l = regL 2
  · exact .inr ⟨2, by omega, h2, by rw [h2]; rfl⟩
  by_cases h3 : l = regL 3
  · exact .inr ⟨3, by omega, h3, by rw [h3]; rfl⟩
  exact .inl ⟨by simp [regNo, h0, h1, h2, h3], h0, h1, h2, h3⟩
theorem speltB_at (l : L) (k : Nat) (hk : k < l.length) (h : alnum l[k] = false) : speltB l = false := by
  unfold speltB
  have : l.all alnum = false := by
    rw [Bool.eq_false_iff]
    intro e
    rw [List.all_eq_true] at e
    rw [e _ (List.getElem_mem hk)] at h
    cases h
  rw [this]; simp
theorem speltB_head (l : L) (h : letterB (l.headD 0) = false) : speltB l = false := by unfold speltB; rw [h]; simp
theorem speltB_nil : speltB [] = false := rfl
theorem speltB_long (l : L) (h : 8 < l.length) : speltB l = false := by
  unfold speltB
  have : decide (l.length ≤ 8) = false := decide_eq_false (by omega)
  rw [this]; simp
theorem speltB_yes (l : L) (h0 : l ≠ []) (h8 : l.length ≤ 8) (hh : letterB (l.headD 0) = true) (ha : ∀ k (hk : k < l.length), alnum l[k] = true) : speltB l = true := by
  unfold speltB
  rw [decide_eq_true h0, decide_eq_true h8, hh]
  simp only [Bool.true_and]
  rw [List.all_eq_true]
  intro x hx
  obtain ⟨k, hk, rfl⟩ := List.mem_iff_getElem.1 hx
  exact ha k hk
theorem speltB_iff (l : L) : speltB l = true ↔ (l ≠ [] ∧ l.length ≤ 8 ∧ letterB (l.headD 0) = true ∧ ∀ k (hk : k < l.length), alnum l[k] = true) := by
  constructor
  · intro h
    unfold speltB at h
    simp only [Bool.and_eq_true, decide_eq_true_eq, List.all_eq_true] at h
    exact ⟨h.1.1.1, h.1.1.2, h.1.2, fun k hk => h.2 _ (List.getElem_mem hk)⟩
  · intro ⟨a, b, c, d⟩
    exact speltB_yes l a b c d
end Go.Proofs.Ytodpajnpnobfmaa.WordM
