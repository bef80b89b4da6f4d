/-
  THE DOCUMENT's ahead, At, Line, place of layer 7.
  A STEP IS ITS LINE's, as mathematics.
  THE DOCUMENT's small tests of layer 4: whether a line is an instruction, a jump; how often a label stands in some lines.
  the document's names and registers, over any world.
  THE DOCUMENT's OWN ANSWER TO WHICH LINES ARE RIGHT, over any world.
-/
import Derived.Test.YtaelfjphgdlbcaaM04
import Derived.Test.YtaelfjphgdlbcaaK27
import Derived.Test.YtaelfjphgdlbcaaM02
import Derived.Test.YtaelfjphgdlbcaaM01
namespace Go.Proofs.Ytaelfjphgdlbcaa
open Go.RowKit
set_option linter.unusedVariables false
set_option linter.unusedSimpArgs false
open WordM (L)
open VM
open CodM (St Pg hasS cnt atI lineI lnP pos0 locN)

set_option maxHeartbeats 4000000 in
theorem rahead_any {B : Nat} {v : Value} {ls : List OpsM.Ln} (w : World) (h : Lns B w v ls) (hBB : B ≤ w.heap.size) :
    Calls Try.prog 72 #[v] w fun e w' => e = .returned (.int .i64 (cnt ls : Nat)) ∧ w = w' := by
  obtain ⟨A1, c1, rfl, h1, h2, h3⟩ := h
  unfold maxLen at h2
  go_enter Try.func72, Try.ntmps72
  go_wp2
  go_loop [3, 4] (fun n i => (∃ k m : Nat, k ≤ ls.length ∧ i = .int .i64 k ∧ m = cnt (ls.take k) ∧ m ≤ k ∧ n = .int .i64 m)) (fun _ i => ls.length - (intOf i).toNat)
  case atStart => exact ⟨0, 0, Nat.zero_le _, rfl, rfl, Nat.le_refl _, rfl⟩
  case round =>
    obtain ⟨k, m, hk, rfl, hm, hmk, rfl⟩ := hrel
    have HM := Lib.hid hm
    clear hm
    by_cases hlt : k < ls.length
    · obtain ⟨b1, f1, rfl, hb1, hcl⟩ := h3 (by omega)
      obtain ⟨z0, z1, z2, z3, z4⟩ := hcl k hlt
      have HTS := Lib.hid (CodM.cnt_take ls k hlt)
      obtain ⟨x, hx⟩ : ∃ x, x = ls[k] := ⟨_, rfl⟩
      rw [← hx] at z0 z1 z2 z3 z4 HTS
      clear hx hcl h3
      by_cases ho : x.op = 11
      · have q : (x.op != 11) = false := by simp [ho]
        have HE := Lib.hid (show cnt (ls.take (k + 1)) = m by rw [HTS.out, HM.out, show hasS x = false by unfold CodM.hasS; simp [ho]]; rfl)
        clear ho HTS
        go_wp2
        go_round
        case rel => exact ⟨k + 1, m, by omega, by go_num, HE.out.symm, by omega, rfl⟩
        case measure => simp [intOf]; omega
      · have q : (x.op != 11) = true := by simpa using ho
        have HE := Lib.hid (show cnt (ls.take (k + 1)) = m + 1 by rw [HTS.out, HM.out, show hasS x = true by unfold CodM.hasS; simp [ho]]; rfl)
        clear ho HTS
        go_wp2
        go_round
        case rel => exact ⟨k + 1, m + 1, by omega, by go_num, HE.out.symm, by omega, by go_num⟩
        case measure => simp [intOf]; omega
    · obtain rfl : ls.length = k := by omega
      rw [List.take_length] at HM
      clear h3
      go_wp2
      go_ret
      exact ⟨ret_int (by rw [HM.out]), rfl⟩
set_option maxHeartbeats 4000000 in
set_option maxRecDepth 100000 in
theorem place_any {B : Nat} {v : Value} {ls : List L} (s : L) (w : World) (h : Strs B w v ls) :
    Calls Try.prog 56 #[v, .string ⟨s.toArray⟩] w fun e w' => e = .returned (.int .i64 (locN ls s : Nat)) ∧ w = w' := by
  obtain ⟨A1, c1, rfl, ha1, ha2, ha3⟩ := h
  unfold maxLen at ha2
  go_enter Try.func56, Try.ntmps56
  go_wp2
  go_loop [5] (fun i => IxRel ls s i) (fun i => ls.length - (intOf i).toNat)
  case atStart => exact ⟨0, Nat.zero_le _, rfl, fun j _ h => absurd h (Nat.not_lt_zero j)⟩
  case round =>
    obtain ⟨k, hk, rfl, hall⟩ := hrel
    have HA := Lib.hid hall
    clear hall
    by_cases hlt : k < ls.length
    · obtain ⟨b1, f1, rfl, hb1, hcl⟩ := ha3 (by omega)
      have e1 := hcl k hlt
      unfold sv at e1
      have HN := Lib.hid (fun (h : decide (ls[k] = s) = true) => show locN ls s = k from CodM.pos0_hit (p := fun x => decide (x = s)) hlt HA.out h)
      have HY := Lib.hid (fun (h : decide (ls[k] = s) = false) (j : Nat) (hj : j < ls.length) (hjk : j < k + 1) => show decide (ls[j] = s) = false by
        by_cases e : j = k
        · subst e; exact h
        · exact HA.out j hj (by omega))
      have q : (ls[k] == s) = decide (ls[k] = s) := beq_dec _ _
      generalize decide (ls[k] = s) = d at *
      obtain ⟨x, hx⟩ : ∃ x, x = ls[k] := ⟨_, rfl⟩
      rw [← hx] at e1 q
      clear hx hcl ha3 HA
      cases d
      · go_wp2
        go_round
        case rel => exact ⟨k + 1, by omega, by go_num, HY.out (by trivial)⟩
        case measure => simp [intOf]; omega
      · go_wp2
        go_ret
        exact ⟨ret_int (by rw [HN.out (by trivial)]), rfl⟩
    · obtain rfl : ls.length = k := by omega
      have HE := Lib.hid (show locN ls s = 0 from CodM.pos0_none (p := fun x => decide (x = s)) (fun j hj => HA.out j hj hj))
      clear ha3
      go_wp2
      go_ret
      exact ⟨ret_int (by rw [HE.out]; rfl), rfl⟩
end Go.Proofs.Ytaelfjphgdlbcaa
namespace Go.Proofs.Ytaelfjphgdlbcaa.CodM
open WordM (L)
open OpsM (Ln)
open VM (Fl)
set_option linter.unusedVariables false
set_option linter.unusedSimpArgs false

theorem right_reg {x : Ln} (h : OpsM.rightL x = true) (hne : x.reg ≠ []) : 0 ≤ WordM.regNo x.reg := by
  unfold OpsM.rightL OpsM.right at h
  have fin : OpsM.regB x.reg = true → 0 ≤ WordM.regNo x.reg := fun c => of_decide_eq_true c
  repeat' split at h
  all_goals simp [OpsM.okNum, OpsM.okLoc, OpsM.okPut, OpsM.okFen, OpsM.okLab, OpsM.emp, hne] at h
  all_goals exact fin h.1
theorem reg_back {r : L} (h : 0 ≤ WordM.regNo r) : WordM.regName (regI r) = r := by
  rcases WordM.regNo_cases r with ⟨e, _⟩ | ⟨n, hn, rfl, e⟩
  · omega
  · have : regI (WordM.regL n) = (n : Int) := by unfold regI; rw [e]; omega
    rw [this]
    unfold WordM.regName
    rw [if_pos ⟨by omega, by omega⟩, Int.toNat_natCast]
theorem lab_one {ls : List Ln} (h : VM.ThOk ls) {i j : Nat} (hi : i < ls.length) (hj : j < ls.length) (e1 : ls[i].op = 11) (e2 : ls[j].op = 11) (e : ls[i].label = ls[j].label) : i = j := by
  rcases Nat.lt_trichotomy i j with c | c | c
  · exact absurd ⟨e2, VM.lcnt_pos hi c e1 e⟩ (VM.lineC_zero (h j hj)).2.1
  · exact c
  · exact absurd ⟨e1, VM.lcnt_pos hj c e2 e.symm⟩ (VM.lineC_zero (h i hi)).2.1
/-- Where the label stands a jump goes. -/
theorem toN_lab {ls : List Ln} (h : VM.ThOk ls) {j : Nat} (hj : j < ls.length) {s : L} (e1 : ls[j].op = 11) (e2 : ls[j].label = s) : toN ls s = cnt (ls.take j) := by
  have hl : isLab s ls[j] = true := (isLab_iff _ _).2 ⟨e1, e2⟩
  obtain ⟨q1, q2, q3⟩ := pos0_at hj hl
  have hq := (isLab_iff _ _).1 q2
  have : pos0 (isLab s) ls = j := lab_one h q1 hj hq.1 e1 (hq.2.trans e2.symm)
  unfold toN; rw [this]
theorem thrS_line {ls : List Ln} (locs : List L) {k : Nat} (hk : k < (thrS locs ls).length) : ∃ (i : Nat) (hi : i < ls.length), hasS ls[i] = true ∧ lnP ls (k : Int) = (i : Int) ∧ (thrS locs ls)[k] = stp ls locs ls[i] := by
  obtain ⟨i, hi, h1, h2, h3⟩ := thrS_at locs ls k hk
  exact ⟨i, hi, h1, lnP_hit hi h1 (by omega), h3⟩
end Go.Proofs.Ytaelfjphgdlbcaa.CodM
namespace Go.Proofs.Ytaelfjphgdlbcaa
open Go.RowKit
set_option linter.unusedVariables false
set_option linter.unusedSimpArgs false
open WordM (L)

set_option maxHeartbeats 1000000 in
theorem rinstr_any (op n : Int) (r o b : ByteArray) (w : World) :
    Calls Try.prog 77 #[lnv op r o b n] w fun e w' => e = .returned (.bool (!(op == 6) && !(op == 11))) ∧ Below w.heap.size w w' := by
  unfold lnv
  by_cases h6 : op = 6
  · have E := Lib.hid (show (!(op == 6) && !(op == 11)) = false by rw [h6]; rfl)
    go_enter Try.func77, Try.ntmps77
    go_wp2
    go_ret
    exact ⟨ret_bool (by rw [E.out]), (Below.refl _ _).alloc (Nat.le_refl _) _⟩
  · by_cases h11 : op = 11
    · have E := Lib.hid (show (!(op == 6) && !(op == 11)) = false by rw [h11]; rfl)
      go_enter Try.func77, Try.ntmps77
      go_wp2
      go_ret
      exact ⟨ret_bool (by rw [E.out]), (Below.refl _ _).alloc (Nat.le_refl _) _⟩
    · have E := Lib.hid (show (!(op == 6) && !(op == 11)) = true by simp [h6, h11])
      go_enter Try.func77, Try.ntmps77
      go_wp2
      go_ret
      exact ⟨by rw [show Ending.returned (Value.bool (!(op == 6) && !(op == 11))) = Ending.returned (.bool true) by rw [E.out]]; simp [h6, h11], (Below.refl _ _).alloc (Nat.le_refl _) _⟩
set_option maxHeartbeats 1000000 in
theorem rjump_any (op n : Int) (r o b : ByteArray) (w : World) :
    Calls Try.prog 71 #[lnv op r o b n] w fun e w' => e = .returned (.bool (decide (8 ≤ op) && decide (op ≤ 10))) ∧ Below w.heap.size w w' := by
  unfold lnv
  by_cases h8 : 8 ≤ op
  · by_cases h10 : op ≤ 10
    · have E := Lib.hid (show (decide (8 ≤ op) && decide (op ≤ 10)) = true by simp [h8, h10])
      go_enter Try.func71, Try.ntmps71
      go_wp2
      go_ret
      exact ⟨ret_bool (by rw [E.out]), (Below.refl _ _).alloc (Nat.le_refl _) _⟩
    · have E := Lib.hid (show (decide (8 ≤ op) && decide (op ≤ 10)) = false by simp [h10])
      go_enter Try.func71, Try.ntmps71
      go_wp2
      go_ret
      exact ⟨ret_bool (by simp [h10]), (Below.refl _ _).alloc (Nat.le_refl _) _⟩
  · have E := Lib.hid (show (decide (8 ≤ op) && decide (op ≤ 10)) = false by simp [h8])
    go_enter Try.func71, Try.ntmps71
    go_wp2
    go_ret
    exact ⟨ret_bool (by rw [E.out]), (Below.refl _ _).alloc (Nat.le_refl _) _⟩

def RlRel (ls : List OpsM.Ln) (s : L) (c i : Value) : Prop :=
  ∃ k : Nat, k ≤ ls.length ∧ i = .int .i64 k ∧ c = .int .i64 (lcnt (ls.take k) s : Nat)
set_option maxHeartbeats 2000000 in
set_option maxRecDepth 100000 in
theorem rlabels_same {B : Nat} {v : Value} {ls : List OpsM.Ln} (s : ByteArray) (w : World) (h : Lns B w v ls) :
    Calls Try.prog 76 #[v, .string s] w fun e w' => e = .returned (.int .i64 (lcnt ls s.data.toList : Nat)) ∧ w = w' := by
  obtain ⟨A1, c1, rfl, ha1, ha2, ha3⟩ := h
  unfold maxLen at ha2
  go_enter Try.func76, Try.ntmps76
  go_wp2
  go_loop [5, 6] (fun c i => RlRel ls s.data.toList c i) (fun _ i => ls.length - (intOf i).toNat)
  case atStart => exact ⟨0, Nat.zero_le _, rfl, rfl⟩
  case round =>
    obtain ⟨k, hk, rfl, rfl⟩ := hrel
    by_cases hlt : k < ls.length
    · obtain ⟨b1, f1, rfl, hb1, hcl⟩ := ha3 (by omega)
      obtain ⟨d0, d1, d2, d3, d4⟩ := hcl k hlt
      have HT := Lib.hid (lcnt_take ls k hlt s.data.toList)
      have hcl1 := lcnt_le (ls.take k) s.data.toList
      have hkl : (ls.take k).length ≤ k := List.length_take_le _ _
      obtain ⟨x, hx⟩ : ∃ x, x = ls[k] := ⟨_, rfl⟩
      rw [← hx] at d0 d1 d2 d3 d4
      have HX := Lib.hid hx
      generalize hcn : lcnt (ls.take k) s.data.toList = cn at *
      have HN := Lib.hid hcn
      have hw : wrap64 ((cn : Int) + 1) = (cn : Int) + 1 := NumM.wrap64_inR _ (by unfold NumM.inR; omega)
      clear hx hcl ha3 hcn
      go_wp2
      · rename_i q1 q2
        have e2 : x.label = s.data.toList := by rw [← Lib.toList_data]; simpa using q2
        refine ⟨⟨k + 1, by omega, by go_num, ?_⟩, by simp [intOf]; omega⟩
        rw [HT.out, ← HX.out, if_pos ⟨q1, e2⟩]; rfl
      · rename_i q1 q2
        have e2 : ¬ x.label = s.data.toList := by rw [← Lib.toList_data]; simpa using q2
        refine ⟨⟨k + 1, by omega, by go_num, ?_⟩, by simp [intOf]; omega⟩
        rw [HT.out, ← HX.out, if_neg (fun h => e2 h.2)]; rfl
      · rename_i q1
        refine ⟨⟨k + 1, by omega, by go_num, ?_⟩, by simp [intOf]; omega⟩
        rw [HT.out, ← HX.out, if_neg (fun h => q1 h.1)]; rfl
    · obtain rfl : ls.length = k := by omega
      rw [List.take_length]
      go_wp2
      go_ret
      exact ⟨rfl, rfl⟩
end Go.Proofs.Ytaelfjphgdlbcaa
namespace Go.Proofs.Ytaelfjphgdlbcaa
open Go.RowKit
open WordM (L)
set_option linter.unusedVariables false
set_option maxHeartbeats 1000000 in
set_option maxRecDepth 100000 in
theorem rregname_out (n : Int) (w : World) (h : n < 0 ∨ 3 < n) :
    Calls Try.prog 79 #[.int .i64 n] w fun e w' => e = .returned (.string ⟨#[]⟩) ∧ Below w.heap.size w w' := by
  by_cases h0 : n < 0
  · go_enter Try.func79, Try.ntmps79
    go_wp2
    go_ret
    exact ⟨rfl, Below.refl _ _⟩
  · have h4 : 4 ≤ n := by omega
    go_enter Try.func79, Try.ntmps79
    go_wp2
    go_ret
    exact ⟨rfl, Below.refl _ _⟩
set_option maxHeartbeats 1000000 in
set_option maxRecDepth 100000 in
theorem rregname_one (k : Nat) (b : UInt8) (hk : k < 4) (hb : (b.toNat : Int) = 97 + k) (w : World) :
    Calls Try.prog 79 #[.int .i64 k] w fun e w' => e = .returned (.string ⟨#[101, b, 120]⟩) ∧ Below w.heap.size w w' := by
  have hcv := fun W => conv_one Try.prog 116 5 9 (by kernel_rfl) (by kernel_rfl) (by kernel_rfl) b W 5
  rw [hb] at hcv
  have hc1 := fun W => run_string_add_sum (P := Try.prog) (w := W) ⟨#[101]⟩ ⟨#[b]⟩ (by simp [ByteArray.size])
  have hc2 := fun W => run_string_add_sum (P := Try.prog) (w := W) (⟨#[101]⟩ ++ ⟨#[b]⟩) ⟨#[120]⟩ (by simp [ByteArray.size])
  clear hb
  go_enter Try.func79, Try.ntmps79
  go_wp2
  go_ret
  exact ⟨rfl, (Below.refl _ _).alloc (Nat.le_refl _) _⟩
theorem rregname_any (n : Int) (w : World) :
    Calls Try.prog 79 #[.int .i64 n] w fun e w' => e = .returned (.string ⟨(WordM.regName n).toArray⟩) ∧ Below w.heap.size w w' := by
  by_cases h : 0 ≤ n ∧ n < 4
  · obtain ⟨k, rfl⟩ := Int.eq_ofNat_of_zero_le h.1
    have e : WordM.regName (k : Int) = WordM.regL k := by unfold WordM.regName; rw [if_pos h]; rfl
    rw [e]
    have hk : k < 4 := by omega
    match k, hk with
    | 0, hk => exact rregname_one 0 97 hk rfl w
    | 1, hk => exact rregname_one 1 98 hk rfl w
    | 2, hk => exact rregname_one 2 99 hk rfl w
    | 3, hk => exact rregname_one 3 100 hk rfl w
  · have : WordM.regName n = [] := by unfold WordM.regName; rw [if_neg h]
    rw [this]
    exact rregname_out n w (by omega)
/-- At a round of the document's Reg: the registers ahead of k are others. -/
def RegRel (s : ByteArray) (w : World) (i : Value) (wr : World) : Prop := ∃ k : Nat, k ≤ 4 ∧ i = .int .i64 k ∧ (∀ j, j < k → s.data.toList ≠ WordM.regL j) ∧ Below w.heap.size w wr
theorem regNo_at (l : L) (k : Nat) (hk : k < 4) (h : l = WordM.regL k) : WordM.regNo l = k := by rw [h]; exact WordM.regNo_name k hk
theorem regNo_none (l : L) (h : ∀ j, j < 4 → l ≠ WordM.regL j) : WordM.regNo l = -1 := by
  unfold WordM.regNo
  rw [if_neg (h 0 (by omega)), if_neg (h 1 (by omega)), if_neg (h 2 (by omega)), if_neg (h 3 (by omega))]
theorem regrel_next {s : ByteArray} {w wr w1 : World} {k : Nat} (hk : k < 4) (h : s.data.toList ≠ WordM.regL k) (hall : ∀ j, j < k → s.data.toList ≠ WordM.regL j) (hB : Below w.heap.size w wr) (hb : Below wr.heap.size wr w1) :
    RegRel s w (.int .i64 ((k : Int) + 1)) w1 :=
  ⟨k + 1, by omega, by go_num, fun j hj => by
    by_cases e : j = k
    · subst e; exact h
    · exact hall j (by omega), chain hB hb⟩
theorem regname_nat (k : Nat) (hk : k < 4) (w : World) :
    Calls Try.prog 79 #[.int .i64 k] w fun e w' => e = .returned (.string ⟨(WordM.regL k).toArray⟩) ∧ Below w.heap.size w w' := by
  have := rregname_any k w
  rw [show WordM.regName (k : Int) = WordM.regL k by unfold WordM.regName; rw [if_pos (by omega)]; rfl] at this
  exact this
set_option maxHeartbeats 1000000 in
set_option maxRecDepth 100000 in
theorem rreg_any (s : ByteArray) (w : World) :
    Calls Try.prog 70 #[.string s] w fun e w' => e = .returned (.int .i64 (WordM.regNo s.data.toList)) ∧ Below w.heap.size w w' := by
  go_enter Try.func70, Try.ntmps70
  go_wp2
  go_loopw [3] (fun i wr => RegRel s w i wr) (fun i _ => 4 - (intOf i).toNat)
  case atStart => exact ⟨0, by omega, rfl, fun j h => absurd h (Nat.not_lt_zero j), Below.refl _ _⟩
  case round =>
    obtain ⟨k, hk, rfl, hall, hB⟩ := hrel
    have HA := Lib.hid hall
    clear hall
    by_cases hlt : k < 4
    · obtain ⟨X, hX⟩ : ∃ X : ByteArray, X = ⟨(WordM.regL k).toArray⟩ := ⟨_, rfl⟩
      have hXl : X.toList = WordM.regL k := by rw [hX, Lib.toList_data]
      have HC := Lib.hid (fun W => show Calls Try.prog 79 #[.int .i64 k] W fun e w' => e = .returned (.string X) ∧ Below W.heap.size W w' by rw [hX]; exact regname_nat k hlt W)
      by_cases h : s.data.toList = WordM.regL k
      · have q1 : (X.toList == s.toList) = true := by rw [hXl, Lib.toList_data, h]; simp
        have HR := Lib.hid (regNo_at _ k hlt h)
        clear hX hXl h
        go_wp2_with fail
        refine (HC.out _).mono ?_
        rintro e w1 ⟨rfl, hb⟩
        go_wp2
        go_ret
        exact ⟨by rw [HR.out]; rfl, chain hB hb⟩
      · have q1 : (X.toList == s.toList) = false := by rw [hXl, Lib.toList_data, beq_dec]; exact decide_eq_false (fun e => h e.symm)
        have H := Lib.hid h
        clear hX hXl h
        go_wp2_with fail
        refine (HC.out _).mono ?_
        rintro e w1 ⟨rfl, hb⟩
        go_wp2
        go_roundw
        case rel => exact regrel_next hlt H.out HA.out hB hb
        case measure => simp [intOf]; omega
    · obtain rfl : 4 = k := by omega
      have HR := Lib.hid (regNo_none _ HA.out)
      go_wp2
      go_ret
      exact ⟨by rw [HR.out]; rfl, hB⟩
/-- At a round of the document's Name: the bytes ahead of k are right. -/
def okAt (s : ByteArray) (j : Nat) (h : j < s.size) : Bool := WordM.letterB s[j] || (WordM.digitB s[j] && decide (j ≠ 0))
def NmRel (s : ByteArray) (i : Value) : Prop := ∃ k : Nat, k ≤ s.size ∧ i = .int .i64 k ∧ ∀ j (h : j < s.size), j < k → okAt s j h = true
theorem nmrel_next {s : ByteArray} {k : Nat} (hk : k < s.size) (h : okAt s k hk = true) (hall : ∀ j (h : j < s.size), j < k → okAt s j h = true) : NmRel s (.int .i64 ((k : Int) + 1)) :=
  ⟨k + 1, by omega, by go_num, fun j hj h1 => by
    by_cases e : j = k
    · subst e; exact h
    · exact hall j hj (by omega)⟩
theorem name_bad (s : ByteArray) (k : Nat) (hk : k < s.size) (h : okAt s k hk = false) : WordM.nameB s.data.toList = false := by
  have : WordM.speltB s.data.toList = false := by
    unfold okAt at h
    rw [Bool.or_eq_false_iff, Bool.and_eq_false_iff] at h
    rcases h.2 with h2 | h2
    · exact spelt_false s k hk (by unfold WordM.alnum; rw [h.1, h2]; rfl)
    · simp at h2
      subst h2
      exact WordM.speltB_head _ (by rw [head_at s hk]; exact h.1)
  unfold WordM.nameB; rw [this]; rfl
theorem spelt_ok (s : ByteArray) (h : ∀ j (h : j < s.size), okAt s j h = true) : WordM.speltB s.data.toList = (decide (1 ≤ s.size) && decide (s.size ≤ 8)) := by
  by_cases h0 : 1 ≤ s.size
  · by_cases h8 : s.size ≤ 8
    · rw [decide_eq_true h0, decide_eq_true h8]
      refine spelt_true s h0 h8 ?_ fun k hk _ => ?_
      · have := h 0 h0
        unfold okAt at this
        simpa using this
      · have := h k hk
        unfold okAt at this
        unfold WordM.alnum
        revert this
        cases WordM.letterB s[k] <;> cases WordM.digitB s[k] <;> simp
    · rw [decide_eq_false h8, Bool.and_false]
      exact WordM.speltB_long _ (by rw [← Lib.size_eq]; omega)
  · rw [decide_eq_false h0, Bool.false_and]
    have e : s.data.toList = [] := by have := Lib.size_eq s; exact List.eq_nil_of_length_eq_zero (by omega)
    rw [e]; rfl
set_option maxHeartbeats 2000000 in
set_option maxRecDepth 100000 in
theorem rkey_yes (l : L) (w : World) (h : l ∈ WordM.keys) :
    Calls Try.prog 80 #[.string ⟨l.toArray⟩] w fun e w' => e = .returned (.bool true) ∧ w = w' := by
  simp only [WordM.keys, List.mem_cons, List.not_mem_nil, or_false] at h
  rcases h with rfl | rfl | rfl | rfl | rfl | rfl | rfl | rfl | rfl | rfl | rfl | rfl
  all_goals
    go_enter Try.func80, Try.ntmps80
    go_wp2
    go_ret
    exact ⟨rfl, rfl⟩
set_option maxHeartbeats 2000000 in
set_option maxRecDepth 100000 in
theorem rkey_no (s : ByteArray) (w : World) (h : s.data.toList ∉ WordM.keys) :
    Calls Try.prog 80 #[.string s] w fun e w' => e = .returned (.bool false) ∧ w = w' := by
  simp only [WordM.keys, List.mem_cons, List.not_mem_nil, or_false, not_or] at h
  obtain ⟨h0, h1, h2, h3, h4, h5, h6, h7, h8, h9, h10, h11⟩ := h
  have q0 := (strq s [120, 56, 54] false (decide_eq_false h0)).1
  have q1 := (strq s [105, 110, 105, 116] false (decide_eq_false h1)).1
  have q2 := (strq s [116, 104, 114, 101, 97, 100] false (decide_eq_false h2)).1
  have q3 := (strq s [109, 111, 118] false (decide_eq_false h3)).1
  have q4 := (strq s [120, 99, 104, 103] false (decide_eq_false h4)).1
  have q5 := (strq s [109, 102, 101, 110, 99, 101] false (decide_eq_false h5)).1
  have q6 := (strq s [99, 109, 112] false (decide_eq_false h6)).1
  have q7 := (strq s [106, 109, 112] false (decide_eq_false h7)).1
  have q8 := (strq s [106, 101] false (decide_eq_false h8)).1
  have q9 := (strq s [106, 110, 101] false (decide_eq_false h9)).1
  have q10 := (strq s [101, 120, 105, 115, 116, 115] false (decide_eq_false h10)).1
  have q11 := (strq s [102, 111, 114, 97, 108, 108] false (decide_eq_false h11)).1
  clear h0 h1 h2 h3 h4 h5 h6 h7 h8 h9 h10 h11
  go_enter Try.func80, Try.ntmps80
  go_wp2
  go_ret
  exact ⟨rfl, rfl⟩
theorem rkey_any (s : ByteArray) (w : World) :
    Calls Try.prog 80 #[.string s] w fun e w' => e = .returned (.bool (WordM.keyB s.data.toList)) ∧ w = w' := by
  by_cases h : s.data.toList ∈ WordM.keys
  · rw [show WordM.keyB s.data.toList = true from decide_eq_true h]
    exact rkey_yes s.data.toList w h
  · rw [show WordM.keyB s.data.toList = false from decide_eq_false h]
    exact rkey_no s w h
set_option maxHeartbeats 1000000 in
set_option maxRecDepth 100000 in
theorem rname_any (s : ByteArray) (w : World) (hs : s.size ≤ 100000) :
    Calls Try.prog 74 #[.string s] w fun e w' => e = .returned (.bool (WordM.nameB s.data.toList)) ∧ Below w.heap.size w w' := by
  have HR := Lib.hid (fun W => rreg_any s W)
  have HK := Lib.hid (fun W => rkey_any s W)
  have HSP := Lib.hid (spelt_ok s)
  have HN0 := Lib.hid (show WordM.nameB s.data.toList = (WordM.speltB s.data.toList && decide (WordM.regNo s.data.toList < 0) && !WordM.keyB s.data.toList) from rfl)
  have HBAD := Lib.hid (name_bad s)
  generalize WordM.nameB s.data.toList = nb at *
  generalize WordM.speltB s.data.toList = sp at *
  generalize WordM.regNo s.data.toList = rn at *
  generalize WordM.keyB s.data.toList = kb at *
  go_enter Try.func74, Try.ntmps74
  go_wp2
  go_loop [3] (fun i => NmRel s i) (fun i => s.size - (intOf i).toNat)
  case atStart => exact ⟨0, Nat.zero_le _, rfl, fun j _ h => absurd h (Nat.not_lt_zero j)⟩
  case round =>
    obtain ⟨k, hk, rfl, hall⟩ := hrel
    have HA := Lib.hid hall
    clear hall
    by_cases hlt : k < s.size
    · have hbt := (s[k]).toNat_lt
      by_cases h1 : 97 ≤ (s[k]).toNat
      · have q1 : decide (((s[k]).toNat : Int) < 97) = false := decide_eq_false (by omega)
        by_cases h2 : (s[k]).toNat ≤ 122
        · have q2 : decide (122 < ((s[k]).toNat : Int)) = false := decide_eq_false (by omega)
          have HN := Lib.hid (nmrel_next hlt (by simp [okAt, WordM.letterB, h1, h2]) HA.out)
          go_wp2
          go_round
          case rel => exact HN.out
          case measure => simp [intOf]; omega
        · have q2 : decide (122 < ((s[k]).toNat : Int)) = true := decide_eq_true (by omega)
          have q3 : decide (((s[k]).toNat : Int) < 48) = false := decide_eq_false (by omega)
          have q4 : decide (57 < ((s[k]).toNat : Int)) = true := decide_eq_true (by omega)
          have HB := Lib.hid (HBAD.out k hlt (by simp [okAt, WordM.letterB, WordM.digitB, h1, h2]; omega))
          go_wp2
          go_ret
          exact ⟨by rw [HB.out]; rfl, Below.refl _ _⟩
      · have q1 : decide (((s[k]).toNat : Int) < 97) = true := decide_eq_true (by omega)
        by_cases h3 : 48 ≤ (s[k]).toNat
        · have q3 : decide (((s[k]).toNat : Int) < 48) = false := decide_eq_false (by omega)
          by_cases h4 : (s[k]).toNat ≤ 57
          · have q4 : decide (57 < ((s[k]).toNat : Int)) = false := decide_eq_false (by omega)
            by_cases h5 : k = 0
            · have q5 : ((k : Int) == 0) = true := by simp [h5]
              have HB := Lib.hid (HBAD.out k hlt (by unfold okAt; rw [show WordM.letterB s[k] = false from by simp [WordM.letterB, h1], decide_eq_false (fun h : k ≠ 0 => h h5)]; simp))
              clear h5
              go_wp2
              go_ret
              exact ⟨by rw [HB.out]; rfl, Below.refl _ _⟩
            · have q5 : ((k : Int) == 0) = false := by simp [h5]
              have HN := Lib.hid (nmrel_next hlt (by simp [okAt, WordM.letterB, WordM.digitB, h1, h3, h4, h5]) HA.out)
              clear h5
              go_wp2
              go_round
              case rel => exact HN.out
              case measure => simp [intOf]; omega
          · have q4 : decide (57 < ((s[k]).toNat : Int)) = true := decide_eq_true (by omega)
            have HB := Lib.hid (HBAD.out k hlt (by simp [okAt, WordM.letterB, WordM.digitB, h1, h4]))
            go_wp2
            go_ret
            exact ⟨by rw [HB.out]; rfl, Below.refl _ _⟩
        · have q3 : decide (((s[k]).toNat : Int) < 48) = true := decide_eq_true (by omega)
          have HB := Lib.hid (HBAD.out k hlt (by simp [okAt, WordM.letterB, WordM.digitB, h1, h3]))
          go_wp2
          go_ret
          exact ⟨by rw [HB.out]; rfl, Below.refl _ _⟩
    · obtain rfl : s.size = k := by omega
      have hsp : sp = (decide (1 ≤ s.size) && decide (s.size ≤ 8)) := HSP.out fun j h => HA.out j h h
      by_cases h0 : 1 ≤ s.size
      · have q0 : decide ((1 : Int) ≤ (s.size : Int)) = true := decide_eq_true (by omega)
        by_cases h8 : s.size ≤ 8
        · have q8 : decide ((s.size : Int) ≤ 8) = true := decide_eq_true (by omega)
          rw [decide_eq_true h0, decide_eq_true h8] at hsp
          have HS := Lib.hid hsp
          clear hsp
          cases kb with
          | true =>
            go_wp2_with (first | (go_at_call 80; refine (HK.out _).mono ?_; rintro e w' ⟨rfl, rfl⟩))
            go_ret
            exact ⟨by rw [HN0.out]; simp, Below.refl _ _⟩
          | false =>
            go_wp2_with (first | (go_at_call 80; refine (HK.out _).mono ?_; rintro e w' ⟨rfl, rfl⟩) | (go_at_call 70; refine (HR.out _).mono ?_; rintro e w' ⟨rfl, hb⟩))
            go_ret
            exact ⟨by rw [HN0.out, HS.out]; simp, hb⟩
        · have q8 : decide ((s.size : Int) ≤ 8) = false := decide_eq_false (by omega)
          rw [decide_eq_true h0, decide_eq_false h8] at hsp
          have HS := Lib.hid hsp
          clear hsp
          go_wp2
          go_ret
          exact ⟨by rw [HN0.out, HS.out]; rfl, Below.refl _ _⟩
      · have q0 : decide ((1 : Int) ≤ (s.size : Int)) = false := decide_eq_false (by omega)
        rw [decide_eq_false h0] at hsp
        have HS := Lib.hid hsp
        clear hsp
        go_wp2
        go_ret
        exact ⟨by rw [HN0.out, HS.out]; rfl, Below.refl _ _⟩
end Go.Proofs.Ytaelfjphgdlbcaa
namespace Go.Proofs.Ytaelfjphgdlbcaa
open Go.RowKit
set_option linter.unusedVariables false
set_option linter.unusedSimpArgs false
open WordM (L)

theorem reg_sign (l : L) : decide (WordM.regNo l < 0) = !OpsM.regB l := by
  unfold OpsM.regB
  by_cases h : 0 ≤ WordM.regNo l
  · rw [decide_eq_true h, decide_eq_false (by omega)]; rfl
  · rw [decide_eq_false h, decide_eq_true (by omega)]; rfl
set_option maxHeartbeats 1000000 in
set_option maxRecDepth 100000 in
theorem has1 (w : World) : Calls Try.prog 81 #[.int .i64 1] w fun e w' => e = .returned (.tuple #[.bool true, .bool false, .bool false, .bool true]) ∧ w = w' := by
  go_enter Try.func81, Try.ntmps81
  go_wp2
  exact bodyPost_ret (v := .tuple #[.bool true, .bool false, .bool false, .bool true]) (by simp [results, Try.results81, go_sem]) rfl ⟨rfl, rfl⟩
set_option maxHeartbeats 1000000 in
set_option maxRecDepth 100000 in
theorem has2 (w : World) : Calls Try.prog 81 #[.int .i64 2] w fun e w' => e = .returned (.tuple #[.bool true, .bool true, .bool false, .bool false]) ∧ w = w' := by
  go_enter Try.func81, Try.ntmps81
  go_wp2
  exact bodyPost_ret (v := .tuple #[.bool true, .bool true, .bool false, .bool false]) (by simp [results, Try.results81, go_sem]) rfl ⟨rfl, rfl⟩
set_option maxHeartbeats 1000000 in
set_option maxRecDepth 100000 in
theorem has3 (w : World) : Calls Try.prog 81 #[.int .i64 3] w fun e w' => e = .returned (.tuple #[.bool true, .bool true, .bool false, .bool false]) ∧ w = w' := by
  go_enter Try.func81, Try.ntmps81
  go_wp2
  exact bodyPost_ret (v := .tuple #[.bool true, .bool true, .bool false, .bool false]) (by simp [results, Try.results81, go_sem]) rfl ⟨rfl, rfl⟩
set_option maxHeartbeats 1000000 in
set_option maxRecDepth 100000 in
theorem has4 (w : World) : Calls Try.prog 81 #[.int .i64 4] w fun e w' => e = .returned (.tuple #[.bool false, .bool true, .bool false, .bool true]) ∧ w = w' := by
  go_enter Try.func81, Try.ntmps81
  go_wp2
  exact bodyPost_ret (v := .tuple #[.bool false, .bool true, .bool false, .bool true]) (by simp [results, Try.results81, go_sem]) rfl ⟨rfl, rfl⟩
set_option maxHeartbeats 1000000 in
set_option maxRecDepth 100000 in
theorem has5 (w : World) : Calls Try.prog 81 #[.int .i64 5] w fun e w' => e = .returned (.tuple #[.bool true, .bool true, .bool false, .bool false]) ∧ w = w' := by
  go_enter Try.func81, Try.ntmps81
  go_wp2
  exact bodyPost_ret (v := .tuple #[.bool true, .bool true, .bool false, .bool false]) (by simp [results, Try.results81, go_sem]) rfl ⟨rfl, rfl⟩
set_option maxHeartbeats 1000000 in
set_option maxRecDepth 100000 in
theorem has6 (w : World) : Calls Try.prog 81 #[.int .i64 6] w fun e w' => e = .returned (.tuple #[.bool false, .bool false, .bool false, .bool false]) ∧ w = w' := by
  go_enter Try.func81, Try.ntmps81
  go_wp2
  exact bodyPost_ret (v := .tuple #[.bool false, .bool false, .bool false, .bool false]) (by simp [results, Try.results81, go_sem]) rfl ⟨rfl, rfl⟩
set_option maxHeartbeats 1000000 in
set_option maxRecDepth 100000 in
theorem has7 (w : World) : Calls Try.prog 81 #[.int .i64 7] w fun e w' => e = .returned (.tuple #[.bool true, .bool false, .bool false, .bool true]) ∧ w = w' := by
  go_enter Try.func81, Try.ntmps81
  go_wp2
  exact bodyPost_ret (v := .tuple #[.bool true, .bool false, .bool false, .bool true]) (by simp [results, Try.results81, go_sem]) rfl ⟨rfl, rfl⟩
set_option maxHeartbeats 1000000 in
set_option maxRecDepth 100000 in
theorem has8 (w : World) : Calls Try.prog 81 #[.int .i64 8] w fun e w' => e = .returned (.tuple #[.bool false, .bool false, .bool true, .bool false]) ∧ w = w' := by
  go_enter Try.func81, Try.ntmps81
  go_wp2
  exact bodyPost_ret (v := .tuple #[.bool false, .bool false, .bool true, .bool false]) (by simp [results, Try.results81, go_sem]) rfl ⟨rfl, rfl⟩
set_option maxHeartbeats 1000000 in
set_option maxRecDepth 100000 in
theorem has9 (w : World) : Calls Try.prog 81 #[.int .i64 9] w fun e w' => e = .returned (.tuple #[.bool false, .bool false, .bool true, .bool false]) ∧ w = w' := by
  go_enter Try.func81, Try.ntmps81
  go_wp2
  exact bodyPost_ret (v := .tuple #[.bool false, .bool false, .bool true, .bool false]) (by simp [results, Try.results81, go_sem]) rfl ⟨rfl, rfl⟩
set_option maxHeartbeats 1000000 in
set_option maxRecDepth 100000 in
theorem has10 (w : World) : Calls Try.prog 81 #[.int .i64 10] w fun e w' => e = .returned (.tuple #[.bool false, .bool false, .bool true, .bool false]) ∧ w = w' := by
  go_enter Try.func81, Try.ntmps81
  go_wp2
  exact bodyPost_ret (v := .tuple #[.bool false, .bool false, .bool true, .bool false]) (by simp [results, Try.results81, go_sem]) rfl ⟨rfl, rfl⟩
set_option maxHeartbeats 1000000 in
set_option maxRecDepth 100000 in
theorem has11 (w : World) : Calls Try.prog 81 #[.int .i64 11] w fun e w' => e = .returned (.tuple #[.bool false, .bool false, .bool true, .bool false]) ∧ w = w' := by
  go_enter Try.func81, Try.ntmps81
  go_wp2
  exact bodyPost_ret (v := .tuple #[.bool false, .bool false, .bool true, .bool false]) (by simp [results, Try.results81, go_sem]) rfl ⟨rfl, rfl⟩
set_option maxHeartbeats 1000000 in
set_option maxRecDepth 100000 in
theorem rright1 (n : Int) (r o b : ByteArray) (w : World) (hr : r.size ≤ 100000) (ho : o.size ≤ 100000) (hb : b.size ≤ 100000) :
    Calls Try.prog 75 #[lnv 1 r o b n] w fun e w' => e = .returned (.bool (OpsM.right 1 r.data.toList o.data.toList b.data.toList n)) ∧ Below w.heap.size w w' := by
  have E := Lib.hid (show OpsM.right 1 r.data.toList o.data.toList b.data.toList n = (OpsM.regB r.data.toList && (OpsM.emp o.data.toList && OpsM.emp b.data.toList)) from rfl)
  have e1 := Lib.hid (emp_of r)
  have e2 := Lib.hid (emp_of o)
  have e3 := Lib.hid (emp_of b)
  have HR := Lib.hid (fun W => rreg_any r W)
  have HO := Lib.hid (fun W => rname_any o W ho)
  have HB := Lib.hid (fun W => rname_any b W hb)
  have hs := reg_sign r.data.toList
  clear hr ho hb
  rw [E.out]
  clear E
  generalize OpsM.regB r.data.toList = q0 at *
  generalize WordM.regNo r.data.toList = rn at *
  unfold lnv
  cases q0
  · simp only [Bool.not_false] at hs
    go_enter Try.func75, Try.ntmps75
    go_wp2_with fail
    refine (has1 _).mono ?_
    rintro e w0 ⟨rfl, rfl⟩
    go_wp2_with fail
    refine (HR.out _).mono ?_
    rintro e w1 ⟨rfl, hB⟩
    obtain ⟨c0, _⟩ := kept_box (v := .int .i64 1) hB 0 rfl
    obtain ⟨c1, _⟩ := kept_box (v := .string r) hB 1 rfl
    obtain ⟨c2, _⟩ := kept_box (v := .string o) hB 2 rfl
    obtain ⟨c3, _⟩ := kept_box (v := .string b) hB 3 rfl
    obtain ⟨c4, _⟩ := kept_box (v := .int .i64 n) hB 4 rfl
    go_wp2
    all_goals
      go_ret
      exact ⟨ret_bool (by (try simp only [e1.out, e2.out, e3.out, OpsM.nil0]); simp [*]; try rfl), box_below hB⟩
  · simp only [Bool.not_true] at hs
    by_cases ho : o.toList = []
    · skip
      by_cases hb : b.toList = []
      · skip
        go_enter Try.func75, Try.ntmps75
        go_wp2_with fail
        refine (has1 _).mono ?_
        rintro e w0 ⟨rfl, rfl⟩
        go_wp2_with fail
        refine (HR.out _).mono ?_
        rintro e w1 ⟨rfl, hB⟩
        obtain ⟨c0, _⟩ := kept_box (v := .int .i64 1) hB 0 rfl
        obtain ⟨c1, _⟩ := kept_box (v := .string r) hB 1 rfl
        obtain ⟨c2, _⟩ := kept_box (v := .string o) hB 2 rfl
        obtain ⟨c3, _⟩ := kept_box (v := .string b) hB 3 rfl
        obtain ⟨c4, _⟩ := kept_box (v := .int .i64 n) hB 4 rfl
        go_wp2
        all_goals
          go_ret
          exact ⟨ret_bool (by (try simp only [e1.out, e2.out, e3.out, OpsM.nil0]); simp [*]; try rfl), box_below hB⟩
      · have mb : (b.toList == []) = false := by simpa using hb
        have kb : b.toList.isEmpty = false := by simpa using hb
        go_enter Try.func75, Try.ntmps75
        go_wp2_with fail
        refine (has1 _).mono ?_
        rintro e w0 ⟨rfl, rfl⟩
        go_wp2_with fail
        refine (HR.out _).mono ?_
        rintro e w1 ⟨rfl, hB⟩
        obtain ⟨c0, _⟩ := kept_box (v := .int .i64 1) hB 0 rfl
        obtain ⟨c1, _⟩ := kept_box (v := .string r) hB 1 rfl
        obtain ⟨c2, _⟩ := kept_box (v := .string o) hB 2 rfl
        obtain ⟨c3, _⟩ := kept_box (v := .string b) hB 3 rfl
        obtain ⟨c4, _⟩ := kept_box (v := .int .i64 n) hB 4 rfl
        go_wp2
        all_goals
          go_ret
          exact ⟨ret_bool (by (try simp only [e1.out, e2.out, e3.out, OpsM.nil0]); simp [*]; try rfl), box_below hB⟩
    · have mo : (o.toList == []) = false := by simpa using ho
      have ko : o.toList.isEmpty = false := by simpa using ho
      go_enter Try.func75, Try.ntmps75
      go_wp2_with fail
      refine (has1 _).mono ?_
      rintro e w0 ⟨rfl, rfl⟩
      go_wp2_with fail
      refine (HR.out _).mono ?_
      rintro e w1 ⟨rfl, hB⟩
      obtain ⟨c0, _⟩ := kept_box (v := .int .i64 1) hB 0 rfl
      obtain ⟨c1, _⟩ := kept_box (v := .string r) hB 1 rfl
      obtain ⟨c2, _⟩ := kept_box (v := .string o) hB 2 rfl
      obtain ⟨c3, _⟩ := kept_box (v := .string b) hB 3 rfl
      obtain ⟨c4, _⟩ := kept_box (v := .int .i64 n) hB 4 rfl
      go_wp2
      all_goals
        go_ret
        exact ⟨ret_bool (by (try simp only [e1.out, e2.out, e3.out, OpsM.nil0]); simp [*]; try rfl), box_below hB⟩
set_option maxHeartbeats 1000000 in
set_option maxRecDepth 100000 in
theorem rright2 (n : Int) (r o b : ByteArray) (w : World) (hr : r.size ≤ 100000) (ho : o.size ≤ 100000) (hb : b.size ≤ 100000) :
    Calls Try.prog 75 #[lnv 2 r o b n] w fun e w' => e = .returned (.bool (OpsM.right 2 r.data.toList o.data.toList b.data.toList n)) ∧ Below w.heap.size w w' := by
  have E := Lib.hid (show OpsM.right 2 r.data.toList o.data.toList b.data.toList n = (OpsM.regB r.data.toList && (WordM.nameB o.data.toList && (OpsM.emp b.data.toList && OpsM.nil0 n))) from rfl)
  have e1 := Lib.hid (emp_of r)
  have e2 := Lib.hid (emp_of o)
  have e3 := Lib.hid (emp_of b)
  have HR := Lib.hid (fun W => rreg_any r W)
  have HO := Lib.hid (fun W => rname_any o W ho)
  have HB := Lib.hid (fun W => rname_any b W hb)
  have hs := reg_sign r.data.toList
  clear hr ho hb
  rw [E.out]
  clear E
  generalize OpsM.regB r.data.toList = q0 at *
  generalize WordM.regNo r.data.toList = rn at *
  generalize WordM.nameB o.data.toList = q1 at *
  unfold lnv
  cases q0
  · simp only [Bool.not_false] at hs
    go_enter Try.func75, Try.ntmps75
    go_wp2_with fail
    refine (has2 _).mono ?_
    rintro e w0 ⟨rfl, rfl⟩
    go_wp2_with fail
    refine (HR.out _).mono ?_
    rintro e w1 ⟨rfl, hB⟩
    obtain ⟨c0, _⟩ := kept_box (v := .int .i64 2) hB 0 rfl
    obtain ⟨c1, _⟩ := kept_box (v := .string r) hB 1 rfl
    obtain ⟨c2, _⟩ := kept_box (v := .string o) hB 2 rfl
    obtain ⟨c3, _⟩ := kept_box (v := .string b) hB 3 rfl
    obtain ⟨c4, _⟩ := kept_box (v := .int .i64 n) hB 4 rfl
    go_wp2
    all_goals
      go_ret
      exact ⟨ret_bool (by (try simp only [e1.out, e2.out, e3.out, OpsM.nil0]); simp [*]; try rfl), box_below hB⟩
  · simp only [Bool.not_true] at hs
    cases q1
    · go_enter Try.func75, Try.ntmps75
      go_wp2_with fail
      refine (has2 _).mono ?_
      rintro e w0 ⟨rfl, rfl⟩
      go_wp2_with fail
      refine (HR.out _).mono ?_
      rintro e w1 ⟨rfl, hB⟩
      obtain ⟨c0, _⟩ := kept_box (v := .int .i64 2) hB 0 rfl
      obtain ⟨c1, _⟩ := kept_box (v := .string r) hB 1 rfl
      obtain ⟨c2, _⟩ := kept_box (v := .string o) hB 2 rfl
      obtain ⟨c3, _⟩ := kept_box (v := .string b) hB 3 rfl
      obtain ⟨c4, _⟩ := kept_box (v := .int .i64 n) hB 4 rfl
      go_wp2_with fail
      refine (HO.out _).mono ?_
      rintro e w2 ⟨rfl, hB'⟩
      replace hB := chain hB hB'
      clear hB'
      clear c0 c1 c2 c3 c4
      obtain ⟨c0, _⟩ := kept_box (v := .int .i64 2) hB 0 rfl
      obtain ⟨c1, _⟩ := kept_box (v := .string r) hB 1 rfl
      obtain ⟨c2, _⟩ := kept_box (v := .string o) hB 2 rfl
      obtain ⟨c3, _⟩ := kept_box (v := .string b) hB 3 rfl
      obtain ⟨c4, _⟩ := kept_box (v := .int .i64 n) hB 4 rfl
      go_wp2
      all_goals
        go_ret
        exact ⟨ret_bool (by (try simp only [e1.out, e2.out, e3.out, OpsM.nil0]); simp [*]; try rfl), box_below hB⟩
    · skip
      by_cases hb : b.toList = []
      · skip
        go_enter Try.func75, Try.ntmps75
        go_wp2_with fail
        refine (has2 _).mono ?_
        rintro e w0 ⟨rfl, rfl⟩
        go_wp2_with fail
        refine (HR.out _).mono ?_
        rintro e w1 ⟨rfl, hB⟩
        obtain ⟨c0, _⟩ := kept_box (v := .int .i64 2) hB 0 rfl
        obtain ⟨c1, _⟩ := kept_box (v := .string r) hB 1 rfl
        obtain ⟨c2, _⟩ := kept_box (v := .string o) hB 2 rfl
        obtain ⟨c3, _⟩ := kept_box (v := .string b) hB 3 rfl
        obtain ⟨c4, _⟩ := kept_box (v := .int .i64 n) hB 4 rfl
        go_wp2_with fail
        refine (HO.out _).mono ?_
        rintro e w2 ⟨rfl, hB'⟩
        replace hB := chain hB hB'
        clear hB'
        clear c0 c1 c2 c3 c4
        obtain ⟨c0, _⟩ := kept_box (v := .int .i64 2) hB 0 rfl
        obtain ⟨c1, _⟩ := kept_box (v := .string r) hB 1 rfl
        obtain ⟨c2, _⟩ := kept_box (v := .string o) hB 2 rfl
        obtain ⟨c3, _⟩ := kept_box (v := .string b) hB 3 rfl
        obtain ⟨c4, _⟩ := kept_box (v := .int .i64 n) hB 4 rfl
        go_wp2
        all_goals
          go_ret
          exact ⟨ret_bool (by (try simp only [e1.out, e2.out, e3.out, OpsM.nil0]); simp [*]; try rfl), box_below hB⟩
      · have mb : (b.toList == []) = false := by simpa using hb
        have kb : b.toList.isEmpty = false := by simpa using hb
        go_enter Try.func75, Try.ntmps75
        go_wp2_with fail
        refine (has2 _).mono ?_
        rintro e w0 ⟨rfl, rfl⟩
        go_wp2_with fail
        refine (HR.out _).mono ?_
        rintro e w1 ⟨rfl, hB⟩
        obtain ⟨c0, _⟩ := kept_box (v := .int .i64 2) hB 0 rfl
        obtain ⟨c1, _⟩ := kept_box (v := .string r) hB 1 rfl
        obtain ⟨c2, _⟩ := kept_box (v := .string o) hB 2 rfl
        obtain ⟨c3, _⟩ := kept_box (v := .string b) hB 3 rfl
        obtain ⟨c4, _⟩ := kept_box (v := .int .i64 n) hB 4 rfl
        go_wp2_with fail
        refine (HO.out _).mono ?_
        rintro e w2 ⟨rfl, hB'⟩
        replace hB := chain hB hB'
        clear hB'
        clear c0 c1 c2 c3 c4
        obtain ⟨c0, _⟩ := kept_box (v := .int .i64 2) hB 0 rfl
        obtain ⟨c1, _⟩ := kept_box (v := .string r) hB 1 rfl
        obtain ⟨c2, _⟩ := kept_box (v := .string o) hB 2 rfl
        obtain ⟨c3, _⟩ := kept_box (v := .string b) hB 3 rfl
        obtain ⟨c4, _⟩ := kept_box (v := .int .i64 n) hB 4 rfl
        go_wp2
        all_goals
          go_ret
          exact ⟨ret_bool (by (try simp only [e1.out, e2.out, e3.out, OpsM.nil0]); simp [*]; try rfl), box_below hB⟩
set_option maxHeartbeats 1000000 in
set_option maxRecDepth 100000 in
theorem rright3 (n : Int) (r o b : ByteArray) (w : World) (hr : r.size ≤ 100000) (ho : o.size ≤ 100000) (hb : b.size ≤ 100000) :
    Calls Try.prog 75 #[lnv 3 r o b n] w fun e w' => e = .returned (.bool (OpsM.right 3 r.data.toList o.data.toList b.data.toList n)) ∧ Below w.heap.size w w' := by
  have E := Lib.hid (show OpsM.right 3 r.data.toList o.data.toList b.data.toList n = (OpsM.regB r.data.toList && (WordM.nameB o.data.toList && (OpsM.emp b.data.toList && OpsM.nil0 n))) from rfl)
  have e1 := Lib.hid (emp_of r)
  have e2 := Lib.hid (emp_of o)
  have e3 := Lib.hid (emp_of b)
  have HR := Lib.hid (fun W => rreg_any r W)
  have HO := Lib.hid (fun W => rname_any o W ho)
  have HB := Lib.hid (fun W => rname_any b W hb)
  have hs := reg_sign r.data.toList
  clear hr ho hb
  rw [E.out]
  clear E
  generalize OpsM.regB r.data.toList = q0 at *
  generalize WordM.regNo r.data.toList = rn at *
  generalize WordM.nameB o.data.toList = q1 at *
  unfold lnv
  cases q0
  · simp only [Bool.not_false] at hs
    go_enter Try.func75, Try.ntmps75
    go_wp2_with fail
    refine (has3 _).mono ?_
    rintro e w0 ⟨rfl, rfl⟩
    go_wp2_with fail
    refine (HR.out _).mono ?_
    rintro e w1 ⟨rfl, hB⟩
    obtain ⟨c0, _⟩ := kept_box (v := .int .i64 3) hB 0 rfl
    obtain ⟨c1, _⟩ := kept_box (v := .string r) hB 1 rfl
    obtain ⟨c2, _⟩ := kept_box (v := .string o) hB 2 rfl
    obtain ⟨c3, _⟩ := kept_box (v := .string b) hB 3 rfl
    obtain ⟨c4, _⟩ := kept_box (v := .int .i64 n) hB 4 rfl
    go_wp2
    all_goals
      go_ret
      exact ⟨ret_bool (by (try simp only [e1.out, e2.out, e3.out, OpsM.nil0]); simp [*]; try rfl), box_below hB⟩
  · simp only [Bool.not_true] at hs
    cases q1
    · go_enter Try.func75, Try.ntmps75
      go_wp2_with fail
      refine (has3 _).mono ?_
      rintro e w0 ⟨rfl, rfl⟩
      go_wp2_with fail
      refine (HR.out _).mono ?_
      rintro e w1 ⟨rfl, hB⟩
      obtain ⟨c0, _⟩ := kept_box (v := .int .i64 3) hB 0 rfl
      obtain ⟨c1, _⟩ := kept_box (v := .string r) hB 1 rfl
      obtain ⟨c2, _⟩ := kept_box (v := .string o) hB 2 rfl
      obtain ⟨c3, _⟩ := kept_box (v := .string b) hB 3 rfl
      obtain ⟨c4, _⟩ := kept_box (v := .int .i64 n) hB 4 rfl
      go_wp2_with fail
      refine (HO.out _).mono ?_
      rintro e w2 ⟨rfl, hB'⟩
      replace hB := chain hB hB'
      clear hB'
      clear c0 c1 c2 c3 c4
      obtain ⟨c0, _⟩ := kept_box (v := .int .i64 3) hB 0 rfl
      obtain ⟨c1, _⟩ := kept_box (v := .string r) hB 1 rfl
      obtain ⟨c2, _⟩ := kept_box (v := .string o) hB 2 rfl
      obtain ⟨c3, _⟩ := kept_box (v := .string b) hB 3 rfl
      obtain ⟨c4, _⟩ := kept_box (v := .int .i64 n) hB 4 rfl
      go_wp2
      all_goals
        go_ret
        exact ⟨ret_bool (by (try simp only [e1.out, e2.out, e3.out, OpsM.nil0]); simp [*]; try rfl), box_below hB⟩
    · skip
      by_cases hb : b.toList = []
      · skip
        go_enter Try.func75, Try.ntmps75
        go_wp2_with fail
        refine (has3 _).mono ?_
        rintro e w0 ⟨rfl, rfl⟩
        go_wp2_with fail
        refine (HR.out _).mono ?_
        rintro e w1 ⟨rfl, hB⟩
        obtain ⟨c0, _⟩ := kept_box (v := .int .i64 3) hB 0 rfl
        obtain ⟨c1, _⟩ := kept_box (v := .string r) hB 1 rfl
        obtain ⟨c2, _⟩ := kept_box (v := .string o) hB 2 rfl
        obtain ⟨c3, _⟩ := kept_box (v := .string b) hB 3 rfl
        obtain ⟨c4, _⟩ := kept_box (v := .int .i64 n) hB 4 rfl
        go_wp2_with fail
        refine (HO.out _).mono ?_
        rintro e w2 ⟨rfl, hB'⟩
        replace hB := chain hB hB'
        clear hB'
        clear c0 c1 c2 c3 c4
        obtain ⟨c0, _⟩ := kept_box (v := .int .i64 3) hB 0 rfl
        obtain ⟨c1, _⟩ := kept_box (v := .string r) hB 1 rfl
        obtain ⟨c2, _⟩ := kept_box (v := .string o) hB 2 rfl
        obtain ⟨c3, _⟩ := kept_box (v := .string b) hB 3 rfl
        obtain ⟨c4, _⟩ := kept_box (v := .int .i64 n) hB 4 rfl
        go_wp2
        all_goals
          go_ret
          exact ⟨ret_bool (by (try simp only [e1.out, e2.out, e3.out, OpsM.nil0]); simp [*]; try rfl), box_below hB⟩
      · have mb : (b.toList == []) = false := by simpa using hb
        have kb : b.toList.isEmpty = false := by simpa using hb
        go_enter Try.func75, Try.ntmps75
        go_wp2_with fail
        refine (has3 _).mono ?_
        rintro e w0 ⟨rfl, rfl⟩
        go_wp2_with fail
        refine (HR.out _).mono ?_
        rintro e w1 ⟨rfl, hB⟩
        obtain ⟨c0, _⟩ := kept_box (v := .int .i64 3) hB 0 rfl
        obtain ⟨c1, _⟩ := kept_box (v := .string r) hB 1 rfl
        obtain ⟨c2, _⟩ := kept_box (v := .string o) hB 2 rfl
        obtain ⟨c3, _⟩ := kept_box (v := .string b) hB 3 rfl
        obtain ⟨c4, _⟩ := kept_box (v := .int .i64 n) hB 4 rfl
        go_wp2_with fail
        refine (HO.out _).mono ?_
        rintro e w2 ⟨rfl, hB'⟩
        replace hB := chain hB hB'
        clear hB'
        clear c0 c1 c2 c3 c4
        obtain ⟨c0, _⟩ := kept_box (v := .int .i64 3) hB 0 rfl
        obtain ⟨c1, _⟩ := kept_box (v := .string r) hB 1 rfl
        obtain ⟨c2, _⟩ := kept_box (v := .string o) hB 2 rfl
        obtain ⟨c3, _⟩ := kept_box (v := .string b) hB 3 rfl
        obtain ⟨c4, _⟩ := kept_box (v := .int .i64 n) hB 4 rfl
        go_wp2
        all_goals
          go_ret
          exact ⟨ret_bool (by (try simp only [e1.out, e2.out, e3.out, OpsM.nil0]); simp [*]; try rfl), box_below hB⟩
set_option maxHeartbeats 1000000 in
set_option maxRecDepth 100000 in
theorem rright4 (n : Int) (r o b : ByteArray) (w : World) (hr : r.size ≤ 100000) (ho : o.size ≤ 100000) (hb : b.size ≤ 100000) :
    Calls Try.prog 75 #[lnv 4 r o b n] w fun e w' => e = .returned (.bool (OpsM.right 4 r.data.toList o.data.toList b.data.toList n)) ∧ Below w.heap.size w w' := by
  have E := Lib.hid (show OpsM.right 4 r.data.toList o.data.toList b.data.toList n = (WordM.nameB o.data.toList && (OpsM.emp r.data.toList && OpsM.emp b.data.toList)) from rfl)
  have e1 := Lib.hid (emp_of r)
  have e2 := Lib.hid (emp_of o)
  have e3 := Lib.hid (emp_of b)
  have HR := Lib.hid (fun W => rreg_any r W)
  have HO := Lib.hid (fun W => rname_any o W ho)
  have HB := Lib.hid (fun W => rname_any b W hb)
  have hs := reg_sign r.data.toList
  clear hr ho hb
  rw [E.out]
  clear E
  generalize WordM.nameB o.data.toList = q1 at *
  unfold lnv
  clear hs
  by_cases hr : r.toList = []
  · skip
    cases q1
    · go_enter Try.func75, Try.ntmps75
      go_wp2_with fail
      refine (has4 _).mono ?_
      rintro e w0 ⟨rfl, rfl⟩
      go_wp2_with fail
      refine (HO.out _).mono ?_
      rintro e w1 ⟨rfl, hB⟩
      obtain ⟨c0, _⟩ := kept_box (v := .int .i64 4) hB 0 rfl
      obtain ⟨c1, _⟩ := kept_box (v := .string r) hB 1 rfl
      obtain ⟨c2, _⟩ := kept_box (v := .string o) hB 2 rfl
      obtain ⟨c3, _⟩ := kept_box (v := .string b) hB 3 rfl
      obtain ⟨c4, _⟩ := kept_box (v := .int .i64 n) hB 4 rfl
      go_wp2
      all_goals
        go_ret
        exact ⟨ret_bool (by (try simp only [e1.out, e2.out, e3.out, OpsM.nil0]); simp [*]; try rfl), box_below hB⟩
    · skip
      by_cases hb : b.toList = []
      · skip
        go_enter Try.func75, Try.ntmps75
        go_wp2_with fail
        refine (has4 _).mono ?_
        rintro e w0 ⟨rfl, rfl⟩
        go_wp2_with fail
        refine (HO.out _).mono ?_
        rintro e w1 ⟨rfl, hB⟩
        obtain ⟨c0, _⟩ := kept_box (v := .int .i64 4) hB 0 rfl
        obtain ⟨c1, _⟩ := kept_box (v := .string r) hB 1 rfl
        obtain ⟨c2, _⟩ := kept_box (v := .string o) hB 2 rfl
        obtain ⟨c3, _⟩ := kept_box (v := .string b) hB 3 rfl
        obtain ⟨c4, _⟩ := kept_box (v := .int .i64 n) hB 4 rfl
        go_wp2
        all_goals
          go_ret
          exact ⟨ret_bool (by (try simp only [e1.out, e2.out, e3.out, OpsM.nil0]); simp [*]; try rfl), box_below hB⟩
      · have mb : (b.toList == []) = false := by simpa using hb
        have kb : b.toList.isEmpty = false := by simpa using hb
        go_enter Try.func75, Try.ntmps75
        go_wp2_with fail
        refine (has4 _).mono ?_
        rintro e w0 ⟨rfl, rfl⟩
        go_wp2_with fail
        refine (HO.out _).mono ?_
        rintro e w1 ⟨rfl, hB⟩
        obtain ⟨c0, _⟩ := kept_box (v := .int .i64 4) hB 0 rfl
        obtain ⟨c1, _⟩ := kept_box (v := .string r) hB 1 rfl
        obtain ⟨c2, _⟩ := kept_box (v := .string o) hB 2 rfl
        obtain ⟨c3, _⟩ := kept_box (v := .string b) hB 3 rfl
        obtain ⟨c4, _⟩ := kept_box (v := .int .i64 n) hB 4 rfl
        go_wp2
        all_goals
          go_ret
          exact ⟨ret_bool (by (try simp only [e1.out, e2.out, e3.out, OpsM.nil0]); simp [*]; try rfl), box_below hB⟩
  · have mr : (r.toList == []) = false := by simpa using hr
    have kr : r.toList.isEmpty = false := by simpa using hr
    go_enter Try.func75, Try.ntmps75
    go_wp2_with fail
    refine (has4 _).mono ?_
    rintro e w0 ⟨rfl, rfl⟩
    go_wp2
    all_goals
      go_ret
      exact ⟨ret_bool (by (try simp only [e1.out, e2.out, e3.out, OpsM.nil0]); simp [*]; try rfl), (Below.refl _ _).alloc (Nat.le_refl _) _⟩
set_option maxHeartbeats 1000000 in
set_option maxRecDepth 100000 in
theorem rright5 (n : Int) (r o b : ByteArray) (w : World) (hr : r.size ≤ 100000) (ho : o.size ≤ 100000) (hb : b.size ≤ 100000) :
    Calls Try.prog 75 #[lnv 5 r o b n] w fun e w' => e = .returned (.bool (OpsM.right 5 r.data.toList o.data.toList b.data.toList n)) ∧ Below w.heap.size w w' := by
  have E := Lib.hid (show OpsM.right 5 r.data.toList o.data.toList b.data.toList n = (OpsM.regB r.data.toList && (WordM.nameB o.data.toList && (OpsM.emp b.data.toList && OpsM.nil0 n))) from rfl)
  have e1 := Lib.hid (emp_of r)
  have e2 := Lib.hid (emp_of o)
  have e3 := Lib.hid (emp_of b)
  have HR := Lib.hid (fun W => rreg_any r W)
  have HO := Lib.hid (fun W => rname_any o W ho)
  have HB := Lib.hid (fun W => rname_any b W hb)
  have hs := reg_sign r.data.toList
  clear hr ho hb
  rw [E.out]
  clear E
  generalize OpsM.regB r.data.toList = q0 at *
  generalize WordM.regNo r.data.toList = rn at *
  generalize WordM.nameB o.data.toList = q1 at *
  unfold lnv
  cases q0
  · simp only [Bool.not_false] at hs
    go_enter Try.func75, Try.ntmps75
    go_wp2_with fail
    refine (has5 _).mono ?_
    rintro e w0 ⟨rfl, rfl⟩
    go_wp2_with fail
    refine (HR.out _).mono ?_
    rintro e w1 ⟨rfl, hB⟩
    obtain ⟨c0, _⟩ := kept_box (v := .int .i64 5) hB 0 rfl
    obtain ⟨c1, _⟩ := kept_box (v := .string r) hB 1 rfl
    obtain ⟨c2, _⟩ := kept_box (v := .string o) hB 2 rfl
    obtain ⟨c3, _⟩ := kept_box (v := .string b) hB 3 rfl
    obtain ⟨c4, _⟩ := kept_box (v := .int .i64 n) hB 4 rfl
    go_wp2
    all_goals
      go_ret
      exact ⟨ret_bool (by (try simp only [e1.out, e2.out, e3.out, OpsM.nil0]); simp [*]; try rfl), box_below hB⟩
  · simp only [Bool.not_true] at hs
    cases q1
    · go_enter Try.func75, Try.ntmps75
      go_wp2_with fail
      refine (has5 _).mono ?_
      rintro e w0 ⟨rfl, rfl⟩
      go_wp2_with fail
      refine (HR.out _).mono ?_
      rintro e w1 ⟨rfl, hB⟩
      obtain ⟨c0, _⟩ := kept_box (v := .int .i64 5) hB 0 rfl
      obtain ⟨c1, _⟩ := kept_box (v := .string r) hB 1 rfl
      obtain ⟨c2, _⟩ := kept_box (v := .string o) hB 2 rfl
      obtain ⟨c3, _⟩ := kept_box (v := .string b) hB 3 rfl
      obtain ⟨c4, _⟩ := kept_box (v := .int .i64 n) hB 4 rfl
      go_wp2_with fail
      refine (HO.out _).mono ?_
      rintro e w2 ⟨rfl, hB'⟩
      replace hB := chain hB hB'
      clear hB'
      clear c0 c1 c2 c3 c4
      obtain ⟨c0, _⟩ := kept_box (v := .int .i64 5) hB 0 rfl
      obtain ⟨c1, _⟩ := kept_box (v := .string r) hB 1 rfl
      obtain ⟨c2, _⟩ := kept_box (v := .string o) hB 2 rfl
      obtain ⟨c3, _⟩ := kept_box (v := .string b) hB 3 rfl
      obtain ⟨c4, _⟩ := kept_box (v := .int .i64 n) hB 4 rfl
      go_wp2
      all_goals
        go_ret
        exact ⟨ret_bool (by (try simp only [e1.out, e2.out, e3.out, OpsM.nil0]); simp [*]; try rfl), box_below hB⟩
    · skip
      by_cases hb : b.toList = []
      · skip
        go_enter Try.func75, Try.ntmps75
        go_wp2_with fail
        refine (has5 _).mono ?_
        rintro e w0 ⟨rfl, rfl⟩
        go_wp2_with fail
        refine (HR.out _).mono ?_
        rintro e w1 ⟨rfl, hB⟩
        obtain ⟨c0, _⟩ := kept_box (v := .int .i64 5) hB 0 rfl
        obtain ⟨c1, _⟩ := kept_box (v := .string r) hB 1 rfl
        obtain ⟨c2, _⟩ := kept_box (v := .string o) hB 2 rfl
        obtain ⟨c3, _⟩ := kept_box (v := .string b) hB 3 rfl
        obtain ⟨c4, _⟩ := kept_box (v := .int .i64 n) hB 4 rfl
        go_wp2_with fail
        refine (HO.out _).mono ?_
        rintro e w2 ⟨rfl, hB'⟩
        replace hB := chain hB hB'
        clear hB'
        clear c0 c1 c2 c3 c4
        obtain ⟨c0, _⟩ := kept_box (v := .int .i64 5) hB 0 rfl
        obtain ⟨c1, _⟩ := kept_box (v := .string r) hB 1 rfl
        obtain ⟨c2, _⟩ := kept_box (v := .string o) hB 2 rfl
        obtain ⟨c3, _⟩ := kept_box (v := .string b) hB 3 rfl
        obtain ⟨c4, _⟩ := kept_box (v := .int .i64 n) hB 4 rfl
        go_wp2
        all_goals
          go_ret
          exact ⟨ret_bool (by (try simp only [e1.out, e2.out, e3.out, OpsM.nil0]); simp [*]; try rfl), box_below hB⟩
      · have mb : (b.toList == []) = false := by simpa using hb
        have kb : b.toList.isEmpty = false := by simpa using hb
        go_enter Try.func75, Try.ntmps75
        go_wp2_with fail
        refine (has5 _).mono ?_
        rintro e w0 ⟨rfl, rfl⟩
        go_wp2_with fail
        refine (HR.out _).mono ?_
        rintro e w1 ⟨rfl, hB⟩
        obtain ⟨c0, _⟩ := kept_box (v := .int .i64 5) hB 0 rfl
        obtain ⟨c1, _⟩ := kept_box (v := .string r) hB 1 rfl
        obtain ⟨c2, _⟩ := kept_box (v := .string o) hB 2 rfl
        obtain ⟨c3, _⟩ := kept_box (v := .string b) hB 3 rfl
        obtain ⟨c4, _⟩ := kept_box (v := .int .i64 n) hB 4 rfl
        go_wp2_with fail
        refine (HO.out _).mono ?_
        rintro e w2 ⟨rfl, hB'⟩
        replace hB := chain hB hB'
        clear hB'
        clear c0 c1 c2 c3 c4
        obtain ⟨c0, _⟩ := kept_box (v := .int .i64 5) hB 0 rfl
        obtain ⟨c1, _⟩ := kept_box (v := .string r) hB 1 rfl
        obtain ⟨c2, _⟩ := kept_box (v := .string o) hB 2 rfl
        obtain ⟨c3, _⟩ := kept_box (v := .string b) hB 3 rfl
        obtain ⟨c4, _⟩ := kept_box (v := .int .i64 n) hB 4 rfl
        go_wp2
        all_goals
          go_ret
          exact ⟨ret_bool (by (try simp only [e1.out, e2.out, e3.out, OpsM.nil0]); simp [*]; try rfl), box_below hB⟩
set_option maxHeartbeats 1000000 in
set_option maxRecDepth 100000 in
theorem rright6 (n : Int) (r o b : ByteArray) (w : World) (hr : r.size ≤ 100000) (ho : o.size ≤ 100000) (hb : b.size ≤ 100000) :
    Calls Try.prog 75 #[lnv 6 r o b n] w fun e w' => e = .returned (.bool (OpsM.right 6 r.data.toList o.data.toList b.data.toList n)) ∧ Below w.heap.size w w' := by
  have E := Lib.hid (show OpsM.right 6 r.data.toList o.data.toList b.data.toList n = (OpsM.emp r.data.toList && (OpsM.emp o.data.toList && (OpsM.emp b.data.toList && OpsM.nil0 n))) from rfl)
  have e1 := Lib.hid (emp_of r)
  have e2 := Lib.hid (emp_of o)
  have e3 := Lib.hid (emp_of b)
  have HR := Lib.hid (fun W => rreg_any r W)
  have HO := Lib.hid (fun W => rname_any o W ho)
  have HB := Lib.hid (fun W => rname_any b W hb)
  have hs := reg_sign r.data.toList
  clear hr ho hb
  rw [E.out]
  clear E
  unfold lnv
  clear hs
  by_cases hr : r.toList = []
  · skip
    by_cases ho : o.toList = []
    · skip
      by_cases hb : b.toList = []
      · skip
        go_enter Try.func75, Try.ntmps75
        go_wp2_with fail
        refine (has6 _).mono ?_
        rintro e w0 ⟨rfl, rfl⟩
        go_wp2
        all_goals
          go_ret
          exact ⟨ret_bool (by (try simp only [e1.out, e2.out, e3.out, OpsM.nil0]); simp [*]; try rfl), (Below.refl _ _).alloc (Nat.le_refl _) _⟩
      · have mb : (b.toList == []) = false := by simpa using hb
        have kb : b.toList.isEmpty = false := by simpa using hb
        go_enter Try.func75, Try.ntmps75
        go_wp2_with fail
        refine (has6 _).mono ?_
        rintro e w0 ⟨rfl, rfl⟩
        go_wp2
        all_goals
          go_ret
          exact ⟨ret_bool (by (try simp only [e1.out, e2.out, e3.out, OpsM.nil0]); simp [*]; try rfl), (Below.refl _ _).alloc (Nat.le_refl _) _⟩
    · have mo : (o.toList == []) = false := by simpa using ho
      have ko : o.toList.isEmpty = false := by simpa using ho
      go_enter Try.func75, Try.ntmps75
      go_wp2_with fail
      refine (has6 _).mono ?_
      rintro e w0 ⟨rfl, rfl⟩
      go_wp2
      all_goals
        go_ret
        exact ⟨ret_bool (by (try simp only [e1.out, e2.out, e3.out, OpsM.nil0]); simp [*]; try rfl), (Below.refl _ _).alloc (Nat.le_refl _) _⟩
  · have mr : (r.toList == []) = false := by simpa using hr
    have kr : r.toList.isEmpty = false := by simpa using hr
    go_enter Try.func75, Try.ntmps75
    go_wp2_with fail
    refine (has6 _).mono ?_
    rintro e w0 ⟨rfl, rfl⟩
    go_wp2
    all_goals
      go_ret
      exact ⟨ret_bool (by (try simp only [e1.out, e2.out, e3.out, OpsM.nil0]); simp [*]; try rfl), (Below.refl _ _).alloc (Nat.le_refl _) _⟩
set_option maxHeartbeats 1000000 in
set_option maxRecDepth 100000 in
theorem rright7 (n : Int) (r o b : ByteArray) (w : World) (hr : r.size ≤ 100000) (ho : o.size ≤ 100000) (hb : b.size ≤ 100000) :
    Calls Try.prog 75 #[lnv 7 r o b n] w fun e w' => e = .returned (.bool (OpsM.right 7 r.data.toList o.data.toList b.data.toList n)) ∧ Below w.heap.size w w' := by
  have E := Lib.hid (show OpsM.right 7 r.data.toList o.data.toList b.data.toList n = (OpsM.regB r.data.toList && (OpsM.emp o.data.toList && OpsM.emp b.data.toList)) from rfl)
  have e1 := Lib.hid (emp_of r)
  have e2 := Lib.hid (emp_of o)
  have e3 := Lib.hid (emp_of b)
  have HR := Lib.hid (fun W => rreg_any r W)
  have HO := Lib.hid (fun W => rname_any o W ho)
  have HB := Lib.hid (fun W => rname_any b W hb)
  have hs := reg_sign r.data.toList
  clear hr ho hb
  rw [E.out]
  clear E
  generalize OpsM.regB r.data.toList = q0 at *
  generalize WordM.regNo r.data.toList = rn at *
  unfold lnv
  cases q0
  · simp only [Bool.not_false] at hs
    go_enter Try.func75, Try.ntmps75
    go_wp2_with fail
    refine (has7 _).mono ?_
    rintro e w0 ⟨rfl, rfl⟩
    go_wp2_with fail
    refine (HR.out _).mono ?_
    rintro e w1 ⟨rfl, hB⟩
    obtain ⟨c0, _⟩ := kept_box (v := .int .i64 7) hB 0 rfl
    obtain ⟨c1, _⟩ := kept_box (v := .string r) hB 1 rfl
    obtain ⟨c2, _⟩ := kept_box (v := .string o) hB 2 rfl
    obtain ⟨c3, _⟩ := kept_box (v := .string b) hB 3 rfl
    obtain ⟨c4, _⟩ := kept_box (v := .int .i64 n) hB 4 rfl
    go_wp2
    all_goals
      go_ret
      exact ⟨ret_bool (by (try simp only [e1.out, e2.out, e3.out, OpsM.nil0]); simp [*]; try rfl), box_below hB⟩
  · simp only [Bool.not_true] at hs
    by_cases ho : o.toList = []
    · skip
      by_cases hb : b.toList = []
      · skip
        go_enter Try.func75, Try.ntmps75
        go_wp2_with fail
        refine (has7 _).mono ?_
        rintro e w0 ⟨rfl, rfl⟩
        go_wp2_with fail
        refine (HR.out _).mono ?_
        rintro e w1 ⟨rfl, hB⟩
        obtain ⟨c0, _⟩ := kept_box (v := .int .i64 7) hB 0 rfl
        obtain ⟨c1, _⟩ := kept_box (v := .string r) hB 1 rfl
        obtain ⟨c2, _⟩ := kept_box (v := .string o) hB 2 rfl
        obtain ⟨c3, _⟩ := kept_box (v := .string b) hB 3 rfl
        obtain ⟨c4, _⟩ := kept_box (v := .int .i64 n) hB 4 rfl
        go_wp2
        all_goals
          go_ret
          exact ⟨ret_bool (by (try simp only [e1.out, e2.out, e3.out, OpsM.nil0]); simp [*]; try rfl), box_below hB⟩
      · have mb : (b.toList == []) = false := by simpa using hb
        have kb : b.toList.isEmpty = false := by simpa using hb
        go_enter Try.func75, Try.ntmps75
        go_wp2_with fail
        refine (has7 _).mono ?_
        rintro e w0 ⟨rfl, rfl⟩
        go_wp2_with fail
        refine (HR.out _).mono ?_
        rintro e w1 ⟨rfl, hB⟩
        obtain ⟨c0, _⟩ := kept_box (v := .int .i64 7) hB 0 rfl
        obtain ⟨c1, _⟩ := kept_box (v := .string r) hB 1 rfl
        obtain ⟨c2, _⟩ := kept_box (v := .string o) hB 2 rfl
        obtain ⟨c3, _⟩ := kept_box (v := .string b) hB 3 rfl
        obtain ⟨c4, _⟩ := kept_box (v := .int .i64 n) hB 4 rfl
        go_wp2
        all_goals
          go_ret
          exact ⟨ret_bool (by (try simp only [e1.out, e2.out, e3.out, OpsM.nil0]); simp [*]; try rfl), box_below hB⟩
    · have mo : (o.toList == []) = false := by simpa using ho
      have ko : o.toList.isEmpty = false := by simpa using ho
      go_enter Try.func75, Try.ntmps75
      go_wp2_with fail
      refine (has7 _).mono ?_
      rintro e w0 ⟨rfl, rfl⟩
      go_wp2_with fail
      refine (HR.out _).mono ?_
      rintro e w1 ⟨rfl, hB⟩
      obtain ⟨c0, _⟩ := kept_box (v := .int .i64 7) hB 0 rfl
      obtain ⟨c1, _⟩ := kept_box (v := .string r) hB 1 rfl
      obtain ⟨c2, _⟩ := kept_box (v := .string o) hB 2 rfl
      obtain ⟨c3, _⟩ := kept_box (v := .string b) hB 3 rfl
      obtain ⟨c4, _⟩ := kept_box (v := .int .i64 n) hB 4 rfl
      go_wp2
      all_goals
        go_ret
        exact ⟨ret_bool (by (try simp only [e1.out, e2.out, e3.out, OpsM.nil0]); simp [*]; try rfl), box_below hB⟩
set_option maxHeartbeats 1000000 in
set_option maxRecDepth 100000 in
theorem rright8 (n : Int) (r o b : ByteArray) (w : World) (hr : r.size ≤ 100000) (ho : o.size ≤ 100000) (hb : b.size ≤ 100000) :
    Calls Try.prog 75 #[lnv 8 r o b n] w fun e w' => e = .returned (.bool (OpsM.right 8 r.data.toList o.data.toList b.data.toList n)) ∧ Below w.heap.size w w' := by
  have E := Lib.hid (show OpsM.right 8 r.data.toList o.data.toList b.data.toList n = (WordM.nameB b.data.toList && (OpsM.emp r.data.toList && (OpsM.emp o.data.toList && OpsM.nil0 n))) from rfl)
  have e1 := Lib.hid (emp_of r)
  have e2 := Lib.hid (emp_of o)
  have e3 := Lib.hid (emp_of b)
  have HR := Lib.hid (fun W => rreg_any r W)
  have HO := Lib.hid (fun W => rname_any o W ho)
  have HB := Lib.hid (fun W => rname_any b W hb)
  have hs := reg_sign r.data.toList
  clear hr ho hb
  rw [E.out]
  clear E
  generalize WordM.nameB b.data.toList = q2 at *
  unfold lnv
  clear hs
  by_cases hr : r.toList = []
  · skip
    by_cases ho : o.toList = []
    · skip
      cases q2
      · go_enter Try.func75, Try.ntmps75
        go_wp2_with fail
        refine (has8 _).mono ?_
        rintro e w0 ⟨rfl, rfl⟩
        go_wp2_with fail
        refine (HB.out _).mono ?_
        rintro e w1 ⟨rfl, hB⟩
        obtain ⟨c0, _⟩ := kept_box (v := .int .i64 8) hB 0 rfl
        obtain ⟨c1, _⟩ := kept_box (v := .string r) hB 1 rfl
        obtain ⟨c2, _⟩ := kept_box (v := .string o) hB 2 rfl
        obtain ⟨c3, _⟩ := kept_box (v := .string b) hB 3 rfl
        obtain ⟨c4, _⟩ := kept_box (v := .int .i64 n) hB 4 rfl
        go_wp2
        all_goals
          go_ret
          exact ⟨ret_bool (by (try simp only [e1.out, e2.out, e3.out, OpsM.nil0]); simp [*]; try rfl), box_below hB⟩
      · skip
        go_enter Try.func75, Try.ntmps75
        go_wp2_with fail
        refine (has8 _).mono ?_
        rintro e w0 ⟨rfl, rfl⟩
        go_wp2_with fail
        refine (HB.out _).mono ?_
        rintro e w1 ⟨rfl, hB⟩
        obtain ⟨c0, _⟩ := kept_box (v := .int .i64 8) hB 0 rfl
        obtain ⟨c1, _⟩ := kept_box (v := .string r) hB 1 rfl
        obtain ⟨c2, _⟩ := kept_box (v := .string o) hB 2 rfl
        obtain ⟨c3, _⟩ := kept_box (v := .string b) hB 3 rfl
        obtain ⟨c4, _⟩ := kept_box (v := .int .i64 n) hB 4 rfl
        go_wp2
        all_goals
          go_ret
          exact ⟨ret_bool (by (try simp only [e1.out, e2.out, e3.out, OpsM.nil0]); simp [*]; try rfl), box_below hB⟩
    · have mo : (o.toList == []) = false := by simpa using ho
      have ko : o.toList.isEmpty = false := by simpa using ho
      go_enter Try.func75, Try.ntmps75
      go_wp2_with fail
      refine (has8 _).mono ?_
      rintro e w0 ⟨rfl, rfl⟩
      go_wp2
      all_goals
        go_ret
        exact ⟨ret_bool (by (try simp only [e1.out, e2.out, e3.out, OpsM.nil0]); simp [*]; try rfl), (Below.refl _ _).alloc (Nat.le_refl _) _⟩
  · have mr : (r.toList == []) = false := by simpa using hr
    have kr : r.toList.isEmpty = false := by simpa using hr
    go_enter Try.func75, Try.ntmps75
    go_wp2_with fail
    refine (has8 _).mono ?_
    rintro e w0 ⟨rfl, rfl⟩
    go_wp2
    all_goals
      go_ret
      exact ⟨ret_bool (by (try simp only [e1.out, e2.out, e3.out, OpsM.nil0]); simp [*]; try rfl), (Below.refl _ _).alloc (Nat.le_refl _) _⟩
set_option maxHeartbeats 1000000 in
set_option maxRecDepth 100000 in
theorem rright9 (n : Int) (r o b : ByteArray) (w : World) (hr : r.size ≤ 100000) (ho : o.size ≤ 100000) (hb : b.size ≤ 100000) :
    Calls Try.prog 75 #[lnv 9 r o b n] w fun e w' => e = .returned (.bool (OpsM.right 9 r.data.toList o.data.toList b.data.toList n)) ∧ Below w.heap.size w w' := by
  have E := Lib.hid (show OpsM.right 9 r.data.toList o.data.toList b.data.toList n = (WordM.nameB b.data.toList && (OpsM.emp r.data.toList && (OpsM.emp o.data.toList && OpsM.nil0 n))) from rfl)
  have e1 := Lib.hid (emp_of r)
  have e2 := Lib.hid (emp_of o)
  have e3 := Lib.hid (emp_of b)
  have HR := Lib.hid (fun W => rreg_any r W)
  have HO := Lib.hid (fun W => rname_any o W ho)
  have HB := Lib.hid (fun W => rname_any b W hb)
  have hs := reg_sign r.data.toList
  clear hr ho hb
  rw [E.out]
  clear E
  generalize WordM.nameB b.data.toList = q2 at *
  unfold lnv
  clear hs
  by_cases hr : r.toList = []
  · skip
    by_cases ho : o.toList = []
    · skip
      cases q2
      · go_enter Try.func75, Try.ntmps75
        go_wp2_with fail
        refine (has9 _).mono ?_
        rintro e w0 ⟨rfl, rfl⟩
        go_wp2_with fail
        refine (HB.out _).mono ?_
        rintro e w1 ⟨rfl, hB⟩
        obtain ⟨c0, _⟩ := kept_box (v := .int .i64 9) hB 0 rfl
        obtain ⟨c1, _⟩ := kept_box (v := .string r) hB 1 rfl
        obtain ⟨c2, _⟩ := kept_box (v := .string o) hB 2 rfl
        obtain ⟨c3, _⟩ := kept_box (v := .string b) hB 3 rfl
        obtain ⟨c4, _⟩ := kept_box (v := .int .i64 n) hB 4 rfl
        go_wp2
        all_goals
          go_ret
          exact ⟨ret_bool (by (try simp only [e1.out, e2.out, e3.out, OpsM.nil0]); simp [*]; try rfl), box_below hB⟩
      · skip
        go_enter Try.func75, Try.ntmps75
        go_wp2_with fail
        refine (has9 _).mono ?_
        rintro e w0 ⟨rfl, rfl⟩
        go_wp2_with fail
        refine (HB.out _).mono ?_
        rintro e w1 ⟨rfl, hB⟩
        obtain ⟨c0, _⟩ := kept_box (v := .int .i64 9) hB 0 rfl
        obtain ⟨c1, _⟩ := kept_box (v := .string r) hB 1 rfl
        obtain ⟨c2, _⟩ := kept_box (v := .string o) hB 2 rfl
        obtain ⟨c3, _⟩ := kept_box (v := .string b) hB 3 rfl
        obtain ⟨c4, _⟩ := kept_box (v := .int .i64 n) hB 4 rfl
        go_wp2
        all_goals
          go_ret
          exact ⟨ret_bool (by (try simp only [e1.out, e2.out, e3.out, OpsM.nil0]); simp [*]; try rfl), box_below hB⟩
    · have mo : (o.toList == []) = false := by simpa using ho
      have ko : o.toList.isEmpty = false := by simpa using ho
      go_enter Try.func75, Try.ntmps75
      go_wp2_with fail
      refine (has9 _).mono ?_
      rintro e w0 ⟨rfl, rfl⟩
      go_wp2
      all_goals
        go_ret
        exact ⟨ret_bool (by (try simp only [e1.out, e2.out, e3.out, OpsM.nil0]); simp [*]; try rfl), (Below.refl _ _).alloc (Nat.le_refl _) _⟩
  · have mr : (r.toList == []) = false := by simpa using hr
    have kr : r.toList.isEmpty = false := by simpa using hr
    go_enter Try.func75, Try.ntmps75
    go_wp2_with fail
    refine (has9 _).mono ?_
    rintro e w0 ⟨rfl, rfl⟩
    go_wp2
    all_goals
      go_ret
      exact ⟨ret_bool (by (try simp only [e1.out, e2.out, e3.out, OpsM.nil0]); simp [*]; try rfl), (Below.refl _ _).alloc (Nat.le_refl _) _⟩
set_option maxHeartbeats 1000000 in
set_option maxRecDepth 100000 in
theorem rright10 (n : Int) (r o b : ByteArray) (w : World) (hr : r.size ≤ 100000) (ho : o.size ≤ 100000) (hb : b.size ≤ 100000) :
    Calls Try.prog 75 #[lnv 10 r o b n] w fun e w' => e = .returned (.bool (OpsM.right 10 r.data.toList o.data.toList b.data.toList n)) ∧ Below w.heap.size w w' := by
  have E := Lib.hid (show OpsM.right 10 r.data.toList o.data.toList b.data.toList n = (WordM.nameB b.data.toList && (OpsM.emp r.data.toList && (OpsM.emp o.data.toList && OpsM.nil0 n))) from rfl)
  have e1 := Lib.hid (emp_of r)
  have e2 := Lib.hid (emp_of o)
  have e3 := Lib.hid (emp_of b)
  have HR := Lib.hid (fun W => rreg_any r W)
  have HO := Lib.hid (fun W => rname_any o W ho)
  have HB := Lib.hid (fun W => rname_any b W hb)
  have hs := reg_sign r.data.toList
  clear hr ho hb
  rw [E.out]
  clear E
  generalize WordM.nameB b.data.toList = q2 at *
  unfold lnv
  clear hs
  by_cases hr : r.toList = []
  · skip
    by_cases ho : o.toList = []
    · skip
      cases q2
      · go_enter Try.func75, Try.ntmps75
        go_wp2_with fail
        refine (has10 _).mono ?_
        rintro e w0 ⟨rfl, rfl⟩
        go_wp2_with fail
        refine (HB.out _).mono ?_
        rintro e w1 ⟨rfl, hB⟩
        obtain ⟨c0, _⟩ := kept_box (v := .int .i64 10) hB 0 rfl
        obtain ⟨c1, _⟩ := kept_box (v := .string r) hB 1 rfl
        obtain ⟨c2, _⟩ := kept_box (v := .string o) hB 2 rfl
        obtain ⟨c3, _⟩ := kept_box (v := .string b) hB 3 rfl
        obtain ⟨c4, _⟩ := kept_box (v := .int .i64 n) hB 4 rfl
        go_wp2
        all_goals
          go_ret
          exact ⟨ret_bool (by (try simp only [e1.out, e2.out, e3.out, OpsM.nil0]); simp [*]; try rfl), box_below hB⟩
      · skip
        go_enter Try.func75, Try.ntmps75
        go_wp2_with fail
        refine (has10 _).mono ?_
        rintro e w0 ⟨rfl, rfl⟩
        go_wp2_with fail
        refine (HB.out _).mono ?_
        rintro e w1 ⟨rfl, hB⟩
        obtain ⟨c0, _⟩ := kept_box (v := .int .i64 10) hB 0 rfl
        obtain ⟨c1, _⟩ := kept_box (v := .string r) hB 1 rfl
        obtain ⟨c2, _⟩ := kept_box (v := .string o) hB 2 rfl
        obtain ⟨c3, _⟩ := kept_box (v := .string b) hB 3 rfl
        obtain ⟨c4, _⟩ := kept_box (v := .int .i64 n) hB 4 rfl
        go_wp2
        all_goals
          go_ret
          exact ⟨ret_bool (by (try simp only [e1.out, e2.out, e3.out, OpsM.nil0]); simp [*]; try rfl), box_below hB⟩
    · have mo : (o.toList == []) = false := by simpa using ho
      have ko : o.toList.isEmpty = false := by simpa using ho
      go_enter Try.func75, Try.ntmps75
      go_wp2_with fail
      refine (has10 _).mono ?_
      rintro e w0 ⟨rfl, rfl⟩
      go_wp2
      all_goals
        go_ret
        exact ⟨ret_bool (by (try simp only [e1.out, e2.out, e3.out, OpsM.nil0]); simp [*]; try rfl), (Below.refl _ _).alloc (Nat.le_refl _) _⟩
  · have mr : (r.toList == []) = false := by simpa using hr
    have kr : r.toList.isEmpty = false := by simpa using hr
    go_enter Try.func75, Try.ntmps75
    go_wp2_with fail
    refine (has10 _).mono ?_
    rintro e w0 ⟨rfl, rfl⟩
    go_wp2
    all_goals
      go_ret
      exact ⟨ret_bool (by (try simp only [e1.out, e2.out, e3.out, OpsM.nil0]); simp [*]; try rfl), (Below.refl _ _).alloc (Nat.le_refl _) _⟩
set_option maxHeartbeats 1000000 in
set_option maxRecDepth 100000 in
theorem rright11 (n : Int) (r o b : ByteArray) (w : World) (hr : r.size ≤ 100000) (ho : o.size ≤ 100000) (hb : b.size ≤ 100000) :
    Calls Try.prog 75 #[lnv 11 r o b n] w fun e w' => e = .returned (.bool (OpsM.right 11 r.data.toList o.data.toList b.data.toList n)) ∧ Below w.heap.size w w' := by
  have E := Lib.hid (show OpsM.right 11 r.data.toList o.data.toList b.data.toList n = (WordM.nameB b.data.toList && (OpsM.emp r.data.toList && (OpsM.emp o.data.toList && OpsM.nil0 n))) from rfl)
  have e1 := Lib.hid (emp_of r)
  have e2 := Lib.hid (emp_of o)
  have e3 := Lib.hid (emp_of b)
  have HR := Lib.hid (fun W => rreg_any r W)
  have HO := Lib.hid (fun W => rname_any o W ho)
  have HB := Lib.hid (fun W => rname_any b W hb)
  have hs := reg_sign r.data.toList
  clear hr ho hb
  rw [E.out]
  clear E
  generalize WordM.nameB b.data.toList = q2 at *
  unfold lnv
  clear hs
  by_cases hr : r.toList = []
  · skip
    by_cases ho : o.toList = []
    · skip
      cases q2
      · go_enter Try.func75, Try.ntmps75
        go_wp2_with fail
        refine (has11 _).mono ?_
        rintro e w0 ⟨rfl, rfl⟩
        go_wp2_with fail
        refine (HB.out _).mono ?_
        rintro e w1 ⟨rfl, hB⟩
        obtain ⟨c0, _⟩ := kept_box (v := .int .i64 11) hB 0 rfl
        obtain ⟨c1, _⟩ := kept_box (v := .string r) hB 1 rfl
        obtain ⟨c2, _⟩ := kept_box (v := .string o) hB 2 rfl
        obtain ⟨c3, _⟩ := kept_box (v := .string b) hB 3 rfl
        obtain ⟨c4, _⟩ := kept_box (v := .int .i64 n) hB 4 rfl
        go_wp2
        all_goals
          go_ret
          exact ⟨ret_bool (by (try simp only [e1.out, e2.out, e3.out, OpsM.nil0]); simp [*]; try rfl), box_below hB⟩
      · skip
        go_enter Try.func75, Try.ntmps75
        go_wp2_with fail
        refine (has11 _).mono ?_
        rintro e w0 ⟨rfl, rfl⟩
        go_wp2_with fail
        refine (HB.out _).mono ?_
        rintro e w1 ⟨rfl, hB⟩
        obtain ⟨c0, _⟩ := kept_box (v := .int .i64 11) hB 0 rfl
        obtain ⟨c1, _⟩ := kept_box (v := .string r) hB 1 rfl
        obtain ⟨c2, _⟩ := kept_box (v := .string o) hB 2 rfl
        obtain ⟨c3, _⟩ := kept_box (v := .string b) hB 3 rfl
        obtain ⟨c4, _⟩ := kept_box (v := .int .i64 n) hB 4 rfl
        go_wp2
        all_goals
          go_ret
          exact ⟨ret_bool (by (try simp only [e1.out, e2.out, e3.out, OpsM.nil0]); simp [*]; try rfl), box_below hB⟩
    · have mo : (o.toList == []) = false := by simpa using ho
      have ko : o.toList.isEmpty = false := by simpa using ho
      go_enter Try.func75, Try.ntmps75
      go_wp2_with fail
      refine (has11 _).mono ?_
      rintro e w0 ⟨rfl, rfl⟩
      go_wp2
      all_goals
        go_ret
        exact ⟨ret_bool (by (try simp only [e1.out, e2.out, e3.out, OpsM.nil0]); simp [*]; try rfl), (Below.refl _ _).alloc (Nat.le_refl _) _⟩
  · have mr : (r.toList == []) = false := by simpa using hr
    have kr : r.toList.isEmpty = false := by simpa using hr
    go_enter Try.func75, Try.ntmps75
    go_wp2_with fail
    refine (has11 _).mono ?_
    rintro e w0 ⟨rfl, rfl⟩
    go_wp2
    all_goals
      go_ret
      exact ⟨ret_bool (by (try simp only [e1.out, e2.out, e3.out, OpsM.nil0]); simp [*]; try rfl), (Below.refl _ _).alloc (Nat.le_refl _) _⟩
set_option maxHeartbeats 1000000 in
set_option maxRecDepth 100000 in
theorem hasNo (op : Int) (w : World) (h : op < 1 ∨ 11 < op) : Calls Try.prog 81 #[.int .i64 op] w fun e w' => e = .returned (.tuple #[.bool false, .bool false, .bool false, .bool false]) ∧ w = w' := by
  have g1 : (op == 1) = false := beq_eq_false_iff_ne.2 (by omega)
  have g2 : (op == 2) = false := beq_eq_false_iff_ne.2 (by omega)
  have g3 : (op == 3) = false := beq_eq_false_iff_ne.2 (by omega)
  have g4 : (op == 4) = false := beq_eq_false_iff_ne.2 (by omega)
  have g5 : (op == 5) = false := beq_eq_false_iff_ne.2 (by omega)
  have g6 : (op == 6) = false := beq_eq_false_iff_ne.2 (by omega)
  have g7 : (op == 7) = false := beq_eq_false_iff_ne.2 (by omega)
  rcases h with h | h
  · have q1 : decide (8 ≤ op) = false := decide_eq_false (by omega)
    have h2 : op < 8 := by omega
    clear h
    go_enter Try.func81, Try.ntmps81
    go_wp2
    exact bodyPost_ret (v := .tuple #[.bool false, .bool false, .bool false, .bool false]) (by simp [results, Try.results81, go_sem]) rfl ⟨rfl, rfl⟩
  · have q1 : decide (8 ≤ op) = true := decide_eq_true (by omega)
    have q2 : decide (op ≤ 11) = false := decide_eq_false (by omega)
    have h2 : 8 ≤ op := by omega
    clear h2
    go_enter Try.func81, Try.ntmps81
    go_wp2
    exact bodyPost_ret (v := .tuple #[.bool false, .bool false, .bool false, .bool false]) (by simp [results, Try.results81, go_sem]) rfl ⟨rfl, rfl⟩
set_option maxHeartbeats 1000000 in
set_option maxRecDepth 100000 in
theorem rrightNo (op n : Int) (r o b : ByteArray) (w : World) (h : op < 1 ∨ 11 < op) :
    Calls Try.prog 75 #[lnv op r o b n] w fun e w' => e = .returned (.bool false) ∧ Below w.heap.size w w' := by
  have HH := Lib.hid (fun W => hasNo op W h)
  unfold lnv
  rcases h with h | h
  · have q1 : decide (op < 1) = true := decide_eq_true h
    go_enter Try.func75, Try.ntmps75
    go_wp2_with fail
    refine (HH.out _).mono ?_
    rintro e w0 ⟨rfl, rfl⟩
    go_wp2
    go_ret
    exact ⟨rfl, (Below.refl _ _).alloc (Nat.le_refl _) _⟩
  · have q1 : decide (op < 1) = false := decide_eq_false (by omega)
    have q2 : decide (11 < op) = true := decide_eq_true h
    go_enter Try.func75, Try.ntmps75
    go_wp2_with fail
    refine (HH.out _).mono ?_
    rintro e w0 ⟨rfl, rfl⟩
    go_wp2
    go_ret
    exact ⟨rfl, (Below.refl _ _).alloc (Nat.le_refl _) _⟩
theorem rright_any (op n : Int) (r o b : ByteArray) (w : World) (hr : r.size ≤ 100000) (ho : o.size ≤ 100000) (hb : b.size ≤ 100000) :
    Calls Try.prog 75 #[lnv op r o b n] w fun e w' => e = .returned (.bool (OpsM.right op r.data.toList o.data.toList b.data.toList n)) ∧ Below w.heap.size w w' := by
  by_cases h1 : op = 1
  · subst h1; exact rright1 n r o b w hr ho hb
  by_cases h2 : op = 2
  · subst h2; exact rright2 n r o b w hr ho hb
  by_cases h3 : op = 3
  · subst h3; exact rright3 n r o b w hr ho hb
  by_cases h4 : op = 4
  · subst h4; exact rright4 n r o b w hr ho hb
  by_cases h5 : op = 5
  · subst h5; exact rright5 n r o b w hr ho hb
  by_cases h6 : op = 6
  · subst h6; exact rright6 n r o b w hr ho hb
  by_cases h7 : op = 7
  · subst h7; exact rright7 n r o b w hr ho hb
  by_cases h8 : op = 8
  · subst h8; exact rright8 n r o b w hr ho hb
  by_cases h9 : op = 9
  · subst h9; exact rright9 n r o b w hr ho hb
  by_cases h10 : op = 10
  · subst h10; exact rright10 n r o b w hr ho hb
  by_cases h11 : op = 11
  · subst h11; exact rright11 n r o b w hr ho hb
  rw [show OpsM.right op r.data.toList o.data.toList b.data.toList n = false by simp [OpsM.right, h1, h2, h3, h4, h5, h6, h7, h8, h9, h10, h11]]
  exact rrightNo op n r o b w (by omega)
end Go.Proofs.Ytaelfjphgdlbcaa
