/-
  code.firstNumber; each location's first number, as a row.
  code.maker: the step of a line; where its jump goes.
  code.maker$2: a line's step, as a row of one; none of a label.
  code.maker, each line's steps, joined: the steps of a thread.
  code.joined, and the steps of a thread.
-/
import Derived.Test.YtaelfjphgdlbcaaGreatDoorCd1
import Derived.Test.YtaelfjphgdlbcaaGreatDoorChk
import Derived.Test.YtaelfjphgdlbcaaGreatDoorRHl
import Derived.Deep.RegionHeld3
import Derived.Test.YtaelfjphgdlbcaaGreatDoorAppS
namespace Go.Proofs.YtaelfjphgdlbcaaGreatDoor
open Go.RowKit
set_option linter.unusedVariables false
set_option linter.unusedSimpArgs false
open WordM (L)
open VM
open CodM (St Pg fstN)

/-- No cell ahead of the k-th is the location's. -/
def FnRel (cs : List (L × Int)) (s : L) (w : World) (i : Value) (wr : World) : Prop :=
  ∃ k : Nat, k ≤ cs.length ∧ i = .int .i64 k ∧ (∀ j (hj : j < cs.length), j < k → ¬ cs[j].1 = s) ∧ Below w.heap.size w wr
set_option maxHeartbeats 4000000 in
set_option maxRecDepth 100000 in
theorem firstn_any {B : Nat} {v : Value} {cs : List (L × Int)} (s : L) (w : World) (h : Cls B w v cs) (hBB : B ≤ w.heap.size) :
    Calls Tryz.prog 20 #[v, .string ⟨s.toArray⟩] w fun e w' => e = .returned (.int .i64 (fstN cs s)) ∧ Below w.heap.size w w' := by
  obtain ⟨A1, c1, rfl, h1, h2, h3⟩ := h
  unfold maxLen at h2
  go_enter Tryz.func20, Tryz.ntmps20
  go_wp2
  go_loopw [9] (fun i wr => FnRel cs s w i wr) (fun i _ => cs.length - (intOf i).toNat)
  case atStart => exact ⟨0, Nat.zero_le _, rfl, fun j _ h => absurd h (Nat.not_lt_zero j), Below.refl _ _⟩
  case round =>
    obtain ⟨k, hk, rfl, hall, hB⟩ := hrel
    have HA := Lib.hid hall
    clear hall
    by_cases hlt : k < cs.length
    · obtain ⟨b1, f1, rfl, hb1, hcl⟩ := h3 (by omega)
      obtain ⟨z0, z1⟩ := (hcl k hlt).below (hB.mono hBB) hb1
      have HN := Lib.hid (fun (h : cs[k].1 = s) => CodM.fstN_hit hlt HA.out h)
      have HY := Lib.hid (fun (h : ¬ cs[k].1 = s) (j : Nat) (hj : j < cs.length) (hjk : j < k + 1) => show ¬ cs[j].1 = s by
        by_cases e : j = k
        · subst e; exact h
        · exact HA.out j hj (by omega))
      have q := beq_dec cs[k].1 s
      obtain ⟨x, hx⟩ : ∃ x, x = cs[k] := ⟨_, rfl⟩
      rw [← hx] at z0 z1 HN HY q
      have hB1 := below_al hB (.cells #[.string ⟨x.1.toArray⟩, .int .i64 x.2] 66)
      clear hx hcl h3 HA
      by_cases he : x.1 = s
      · have HE := Lib.hid (HN.out he)
        rw [decide_eq_true he] at q
        clear he HN HY
        go_wp2
        go_ret
        exact ⟨ret_int HE.out.symm, hB1⟩
      · have HE := Lib.hid (HY.out he)
        rw [decide_eq_false he] at q
        clear he HN HY
        go_wp2
        go_roundw
        case rel => exact ⟨k + 1, by omega, by go_num, HE.out, hB1⟩
        case measure => simp [intOf]; omega
    · obtain rfl : cs.length = k := by omega
      have HE := Lib.hid (CodM.fstN_none (fun j hj => HA.out j hj hj))
      clear h3
      go_wp2
      go_ret
      exact ⟨ret_int HE.out.symm, hB⟩
set_option maxHeartbeats 4000000 in
set_option maxRecDepth 100000 in
theorem codec1_any {B g : Nat} {nm : ByteArray} {vi vt vc : Value} {al : Bool} {cs : List (L × Int)} (s : L) (w : World) (hb : FlBox w g nm vi vt vc al) (h : Cls B w vi cs) (hBB : B ≤ w.heap.size) :
    Calls Tryz.prog 19 #[.string ⟨s.toArray⟩, .pointer (some ⟨g, 0, none⟩)] w fun e w' => e = .returned (.int .i64 (fstN cs s)) ∧ Below w.heap.size w w' := by
  obtain ⟨t0, t1, t2, t3, t4⟩ := hb
  have HF := Lib.hid (firstn_any s w h hBB)
  obtain ⟨A1, c1, rfl, -⟩ := h
  generalize fstN cs s = r at *
  go_enter Tryz.func19, Tryz.ntmps19
  go_wp2_with fail
  refine HF.out.mono ?_
  rintro e w1 ⟨rfl, hb⟩
  clear HF
  go_wp2
  go_ret
  exact ⟨rfl, hb⟩
theorem info_int : (Tryz.prog.info? 3).map (fun i => (i.zero, i.size, i.bytes)) = some (some (.int .i64 0), 1, 8) := by kernel_rfl
def EsRel (cs : List (L × Int)) (ls : List L) (w : World) (v i : Value) (wr : World) : Prop :=
  ∃ k : Nat, k ≤ ls.length ∧ i = .int .i64 k ∧ wr.ownsRow w.heap.size 3 1 v k (intCs ((ls.take k).map (fstN cs))) ∧ Below w.heap.size w wr
set_option maxHeartbeats 4000000 in
set_option maxRecDepth 100000 in
theorem eachsi_any {B g : Nat} {nm : ByteArray} {vi vt vc v : Value} {al : Bool} {cs : List (L × Int)} {ls : List L} (w : World) (hb : FlBox w g nm vi vt vc al) (h : Cls B w vi cs) (hs : Strs B w v ls) (hBB : B ≤ w.heap.size) (hl : ls.length ≤ 1000000) :
    Calls Tryz.prog 25 #[v, .func (.func 19) #[] #[.pointer (some ⟨g, 0, none⟩)]] w fun e w' => ∃ v', e = .returned v' ∧ w'.ownsRow w.heap.size 3 1 v' ls.length (intCs (ls.map (fstN cs))) ∧ Below w.heap.size w w' := by
  obtain ⟨i0, hi, hz0, hz1, hz2⟩ := info_parts info_int
  obtain ⟨A1, c1, rfl, ha1, ha2, ha3⟩ := hs
  unfold maxLen at ha2
  have HB := Lib.hid hb
  have HC := Lib.hid h
  clear hb h
  go_enter Tryz.func25, Tryz.ntmps25
  go_wp2
  go_loopw [5, 10] (fun v i wr => EsRel cs ls w v i wr) (fun _ i _ => ls.length - (intOf i).toNat)
  case atStart => exact ⟨0, Nat.zero_le _, rfl, World.ownsRow_nil _ _ _ _, Below.refl _ _⟩
  case round =>
    obtain ⟨k, hk, rfl, hown, hB⟩ := hrel
    by_cases hlt : k < ls.length
    · obtain ⟨b1, f1, rfl, hb1, hcl⟩ := ha3 (by omega)
      have e1 : wr.cell? ⟨b1, f1 + k, none⟩ = some (sv ls[k]) := ((hB.mono hBB).cell (p := ⟨b1, f1 + k, none⟩) hb1).trans (hcl k hlt)
      unfold sv at e1
      have HT := Lib.hid (show (ls.take (k + 1)).map (fstN cs) = (ls.take k).map (fstN cs) ++ [fstN cs ls[k]] by rw [List.take_succ_eq_append_getElem hlt, List.map_append]; rfl)
      have HF := Lib.hid (codec1_any ls[k] wr (HB.out.below hB) (HC.out.below (hB.mono hBB)) (Nat.le_trans hBB hB.size))
      generalize fstN cs ls[k] = r at *
      obtain ⟨x, hx⟩ : ∃ x, x = ls[k] := ⟨_, rfl⟩
      rw [← hx] at e1 HF
      clear hx hcl ha3
      go_wp2_with fail
      refine HF.out.mono ?_
      rintro e wa ⟨rfl, hb⟩
      have hBa := chain hB hb
      have hOa := own_below hown hb
      have hsz := hBa.size
      clear HF e1 hown hB hb
      go_wp2_with (at_builtin; refine wpList_append_own _ rfl _ _ 22 rfl w.heap.size 3 i0 (.int .i64 0) 1 8 Tryz.underlying22 hi hz0 hz1 hz2 rfl (by decide) _ _ _ rfl (hOa.alloc _) ⟨wa.heap.size, 0, none⟩ 1 1 [.int .i64 r] rfl rfl (cell_one_new _ _ _) (by simp [Value.oneCell']) (by unfold maxLen; omega) (by omega) (by simp; omega) ?_; intro v1 w1 hown1 hg1 _)
      have hB1 := below_append (hBa.alloc hBa.size (.cells #[.int .i64 r] 3)) (hOa.alloc _) (Nat.le_refl _) (by simp; omega) hg1
      go_roundw
      case rel => exact ⟨k + 1, by omega, by go_num, by rw [HT.out, intCs_app]; exact hown1, hB1⟩
      case measure => simp [intOf]; omega
    · obtain rfl : ls.length = k := by omega
      rw [List.take_length] at hown
      clear ha3
      go_wp2
      go_ret
      exact ⟨_, rfl, hown, hB⟩
end Go.Proofs.YtaelfjphgdlbcaaGreatDoor
namespace Go.Proofs.YtaelfjphgdlbcaaGreatDoor
open Go.RowKit
set_option linter.unusedVariables false
set_option linter.unusedSimpArgs false
open WordM (L)
open VM
open CodM (St Pg posI pos0 isLab hasS toN cnt)

def IxRel (ls : List L) (s : L) (i : Value) : Prop :=
  ∃ k : Nat, k ≤ ls.length ∧ i = .int .i64 k ∧ (∀ j (hj : j < ls.length), j < k → decide (ls[j] = s) = false)
set_option maxHeartbeats 4000000 in
set_option maxRecDepth 100000 in
theorem index_any {B : Nat} {v : Value} {ls : List L} (s : L) (w : World) (h : Strs B w v ls) :
    Calls Tryz.prog 41 #[v, .string ⟨s.toArray⟩] w fun e w' => e = .returned (.int .i64 (posI (fun x => decide (x = s)) ls)) ∧ w = w' := by
  obtain ⟨A1, c1, rfl, ha1, ha2, ha3⟩ := h
  unfold maxLen at ha2
  go_enter Tryz.func41, Tryz.ntmps41
  go_wp2
  go_loop [8] (fun i => IxRel ls s i) (fun i => ls.length - (intOf i).toNat)
  case atStart => exact ⟨0, Nat.zero_le _, rfl, fun j _ h => absurd h (Nat.not_lt_zero j)⟩
  case round =>
    obtain ⟨k, hk, rfl, hall⟩ := hrel
    have HA := Lib.hid hall
    clear hall
    by_cases hlt : k < ls.length
    · obtain ⟨b1, f1, rfl, hb1, hcl⟩ := ha3 (by omega)
      have e1 := hcl k hlt
      unfold sv at e1
      have HN := Lib.hid (fun (h : decide (ls[k] = s) = true) => CodM.posI_hit (p := fun x => decide (x = s)) hlt HA.out h)
      have HY := Lib.hid (fun (h : decide (ls[k] = s) = false) (j : Nat) (hj : j < ls.length) (hjk : j < k + 1) => show decide (ls[j] = s) = false by
        by_cases e : j = k
        · subst e; exact h
        · exact HA.out j hj (by omega))
      have q : (s == ls[k]) = decide (ls[k] = s) := by rw [beq_dec]; exact decide_eq_decide.2 ⟨Eq.symm, Eq.symm⟩
      generalize decide (ls[k] = s) = d at *
      obtain ⟨x, hx⟩ : ∃ x, x = ls[k] := ⟨_, rfl⟩
      rw [← hx] at e1 q
      clear hx hcl ha3 HA
      cases d
      · go_wp2
        go_round
        case rel => exact ⟨k + 1, by omega, by go_num, HY.out (by trivial)⟩
        case measure => simp [intOf]; omega
      · go_wp2
        go_ret
        exact ⟨ret_int (HN.out (by trivial)).symm, rfl⟩
    · obtain rfl : ls.length = k := by omega
      have HE := Lib.hid (CodM.posI_none (p := fun x => decide (x = s)) (fun j hj => HA.out j hj hj))
      clear ha3
      go_wp2
      go_ret
      exact ⟨ret_int HE.out.symm, rfl⟩
set_option maxHeartbeats 4000000 in
set_option maxRecDepth 100000 in
theorem islab_any {g : Nat} {op n : Int} {r o : ByteArray} {s : L} (x : OpsM.Ln) (w : World) (hb : LnBox w g op r o ⟨s.toArray⟩ n) :
    Calls Tryz.prog 38 #[lnW x, .pointer (some ⟨g, 0, none⟩)] w fun e w' => e = .returned (.bool (isLab s x)) ∧ Below w.heap.size w w' := by
  have hB := below_al (Below.refl w.heap.size w) (.cells #[.int .i64 x.op, .string ⟨x.reg.toArray⟩, .string ⟨x.loc.toArray⟩, .string ⟨x.label.toArray⟩, .int .i64 x.n] 42)
  have hbx := LnBox.new w x.op x.n ⟨x.reg.toArray⟩ ⟨x.loc.toArray⟩ ⟨x.label.toArray⟩ 42
  have HB := Lib.hid (hb.below hB)
  have HX := Lib.hid hbx
  have HH := fun W => has_any x W
  have q : (x.label == s) = decide (x.label = s) := beq_dec _ _
  have HE := Lib.hid (show isLab s x = (!(hasS x) && decide (x.label = s)) from rfl)
  generalize decide (x.label = s) = d at *
  unfold lnW lnv at *
  generalize hasS x = a at *
  replace HH := Lib.hid HH
  clear hb hbx
  go_enter Tryz.func38, Tryz.ntmps38
  cases a
  · go_wp2_with fail
    refine (HH.out _).mono ?_
    rintro e w1 ⟨rfl, hb⟩
    obtain ⟨t0, t1, t2, t3, t4⟩ := HB.out.below hb
    obtain ⟨s0, s1, s2, s3, s4⟩ := HX.out.below hb
    have hB1 := chain hB hb
    clear hb HH
    go_wp2
    go_ret
    exact ⟨ret_boolc (by rw [HE.out]; simp), hB1⟩
  · go_wp2_with fail
    refine (HH.out _).mono ?_
    rintro e w1 ⟨rfl, hb⟩
    have hB1 := chain hB hb
    clear hb HH
    go_wp2
    go_ret
    exact ⟨ret_boolc (by rw [HE.out]; simp), hB1⟩
def IlRel (ls : List OpsM.Ln) (s : L) (w : World) (i : Value) (wr : World) : Prop :=
  ∃ k : Nat, k ≤ ls.length ∧ i = .int .i64 k ∧ (∀ j (hj : j < ls.length), j < k → isLab s ls[j] = false) ∧ Below w.heap.size w wr
set_option maxHeartbeats 4000000 in
set_option maxRecDepth 100000 in
theorem ixlns_any {B g : Nat} {op n : Int} {r o : ByteArray} {s : L} {v : Value} {ls : List OpsM.Ln} (w : World) (hb : LnBox w g op r o ⟨s.toArray⟩ n) (h : Lns B w v ls) (hBB : B ≤ w.heap.size) :
    Calls Tryz.prog 37 #[v, .func (.func 38) #[] #[.pointer (some ⟨g, 0, none⟩)]] w fun e w' => e = .returned (.int .i64 (posI (isLab s) ls)) ∧ Below w.heap.size w w' := by
  obtain ⟨A1, c1, rfl, ha1, ha2, ha3⟩ := h
  unfold maxLen at ha2
  have HB := Lib.hid hb
  clear hb
  go_enter Tryz.func37, Tryz.ntmps37
  go_wp2
  go_loopw [8] (fun i wr => IlRel ls s w i wr) (fun i _ => ls.length - (intOf i).toNat)
  case atStart => exact ⟨0, Nat.zero_le _, rfl, fun j _ h => absurd h (Nat.not_lt_zero j), Below.refl _ _⟩
  case round =>
    obtain ⟨k, hk, rfl, hall, hB⟩ := hrel
    have HA := Lib.hid hall
    clear hall
    by_cases hlt : k < ls.length
    · obtain ⟨b1, f1, rfl, hb1, hcl⟩ := ha3 (by omega)
      obtain ⟨z0, z1, z2, z3, z4⟩ := (hcl k hlt).below (hB.mono hBB) hb1
      have HC := Lib.hid (islab_any ls[k] wr (HB.out.below hB))
      have HN := Lib.hid (fun (h : isLab s ls[k] = true) => CodM.posI_hit hlt HA.out h)
      have HY := Lib.hid (fun (h : isLab s ls[k] = false) (j : Nat) (hj : j < ls.length) (hjk : j < k + 1) => show isLab s ls[j] = false by
        by_cases e : j = k
        · subst e; exact h
        · exact HA.out j hj (by omega))
      generalize isLab s ls[k] = q at *
      obtain ⟨x, hx⟩ : ∃ x, x = ls[k] := ⟨_, rfl⟩
      rw [← hx] at z0 z1 z2 z3 z4 HC
      unfold lnW lnv at HC
      clear hx hcl ha3 HA
      go_wp2_with fail
      refine HC.out.mono ?_
      rintro e w1 ⟨rfl, hb⟩
      have hB1 := chain hB hb
      clear hB hb z0 z1 z2 z3 z4 HC
      cases q
      · go_wp2
        go_roundw
        case rel => exact ⟨k + 1, by omega, by go_num, HY.out (by trivial), hB1⟩
        case measure => simp [intOf]; omega
      · go_wp2
        go_ret
        exact ⟨ret_int (HN.out (by trivial)).symm, hB1⟩
    · obtain rfl : ls.length = k := by omega
      have HE := Lib.hid (CodM.posI_none (fun j hj => HA.out j hj hj))
      clear ha3
      go_wp2
      go_ret
      exact ⟨ret_int HE.out.symm, hB⟩
set_option maxHeartbeats 4000000 in
set_option maxRecDepth 100000 in
theorem maker1_any {B g : Nat} {v : Value} {ls : List OpsM.Ln} (x : OpsM.Ln) (w : World) (h : Lns B w v ls) (hBB : B ≤ w.heap.size) (hc : w.cell? ⟨g, 0, none⟩ = some v) (hn : ls.length ≤ 1000000) :
    Calls Tryz.prog 36 #[lnW x, .pointer (some ⟨g, 0, none⟩)] w fun e w' => e = .returned (.int .i64 (toN ls x.label : Nat)) ∧ Below w.heap.size w w' := by
  have hB := below_al (Below.refl w.heap.size w) (.cells #[.int .i64 x.op, .string ⟨x.reg.toArray⟩, .string ⟨x.loc.toArray⟩, .string ⟨x.label.toArray⟩, .int .i64 x.n] 42)
  have HI := Lib.hid (ixlns_any (s := x.label) _ (LnBox.new w x.op x.n ⟨x.reg.toArray⟩ ⟨x.loc.toArray⟩ ⟨x.label.toArray⟩ 42) (h.below (hB.mono hBB)) (Nat.le_trans hBB hB.size))
  have HC := Lib.hid hc
  have hgl := lt_of_cell hc
  have HT := Lib.hid (show toN ls x.label = cnt (ls.take (pos0 (isLab x.label) ls)) from rfl)
  have HM := Lib.hid (CodM.pos_max (isLab x.label) ls)
  have hp := CodM.pos0_le (isLab x.label) ls
  have hbd := CodM.posI_bd (isLab x.label) ls
  generalize posI (isLab x.label) ls = p at *
  generalize pos0 (isLab x.label) ls = p0 at *
  obtain ⟨A1, c1, rfl, ha1, ha2, -⟩ := id h
  have HL := Lib.hid (h.below (hB.mono hBB))
  have hc1 := kc hB hc
  unfold lnW lnv maxLen at *
  clear hc h
  by_cases h0 : 0 ≤ p
  · obtain ⟨q, rfl⟩ := Int.eq_ofNat_of_zero_le h0
    obtain rfl : q = p0 := by have := HM.out; omega
    go_enter Tryz.func36, Tryz.ntmps36
    go_wp2_with fail
    refine HI.out.mono ?_
    rintro e w1 ⟨rfl, hb⟩
    have hB1 := chain hB hb
    have HL1 := Lib.hid ((HL.out.below (hb.mono (Nat.le_trans hBB hB.size))).take q hp)
    have HK := Lib.hid (count_any w1 HL1.out (Nat.le_trans hBB hB1.size))
    replace hc1 := kc hb hc1
    clear HI hb hB HL HL1
    go_wp2_with fail
    refine HK.out.mono ?_
    rintro e w2 ⟨rfl, hb2⟩
    have hB2 := chain hB1 hb2
    clear HK hb2
    go_wp2
    go_ret
    exact ⟨ret_int (by rw [HT.out]), hB2⟩
  · obtain rfl : p0 = 0 := by have := HM.out; omega
    go_enter Tryz.func36, Tryz.ntmps36
    go_wp2_with fail
    refine HI.out.mono ?_
    rintro e w1 ⟨rfl, hb⟩
    have hB1 := chain hB hb
    have HL1 := Lib.hid ((HL.out.below (hb.mono (Nat.le_trans hBB hB.size))).take 0 hp)
    have HK := Lib.hid (count_any w1 HL1.out (Nat.le_trans hBB hB1.size))
    replace hc1 := kc hb hc1
    clear HI hb hB HL HL1
    go_wp2_with fail
    refine HK.out.mono ?_
    rintro e w2 ⟨rfl, hb2⟩
    have hB2 := chain hB1 hb2
    clear HK hb2
    go_wp2
    go_ret
    exact ⟨ret_int (by rw [HT.out]; rfl), hB2⟩
end Go.Proofs.YtaelfjphgdlbcaaGreatDoor
namespace Go.Proofs.YtaelfjphgdlbcaaGreatDoor
open Go.RowKit
set_option linter.unusedVariables false
set_option linter.unusedSimpArgs false
open WordM (L)
open VM
open CodM (St Pg posI pos0 isLab hasS toN cnt stp regI locN)

/-- The steps that a line makes. -/
def mkS (ls : List OpsM.Ln) (locs : List L) (x : OpsM.Ln) : List St := if hasS x then [stp ls locs x] else []
theorem fin_own {W : World} {B : Nat} {T : TypeId} {v : Value} {ls : List OpsM.Ln} {locs : List L} {x : OpsM.Ln} {r p r' p' : Int} (h : mkS ls locs x = [stp ls locs x]) (ho : W.ownsRow B T 5 v 1 [.int .i64 x.op, .int .i64 r', .int .i64 p', .int .i64 x.n, .int .i64 (toN ls x.label : Nat)])
    (he : stp ls locs x = ⟨x.op, max r 0, max p 0, x.n, (toN ls x.label : Nat)⟩) (hr : max r 0 = r') (hp : max p 0 = p') : W.ownsRow B T 5 v (mkS ls locs x).length (stsCs (mkS ls locs x)) := by
  rw [h, he, hr, hp]; exact ho
set_option maxHeartbeats 8000000 in
set_option maxRecDepth 100000 in
theorem maker2_any {B gl gt gth : Nat} {vl vs : Value} {ls : List OpsM.Ln} {locs : List L} (x : OpsM.Ln) (w : World) (hr : Regs w) (hs : Lns B w vs ls) (hl : Strs B w vl locs) (hBB : B ≤ w.heap.size)
    (c0 : w.cell? ⟨gl, 0, none⟩ = some vl) (c1 : w.cell? ⟨gt, 0, none⟩ = some (.func (.func 36) #[] #[.pointer (some ⟨gth, 0, none⟩)])) (c2 : w.cell? ⟨gth, 0, none⟩ = some vs) (hn : ls.length ≤ 1000000) (hk : locs.length ≤ 1000000) :
    Calls Tryz.prog 39 #[lnW x, .pointer (some ⟨gl, 0, none⟩), .pointer (some ⟨gt, 0, none⟩)] w fun e w' => ∃ v, e = .returned v ∧ w'.ownsRow w.heap.size 30 5 v (mkS ls locs x).length (stsCs (mkS ls locs x)) ∧ Below w.heap.size w w' := by
  have hB := below_al (Below.refl w.heap.size w) (.cells #[.int .i64 x.op, .string ⟨x.reg.toArray⟩, .string ⟨x.loc.toArray⟩, .string ⟨x.label.toArray⟩, .int .i64 x.n] 42)
  have HX := Lib.hid (LnBox.new w x.op x.n ⟨x.reg.toArray⟩ ⟨x.loc.toArray⟩ ⟨x.label.toArray⟩ 42)
  have HR := Lib.hid hr
  have HS := Lib.hid hs
  have HL := Lib.hid hl
  have HH := fun W => has_any x W
  have C0 := Lib.hid c0
  have C1 := Lib.hid c1
  have C2 := Lib.hid c2
  clear hr hs hl c0 c1 c2
  unfold lnW lnv at *
  by_cases hq : hasS x = true
  · have HE := Lib.hid (show mkS ls locs x = [stp ls locs x] by unfold mkS; rw [if_pos hq])
    rw [hq] at HH
    replace HH := Lib.hid HH
    clear hq
    go_enter Tryz.func39, Tryz.ntmps39
    go_wp2_with fail
    refine (HH.out _).mono ?_
    rintro e w1 ⟨rfl, hb⟩
    have hB1 := chain hB hb
    obtain ⟨s0, s1, s2, s3, s4⟩ := HX.out.below hb
    have e0 := kc hB1 C0.out
    have e1 := kc hB1 C1.out
    have e2 := kc hB1 C2.out
    obtain ⟨g, hg⟩ : ∃ g, g = w.heap.size := ⟨_, rfl⟩
    rw [← hg] at s0 s1 s2 s3 s4 ⊢
    have HG := Lib.hid hg
    clear hg HH hb HX
    have HRg := Lib.hid (fun n => show Calls Tryz.prog 40 #[.string ⟨x.reg.toArray⟩] (w1.drewN n) fun e w' => e = .returned (.int .i64 (WordM.regNo x.reg)) ∧ w' = w1.drewN n from
      (reg_any ⟨x.reg.toArray⟩ (w1.drewN n) (HR.out.below (below_drewN hB1 n))).mono (fun _ _ h => ⟨h.1, h.2.symm⟩))
    have HIx := Lib.hid (fun n => (index_any x.loc (w1.drewN n) (strs_below HL.out (below_drewN (hB1.mono hBB) n))).mono (fun _ _ h => (show _ ∧ _ = _ from ⟨h.1, h.2.symm⟩)))
    obtain ⟨AL, cL, rfl, -⟩ := id HL.out
    have HM1 := Lib.hid (fun W (hW : Below w1.heap.size w1 W) => maker1_any (g := gth) x W (HS.out.below ((chain hB1 hW).mono hBB)) (Nat.le_trans hBB (chain hB1 hW).size) (kc (chain hB1 hW) C2.out) hn)
    unfold lnW lnv at HM1
    have HST := Lib.hid (show stp ls locs x = ⟨x.op, max (WordM.regNo x.reg) 0, max (posI (fun y => decide (y = x.loc)) locs) 0, x.n, (toN ls x.label : Nat)⟩ by rw [CodM.pos_max]; rfl)
    generalize WordM.regNo x.reg = r at *
    generalize posI (fun y => decide (y = x.loc)) locs = p at *
    go_wp2
    go_quiet (first | (go_at_call 40; exact Calls.quiet_of_same (HRg.out _)) | (go_at_call 41; exact Calls.quiet_of_same (HIx.out _)))
    go_wp2
    clear HRg HIx
    have HRr := Lib.hid (show max r 0 = (if r < 0 then 0 else r) by split <;> omega)
    have HPp := Lib.hid (show max p 0 = (if p < 0 then 0 else p) by split <;> omega)
    refine wp_region_held_drew (S := (fun w' => (w'.cell? ⟨g, 0, none⟩ = some (.int .i64 x.op) ∧ w'.cell? ⟨g, 1, none⟩ = some (.string ⟨x.reg.toArray⟩) ∧ w'.cell? ⟨g, 2, none⟩ = some (.string ⟨x.loc.toArray⟩) ∧ w'.cell? ⟨g, 3, none⟩ = some (.string ⟨x.label.toArray⟩) ∧ w'.cell? ⟨g, 4, none⟩ = some (.int .i64 x.n) ∧ w'.cell? ⟨gt, 0, none⟩ = some (.func (.func 36) #[] #[.pointer (some ⟨gth, 0, none⟩)])) ∧ Below w1.heap.size w1 w')) (by kernel_rfl) ⟨⟨s0, s1, s2, s3, s4, e1⟩, below_drewN (below_drewN (Below.refl _ _) nq) 1⟩ (fun hHeld => ?_)
    refine wpAnyH_take (i := 0) (v := ?_) rfl (by kernel_rfl) (by kernel_rfl) (by kernel_rfl) (fun _ _ _ h => h) (Or.inl ⟨by rfl, ?_⟩) (by assumption) ?_
    rotate_left
    · intro w hSw; (try dsimp only at hSw); go_simp; (try with_reducible rfl)
    (try simp only [Act.put, List.getElem_toArray, List.getElem_cons_zero, List.getElem_cons_succ, Array.getInternal_eq_getElem, List.setIfInBounds_toArray, List.set_cons_zero, List.set_cons_succ])
    refine wpAnyH_take (i := 1) (v := ?_) rfl (by kernel_rfl) (by kernel_rfl) (by kernel_rfl) (fun _ _ _ h => h) (Or.inl ⟨by rfl, ?_⟩) (by assumption) ?_
    rotate_left
    · intro w hSw; (try dsimp only at hSw); go_simp; (try with_reducible rfl)
    (try simp only [Act.put, List.getElem_toArray, List.getElem_cons_zero, List.getElem_cons_succ, Array.getInternal_eq_getElem, List.setIfInBounds_toArray, List.set_cons_zero, List.set_cons_succ])
    refine wpAnyH_take (i := 2) (v := ?_) rfl (by kernel_rfl) (by kernel_rfl) (by kernel_rfl) (fun _ _ _ h => h) (Or.inl ⟨by rfl, ?_⟩) (by assumption) ?_
    rotate_left
    · intro w hSw; (try dsimp only at hSw); go_simp; (try with_reducible rfl)
    (try simp only [Act.put, List.getElem_toArray, List.getElem_cons_zero, List.getElem_cons_succ, Array.getInternal_eq_getElem, List.setIfInBounds_toArray, List.set_cons_zero, List.set_cons_succ])
    refine wpAnyH_take (i := 3) (v := ?_) rfl (by kernel_rfl) (by kernel_rfl) (by kernel_rfl) (fun _ _ _ h => h) (Or.inl ⟨by rfl, ?_⟩) (by assumption) ?_
    rotate_left
    · intro w hSw; (try dsimp only at hSw); go_simp; (try with_reducible rfl)
    (try simp only [Act.put, List.getElem_toArray, List.getElem_cons_zero, List.getElem_cons_succ, Array.getInternal_eq_getElem, List.setIfInBounds_toArray, List.set_cons_zero, List.set_cons_succ])
    refine wpAnyH_take (i := 4) (v := ?_) rfl (by kernel_rfl) (by kernel_rfl) (by kernel_rfl) (fun _ _ _ h => h) (Or.inl ⟨by rfl, ?_⟩) (by assumption) ?_
    rotate_left
    · intro w hSw; (try dsimp only at hSw); go_simp; (try with_reducible rfl)
    (try simp only [Act.put, List.getElem_toArray, List.getElem_cons_zero, List.getElem_cons_succ, Array.getInternal_eq_getElem, List.setIfInBounds_toArray, List.set_cons_zero, List.set_cons_succ])
    refine wpAnyH_take (i := 5) (v := ?_) rfl (by kernel_rfl) (by kernel_rfl) (by kernel_rfl) (fun _ _ _ h => h) (Or.inl ⟨by rfl, ?_⟩) (by assumption) ?_
    rotate_left
    · intro w hSw; (try dsimp only at hSw); go_simp; (try with_reducible rfl)
    (try simp only [Act.put, List.getElem_toArray, List.getElem_cons_zero, List.getElem_cons_succ, Array.getInternal_eq_getElem, List.setIfInBounds_toArray, List.set_cons_zero, List.set_cons_succ])
    refine wpAnyH_take (i := 6) (v := ?_) rfl (by kernel_rfl) (by kernel_rfl) (by kernel_rfl) (fun _ _ _ h => h) (Or.inl ⟨by rfl, ?_⟩) (by assumption) ?_
    rotate_left
    · intro w hSw; (try dsimp only at hSw); go_simp; (try with_reducible rfl)
    (try simp only [Act.put, List.getElem_toArray, List.getElem_cons_zero, List.getElem_cons_succ, Array.getInternal_eq_getElem, List.setIfInBounds_toArray, List.set_cons_zero, List.set_cons_succ])
    refine wpAnyH_take (i := 7) (v := ?_) rfl (by kernel_rfl) (by kernel_rfl) (by kernel_rfl) (fun _ _ _ h => h) (Or.inl ⟨by rfl, ?_⟩) (by assumption) ?_
    rotate_left
    · intro w hSw; (try dsimp only at hSw); go_simp; (try with_reducible rfl)
    (try simp only [Act.put, List.getElem_toArray, List.getElem_cons_zero, List.getElem_cons_succ, Array.getInternal_eq_getElem, List.setIfInBounds_toArray, List.set_cons_zero, List.set_cons_succ])
    refine wpAnyH_take (i := 8) (v := ?_) rfl (by kernel_rfl) (by kernel_rfl) (by kernel_rfl) (fun _ _ _ h => h) (Or.inl ⟨by rfl, ?_⟩) (by assumption) ?_
    rotate_left
    · intro w hSw; (try dsimp only at hSw); go_simp; (try with_reducible rfl)
    (try simp only [Act.put, List.getElem_toArray, List.getElem_cons_zero, List.getElem_cons_succ, Array.getInternal_eq_getElem, List.setIfInBounds_toArray, List.set_cons_zero, List.set_cons_succ])
    refine wpAnyH_take (i := 9) (v := ?_) rfl (by kernel_rfl) (by kernel_rfl) (by kernel_rfl) (fun _ _ _ h => h) (Or.inl ⟨by rfl, ?_⟩) (by assumption) ?_
    rotate_left
    · intro w hSw; (try dsimp only at hSw); go_simp; (try with_reducible rfl)
    (try simp only [Act.put, List.getElem_toArray, List.getElem_cons_zero, List.getElem_cons_succ, Array.getInternal_eq_getElem, List.setIfInBounds_toArray, List.set_cons_zero, List.set_cons_succ])
    refine wpAnyH_ready (rs := [10]) (by kernel_rfl) (by simp) ?_
    refine AllReadyH.cons rfl (fun K hK => ?_) AllReadyH.nil
    go_simp
    refine (HM1.out _ hHeld.2).mono ?_
    rintro e wa ⟨rfl, hba⟩
    have hHa := chain hHeld.2 hba
    obtain ⟨q0, q1, q2, q3, q4, q5⟩ := hHeld.1
    refine hK.out _ _ ⟨⟨kc hba q0, kc hba q1, kc hba q2, kc hba q3, kc hba q4, kc hba q5⟩, hHa⟩ (fun hHeld => ?_)
    clear q0 q1 q2 q3 q4 q5
    clear hK K
    (try simp only [Act.put, List.getElem_toArray, List.getElem_cons_zero, List.getElem_cons_succ, Array.getInternal_eq_getElem, List.setIfInBounds_toArray, List.set_cons_zero, List.set_cons_succ])
    refine wpAnyH_take (i := 11) (v := ?_) rfl (by kernel_rfl) (by kernel_rfl) (by kernel_rfl) (fun _ _ _ h => h) (Or.inl ⟨by rfl, ?_⟩) (by assumption) ?_
    rotate_left
    · intro w hSw; (try dsimp only at hSw); go_simp; (try with_reducible rfl)
    (try simp only [Act.put, List.getElem_toArray, List.getElem_cons_zero, List.getElem_cons_succ, Array.getInternal_eq_getElem, List.setIfInBounds_toArray, List.set_cons_zero, List.set_cons_succ])
    refine wpAnyH_ready (rs := [12]) (by kernel_rfl) (by simp) ?_
    refine AllReadyH.cons rfl (fun K hK => ?_) AllReadyH.nil
    go_simp
    have hbb := below_al (Below.refl wa.heap.size wa) (.cells #[.int .i64 x.op, .int .i64 (if r < 0 then 0 else r), .int .i64 (if p < 0 then 0 else p), .int .i64 x.n, .int .i64 (toN ls x.label : Nat)] 30)
    have HOb := Lib.hid (World.ownsRow_lit (base := w.heap.size) (e := 30) (size := 5) wa #[.int .i64 x.op, .int .i64 (if r < 0 then 0 else r), .int .i64 (if p < 0 then 0 else p), .int .i64 x.n, .int .i64 (toN ls x.label : Nat)] 1 (Nat.le_trans hB1.size hHeld.2.size) (by decide) rfl)
    have HBb := Lib.hid (chain (chain hB1 hHeld.2) hbb)
    obtain ⟨q0, q1, q2, q3, q4, q5⟩ := hHeld.1
    refine hK.out _ _ ⟨⟨kc hbb q0, kc hbb q1, kc hbb q2, kc hbb q3, kc hbb q4, kc hbb q5⟩, chain hHeld.2 hbb⟩ (fun hHeld => ?_)
    clear q0 q1 q2 q3 q4 q5
    clear hK K
    (try simp only [Act.put, List.getElem_toArray, List.getElem_cons_zero, List.getElem_cons_succ, Array.getInternal_eq_getElem, List.setIfInBounds_toArray, List.set_cons_zero, List.set_cons_succ])
    refine wpAnyH_ready (rs := [13]) (by kernel_rfl) (by simp) ?_
    refine AllReadyH.cons rfl (fun K hK => ?_) AllReadyH.nil
    go_simp
    refine hK.out _ _ hHeld (fun hHeld => ?_)
    clear hK K
    (try simp only [Act.put, List.getElem_toArray, List.getElem_cons_zero, List.getElem_cons_succ, Array.getInternal_eq_getElem, List.setIfInBounds_toArray, List.set_cons_zero, List.set_cons_succ])
    refine wpAnyH_done (by kernel_rfl) ?_ _
    generalize (if r < 0 then (0 : Int) else r) = R at *
    generalize (if p < 0 then (0 : Int) else p) = P at *
    go_wp2
    go_ret
    exact ⟨_, rfl, fin_own HE.out HOb.out HST.out HRr.out HPp.out, HBb.out⟩
  · have HE := Lib.hid (show mkS ls locs x = [] by unfold mkS; rw [if_neg hq])
    rw [show hasS x = false by simpa using hq] at HH
    replace HH := Lib.hid HH
    clear hq
    go_enter Tryz.func39, Tryz.ntmps39
    go_wp2_with fail
    refine (HH.out _).mono ?_
    rintro e w1 ⟨rfl, hb⟩
    have hB1 := chain hB hb
    clear HH hb HX
    go_wp2
    go_ret
    refine ⟨_, rfl, ?_, hB1⟩
    rw [HE.out]
    exact World.ownsRow_nil _ _ _ _
end Go.Proofs.YtaelfjphgdlbcaaGreatDoor
namespace Go.Proofs.YtaelfjphgdlbcaaGreatDoor
open Go.RowKit
set_option linter.unusedVariables false
set_option linter.unusedSimpArgs false
open WordM (L)
open VM
open CodM (St Pg hasS stp thrS)

theorem own_apart {W : World} {b1 b2 s1 s2 n m : Nat} {T1 T2 : TypeId} {u v : Value} {xs ys : List Value} (hT : T1 ≠ T2) (h1 : W.ownsRow b1 T1 s1 u n xs) (h2 : W.ownsRow b2 T2 s2 v m ys) : u.ownBlock = none ∨ u.ownBlock ≠ v.ownBlock := by
  rcases h1.2 with ⟨rfl, _⟩ | ⟨g, cap, cur, rfl, hb, hg, _⟩
  · exact .inl rfl
  rcases h2.2 with ⟨rfl, _⟩ | ⟨g2, cap2, cur2, rfl, hb2, hg2, _⟩
  · right; simp [Value.ownBlock]
  right
  intro e
  have e : g = g2 := by simpa [Value.ownBlock] using e
  subst e
  rw [hg] at hg2
  injection hg2 with hg2
  injection hg2 with _ h _
  exact hT h
theorem own_grown {W W' : World} {b1 b2 s1 s2 n m : Nat} {T1 T2 : TypeId} {u v : Value} {xs ys : List Value} (hT : T1 ≠ T2) (h1 : W.ownsRow b1 T1 s1 u n xs) (h2 : W.ownsRow b2 T2 s2 v m ys) (hg : W.grownBy W' v.ownBlock) : W'.ownsRow b1 T1 s1 u n xs :=
  h1.kept hg (own_apart hT h1 h2)
/-- Each of the values is a row of the call's own, of these steps. -/
def StsAll (W : World) (base : Nat) (vs : List Value) (tss : List (List St)) : Prop :=
  vs.length = tss.length ∧ ∀ j (hj : j < tss.length), ∃ u, vs[j]? = some u ∧ W.ownsRow base 30 5 u tss[j].length (stsCs tss[j])
theorem StsAll.below {W W' : World} {base : Nat} {vs : List Value} {tss : List (List St)} (h : StsAll W base vs tss) (hb : Below W.heap.size W W') : StsAll W' base vs tss := by
  refine ⟨h.1, fun j hj => ?_⟩
  obtain ⟨u, h1, h2⟩ := h.2 j hj
  exact ⟨u, h1, own_below h2 hb⟩
theorem StsAll.grown {W W' : World} {base b n : Nat} {T : TypeId} {v : Value} {vs xs : List Value} {tss : List (List St)} (h : StsAll W base vs tss) (hT : 30 ≠ T) (ho : W.ownsRow b T 1 v n xs) (hg : W.grownBy W' v.ownBlock) : StsAll W' base vs tss := by
  refine ⟨h.1, fun j hj => ?_⟩
  obtain ⟨u, h1, h2⟩ := h.2 j hj
  exact ⟨u, h1, own_grown hT h2 ho hg⟩
theorem StsAll.snoc {W : World} {base : Nat} {vs : List Value} {tss : List (List St)} {u : Value} {ss : List St} (h : StsAll W base vs tss) (ho : W.ownsRow base 30 5 u ss.length (stsCs ss)) : StsAll W base (vs ++ [u]) (tss ++ [ss]) := by
  refine ⟨by rw [List.length_append, List.length_append, h.1]; rfl, fun j hj => ?_⟩
  by_cases e : j < tss.length
  · obtain ⟨u', h1, h2⟩ := h.2 j e
    rw [List.getElem_append_left e]
    exact ⟨u', by rw [List.getElem?_append_left (by rw [h.1]; exact e)]; exact h1, h2⟩
  · have hj' : j = tss.length := by rw [List.length_append] at hj; simp at hj; omega
    subst hj'
    rw [List.getElem_append_right (Nat.le_refl _)]
    refine ⟨u, ?_, by simpa using ho⟩
    rw [List.getElem?_append_right (by rw [h.1]; exact Nat.le_refl _), h.1, Nat.sub_self]; rfl
theorem info_steps : (Tryz.prog.info? 28).map (fun i => (i.zero, i.size, i.bytes)) = some (some (.slice none 0 0), 1, 24) := by kernel_rfl
theorem info_step : (Tryz.prog.info? 30).map (fun i => (i.size, i.bytes)) = some (5, 40) := by kernel_rfl
set_option maxHeartbeats 4000000 in
set_option maxRecDepth 100000 in
theorem maker_any (vs vl : Value) (w : World) (hl : ∃ A n c, vl = .slice A n c) (hs : ∃ A n c, vs = .slice A n c) :
    Calls Tryz.prog 24 #[.agg #[vs], vl] w fun e w' => ∃ gth gl gt, e = .returned (.func (.func 39) #[] #[.pointer (some ⟨gl, 0, none⟩), .pointer (some ⟨gt, 0, none⟩)]) ∧
      w'.cell? ⟨gl, 0, none⟩ = some vl ∧ w'.cell? ⟨gt, 0, none⟩ = some (.func (.func 36) #[] #[.pointer (some ⟨gth, 0, none⟩)]) ∧ w'.cell? ⟨gth, 0, none⟩ = some vs ∧ Below w.heap.size w w' := by
  obtain ⟨A, n, c, rfl⟩ := hl
  obtain ⟨A2, n2, c2, rfl⟩ := hs
  have hst : ∀ (W : World) (a : Addr) (f : Fn) (x y : Array Value), (store a (.func f x y)).run Tryz.prog W = _ := fun W a f x y => run_store Tryz.prog W a (.func f x y) _ rfl
  have hB := below_al (below_al (below_al (Below.refl w.heap.size w) (.cells #[.slice A2 n2 c2] 45)) (.cells #[.slice A n c] 54)) (.cells #[.func (.func 36) #[] #[.pointer (some ⟨w.heap.size, 0, none⟩)]] 83)
  have X := Lib.hid (show (((w.alloc (.cells #[.slice A2 n2 c2] 45)).alloc (.cells #[.slice A n c] 54)).alloc (.cells #[.func (.func 36) #[] #[.pointer (some ⟨w.heap.size, 0, none⟩)]] 83)).cell? ⟨w.heap.size + 1, 0, none⟩ = some (.slice A n c) ∧
      (((w.alloc (.cells #[.slice A2 n2 c2] 45)).alloc (.cells #[.slice A n c] 54)).alloc (.cells #[.func (.func 36) #[] #[.pointer (some ⟨w.heap.size, 0, none⟩)]] 83)).cell? ⟨w.heap.size + 1 + 1, 0, none⟩ = some (.func (.func 36) #[] #[.pointer (some ⟨w.heap.size, 0, none⟩)]) ∧
      (((w.alloc (.cells #[.slice A2 n2 c2] 45)).alloc (.cells #[.slice A n c] 54)).alloc (.cells #[.func (.func 36) #[] #[.pointer (some ⟨w.heap.size, 0, none⟩)]] 83)).cell? ⟨w.heap.size, 0, none⟩ = some (.slice A2 n2 c2) by
    refine ⟨?_, ?_, ?_⟩
    all_goals simp [go_sem])
  go_enter Tryz.func24, Tryz.ntmps24
  go_wp2
  go_ret
  exact ⟨w.heap.size, w.heap.size + 1, w.heap.size + 1 + 1, rfl, X.out.1, X.out.2.1, X.out.2.2, hB⟩
def ElRel (ls : List OpsM.Ln) (ms : List (List St)) (w : World) (v i : Value) (wr : World) : Prop :=
  ∃ (k : Nat) (vs : List Value), k ≤ ls.length ∧ i = .int .i64 k ∧ wr.ownsRow w.heap.size 28 1 v k vs ∧ StsAll wr w.heap.size vs (ms.take k) ∧ Below w.heap.size w wr
set_option maxHeartbeats 8000000 in
set_option maxRecDepth 100000 in
theorem eachl_any {B gl gt gth : Nat} {vl vs : Value} {ls : List OpsM.Ln} {locs : List L} (w : World) (hr : Regs w) (hs : Lns B w vs ls) (hl : Strs B w vl locs) (hBB : B ≤ w.heap.size)
    (c0 : w.cell? ⟨gl, 0, none⟩ = some vl) (c1 : w.cell? ⟨gt, 0, none⟩ = some (.func (.func 36) #[] #[.pointer (some ⟨gth, 0, none⟩)])) (c2 : w.cell? ⟨gth, 0, none⟩ = some vs) (hn : ls.length ≤ 1000000) (hk : locs.length ≤ 1000000) :
    Calls Tryz.prog 23 #[vs, .func (.func 39) #[] #[.pointer (some ⟨gl, 0, none⟩), .pointer (some ⟨gt, 0, none⟩)]] w fun e w' =>
      ∃ v us, e = .returned v ∧ w'.ownsRow w.heap.size 28 1 v ls.length us ∧ StsAll w' w.heap.size us (ls.map (mkS ls locs)) ∧ Below w.heap.size w w' := by
  obtain ⟨i0, hi, hz0, hz1, hz2⟩ := info_parts info_steps
  have HR := Lib.hid hr
  have HS := Lib.hid hs
  have HL := Lib.hid hl
  have C0 := Lib.hid c0
  have C1 := Lib.hid c1
  have C2 := Lib.hid c2
  obtain ⟨A1, n1, rfl, ha1, ha2, ha3⟩ := hs
  unfold maxLen at ha2
  have hlen : (ls.map (mkS ls locs)).length = ls.length := by simp
  have HM := Lib.hid (fun (k : Nat) (hk : k < ls.length) => show (ls.map (mkS ls locs)).take (k + 1) = (ls.map (mkS ls locs)).take k ++ [mkS ls locs ls[k]] by
    rw [List.take_succ_eq_append_getElem (by rw [hlen]; exact hk), List.getElem_map])
  have HF := Lib.hid (show (ls.map (mkS ls locs)).take ls.length = ls.map (mkS ls locs) by rw [← hlen, List.take_length])
  have HK := Lib.hid (fun (x : OpsM.Ln) W (hW : Below w.heap.size w W) => maker2_any x W (HR.out.below hW) (HS.out.below (hW.mono hBB)) (strs_below HL.out (hW.mono hBB)) (Nat.le_trans hBB hW.size) (kc hW C0.out) (kc hW C1.out) (kc hW C2.out) hn hk)
  have hmk : ∀ x, (mkS ls locs x).length ≤ 1 := fun x => by unfold mkS; split <;> simp
  have HMK := Lib.hid hmk
  generalize (ls.map (mkS ls locs)) = ms at *
  clear hr hl c0 c1 c2 hlen hmk
  go_enter Tryz.func23, Tryz.ntmps23
  go_wp2
  go_loopw [5, 10] (fun v i wr => ElRel ls ms w v i wr) (fun _ i _ => ls.length - (intOf i).toNat)
  case atStart => exact ⟨0, [], Nat.zero_le _, rfl, World.ownsRow_nil _ _ _ _, ⟨by simp, fun j hj => absurd hj (by simp)⟩, Below.refl _ _⟩
  case round =>
    obtain ⟨k, vs, hk, rfl, hown, hall, hB⟩ := hrel
    by_cases hlt : k < ls.length
    · obtain ⟨b1, f1, rfl, hb1, hcl⟩ := ha3 (by omega)
      obtain ⟨z0, z1, z2, z3, z4⟩ := (hcl k hlt).below (hB.mono hBB) hb1
      have HT := Lib.hid (HM.out k hlt)
      have hbA : Below wr.heap.size wr (wr.alloc (.cells #[.int .i64 ls[k].op, .string ⟨ls[k].reg.toArray⟩, .string ⟨ls[k].loc.toArray⟩, .string ⟨ls[k].label.toArray⟩, .int .i64 ls[k].n] 42)) := below_al (Below.refl _ _) _
      have hBA := chain hB hbA
      have HC := Lib.hid (HK.out ls[k] _ hBA)
      unfold lnW lnv at HC
      have hoA := own_below hown hbA
      have hsA := hall.below hbA
      obtain ⟨x, hx⟩ : ∃ x, x = ls[k] := ⟨_, rfl⟩
      rw [← hx] at z0 z1 z2 z3 z4 HC HT hbA hBA hoA hsA
      generalize mkS ls locs x = ss at *
      have HSA := Lib.hid hsA
      clear hx hcl ha3 hall hown hB hsA hbA
      have hszA := hBA.size
      go_wp2_with fail
      refine HC.out.mono ?_
      rintro e wa ⟨u, rfl, hou, hb⟩
      have hBa := chain hBA hb
      have hOa := own_below hoA hb
      have HSa := Lib.hid (HSA.out.below hb)
      have HOu := Lib.hid (own_base hou hszA)
      obtain ⟨Au, cu, rfl⟩ := own_slice hou
      have hsz := hBa.size
      clear HC z0 z1 z2 z3 z4 hoA hou hb hBA
      go_wp2_with (at_builtin; refine wpList_append_own _ rfl _ _ 23 rfl w.heap.size 28 i0 (.slice none 0 0) 1 24 Tryz.underlying23 hi hz0 hz1 hz2 rfl (by decide) _ _ _ rfl (hOa.alloc _) ⟨wa.heap.size, 0, none⟩ 1 1 [.slice Au ss.length cu] rfl rfl (cell_one_new _ _ _) (by simp [Value.oneCell']) (by unfold maxLen; omega) (by omega) (by simp; omega) ?_; intro v1 w1 hown1 hg1 _)
      have hbb := below_al (Below.refl wa.heap.size wa) (.cells #[.slice Au ss.length cu] 28)
      have hB1 := below_append (hBa.alloc hBa.size (.cells #[.slice Au ss.length cu] 28)) (hOa.alloc _) (Nat.le_refl _) (by simp; omega) hg1
      have HS1 := Lib.hid (((HSa.out.below hbb).snoc (own_below HOu.out hbb)).grown (by decide) (hOa.alloc _) hg1)
      go_roundw
      case rel => exact ⟨k + 1, _, by omega, by go_num, hown1, by rw [HT.out]; exact HS1.out, hB1⟩
      case measure => simp [intOf]; omega
    · obtain rfl : ls.length = k := by omega
      rw [HF.out] at hall
      have HSA := Lib.hid hall
      clear ha3 hall
      go_wp2
      go_ret
      exact ⟨_, _, rfl, hown, HSA.out, hB⟩
end Go.Proofs.YtaelfjphgdlbcaaGreatDoor
namespace Go.Proofs.YtaelfjphgdlbcaaGreatDoor
open Go.RowKit
set_option linter.unusedVariables false
set_option linter.unusedSimpArgs false
open WordM (L)
open VM
open CodM (St Pg hasS stp thrS)

theorem flat_take {A : Type} (tss : List (List A)) (k : Nat) (h : k < tss.length) : (tss.take (k + 1)).flatten = (tss.take k).flatten ++ tss[k] := by
  rw [List.take_succ_eq_append_getElem h, List.flatten_append]; simp
theorem flat_len {A : Type} (tss : List (List A)) (k : Nat) : (tss.take k).flatten.length ≤ tss.flatten.length := by
  have : tss.flatten = (tss.take k).flatten ++ (tss.drop k).flatten := by rw [← List.flatten_append, List.take_append_drop]
  rw [this, List.length_append]; omega
def JnRel (tss : List (List St)) (w : World) (v i : Value) (wr : World) : Prop :=
  ∃ (k n : Nat), k ≤ tss.length ∧ i = .int .i64 k ∧ n = (tss.take k).flatten.length ∧ n ≤ 1000000 ∧ wr.ownsRow w.heap.size 30 5 v n (stsCs (tss.take k).flatten) ∧ Below w.heap.size w wr
theorem info_parts2 {T : TypeId} {n m : Nat} (h : (Tryz.prog.info? T).map (fun i => (i.size, i.bytes)) = some (n, m)) : ∃ i, Tryz.prog.info? T = some i ∧ i.size = n ∧ i.bytes = m := by
  cases e : Tryz.prog.info? T with
  | none => rw [e] at h; cases h
  | some i => rw [e] at h; simp at h; exact ⟨i, rfl, h.1, h.2⟩
theorem info_stepz : (Tryz.prog.info? 30).map (fun i => (i.zero, i.size, i.bytes)) = some (some (.agg #[.int .i64 0, .int .i64 0, .int .i64 0, .int .i64 0, .int .i64 0]), 5, 40) := by kernel_rfl
set_option maxHeartbeats 8000000 in
set_option maxRecDepth 100000 in
theorem joined_any {b0 : Nat} {v : Value} {vs : List Value} {tss : List (List St)} (w : World) (ho : w.ownsRow b0 28 1 v tss.length vs) (hs : StsAll w b0 vs tss) (hl : tss.length ≤ 1000000) (hn : tss.flatten.length ≤ 1000000) :
    Calls Tryz.prog 22 #[v] w fun e w' => ∃ v', e = .returned v' ∧ w'.ownsRow w.heap.size 30 5 v' tss.flatten.length (stsCs tss.flatten) ∧ Below w.heap.size w w' := by
  obtain ⟨i0, hi, hz0, hz1, hz2⟩ := info_parts info_stepz
  have HO := Lib.hid ho
  have HS := Lib.hid hs
  obtain ⟨Av, cv, rfl⟩ := own_slice ho
  clear ho hs
  go_enter Tryz.func22, Tryz.ntmps22
  go_wp2
  go_loopw [3, 8] (fun v i wr => JnRel tss w v i wr) (fun _ i _ => tss.length - (intOf i).toNat)
  case atStart => exact ⟨0, 0, Nat.zero_le _, rfl, by simp, by omega, World.ownsRow_nil _ _ _ _, Below.refl _ _⟩
  case round =>
    obtain ⟨k, n, hk, rfl, hnk, hnb, hown, hB⟩ := hrel
    have HN := Lib.hid hnk
    clear hnk
    by_cases hlt : k < tss.length
    · have hO2 := own_below HO.out hB
      have hS2 := HS.out.below hB
      obtain ⟨u, hu, hou⟩ := hS2.2 k hlt
      have HT := Lib.hid (flat_take tss k hlt)
      have hfl := flat_len tss (k + 1)
      rw [flat_take tss k hlt, List.length_append] at hfl
      have hfl2 : n + tss[k].length ≤ 1000000 := by rw [HN.out]; omega
      rcases hO2.2 with ⟨_, h0⟩ | ⟨g, cap, cur, e, hbg, hg, hnc, hcm, hcs, htake⟩
      · omega
      injection e with e1 e2 e3
      subst e1; subst e3
      have e1 : wr.cell? ⟨g, k, none⟩ = some u := by
        rw [hO2.cellAt k (by omega)]; exact hu
      obtain ⟨ss, hss⟩ : ∃ ss, ss = tss[k] := ⟨_, rfl⟩
      rw [← hss] at hou HT hfl2
      have HG := Lib.hid hg
      have HCM := Lib.hid hcm
      clear hss hu hg hcs htake hO2 hS2 hfl hcm
      have HOu := Lib.hid hou
      have hws := hB.size
      rcases hou.2 with ⟨rfl, h0⟩ | ⟨gu, capu, curu, rfl, hbu, hgu, hncu, hcmu, hcsu, htu⟩
      · have hnil : ss = [] := List.eq_nil_of_length_eq_zero h0
        subst hnil
        clear hou HOu
        go_wp2_with (at_builtin; refine wpList_append_own_none rfl _ _ 28 rfl w.heap.size 30 i0 5 Tryz.underlying28 hi _ n (stsCs (tss.take k).flatten) rfl hown rfl ?_)
        go_roundw
        case rel => exact ⟨k + 1, n, by omega, by go_num, by rw [HT.out, HN.out]; simp, hnb, by rw [HT.out, List.append_nil]; exact hown, hB⟩
        case measure => simp [intOf]; omega
      · have hrd := Lib.hid (fun j (x : Value) (h : (stsCs ss)[j]? = some x) => show wr.cell? ((⟨gu, 0, none⟩ : Addr).add j) = some x by
          rw [Addr.add_lit, Nat.zero_add]
          have hj : j < ss.length * 5 := by rw [← stsCs_len]; exact (List.getElem?_eq_some_iff.1 h).1
          rw [HOu.out.cellAt j hj]; exact h)
        clear hou hgu hcsu htu
        have HCU := Lib.hid hcmu
        clear hcmu
        go_wp2_with (at_builtin; refine wpList_append_own _ rfl _ _ 28 rfl w.heap.size 30 i0 _ 5 40 Tryz.underlying28 hi hz0 hz1 hz2 rfl (by decide) _ _ _ rfl hown ⟨gu, 0, none⟩ ss.length capu (stsCs ss) rfl (stsCs_len ss) hrd.out (stsCs_one ss) (by unfold maxLen; omega) (by omega) hws ?_; intro v1 w1 hown1 hg1 _)
        have hB1 := below_append hB hown (Nat.le_refl _) hws hg1
        go_roundw
        case rel => exact ⟨k + 1, n + ss.length, by omega, by go_num, by rw [HT.out, List.length_append, HN.out], hfl2, by rw [HT.out, stsCs_app]; exact hown1, hB1⟩
        case measure => simp [intOf]; omega
    · obtain rfl : tss.length = k := by omega
      rw [List.take_length] at HN hown
      have HOW := Lib.hid (HN.out ▸ hown)
      go_wp2
      go_ret
      exact ⟨_, rfl, HOW.out, hB⟩
end Go.Proofs.YtaelfjphgdlbcaaGreatDoor
