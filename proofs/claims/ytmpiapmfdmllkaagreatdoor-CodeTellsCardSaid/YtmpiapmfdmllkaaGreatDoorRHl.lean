/-
  THE DOCUMENT's line: what is wrong with a line of a thread.
  THE DOCUMENT's head: what is wrong with the name, the cells and how many threads there are.
  THE DOCUMENT's put: a name among others that rise.
  THE DOCUMENT's locs: all locations of a program, put one by one.
-/
import Derived.Test.YtmpiapmfdmllkaaGreatDoorRLnq
import Derived.Test.YtmpiapmfdmllkaaGreatDoorRLnc
import Derived.Test.YtmpiapmfdmllkaaGreatDoorRLnd
import Derived.Test.YtmpiapmfdmllkaaGreatDoorRLne
import Derived.Test.YtmpiapmfdmllkaaGreatDoorRLng
import Derived.Test.YtmpiapmfdmllkaaGreatDoorRLni
import Derived.Test.YtmpiapmfdmllkaaGreatDoorFrmA
import Derived.Test.YtmpiapmfdmllkaaGreatDoorRName
import Derived.Test.YtmpiapmfdmllkaaGreatDoorBase
import Derived.Test.YtmpiapmfdmllkaaGreatDoorLocA
namespace Go.Proofs.YtmpiapmfdmllkaaGreatDoor
open Go.RowKit
open VM
theorem rline_any {B : Nat} {v : Value} {ls : List OpsM.Ln} {k : Nat} (w : World) (h : Lns B w v ls) (hBB : B ≤ w.heap.size) (hk : k < ls.length) (hn : ls.length ≤ 100000) (hs : ∀ l ∈ ls, l.reg.length ≤ 100000 ∧ l.loc.length ≤ 100000 ∧ l.label.length ≤ 100000) :
    Calls Tryz.prog 65 #[v, .int .i64 k] w fun e w' => e = .returned (.int .i64 (lnC ls k)) ∧ Below w.heap.size w w' := by
  by_cases hR : OpsM.rightL ls[k] = false
  · exact rline_a w h hBB hk hn hs hR
  by_cases h11 : ls[k].op = 11
  · by_cases hl : 0 < lcnt (ls.take k) ls[k].label
    · exact rline_b w h hBB hk hn hs hR h11 hl
    · exact rline_c w h hBB hk hn hs hR h11 hl
  by_cases h6 : ls[k].op = 6
  · rcases Nat.eq_zero_or_pos k with hk0 | hp
    · exact rline_d w h hBB hk hn hs hR h6 hk0
    · cases hf : ((ls[k - 1]'(by omega)).op == 6)
      · exact rline_e w h hBB hk hn hs hR h6 (k - 1) (by omega) hf
      · exact rline_f w h hBB hk hn hs hR h6 (k - 1) (by omega) hf
  cases hj : jmpB ls[k]
  · exact rline_g w h hBB hk hn hs hR h11 h6 hj
  · by_cases hl : lcnt (ls.drop (k + 1)) ls[k].label = 0
    · exact rline_h w h hBB hk hn hs hR h11 h6 hj hl
    · exact rline_i w h hBB hk hn hs hR h11 h6 hj hl
end Go.Proofs.YtmpiapmfdmllkaaGreatDoor
namespace Go.Proofs.YtmpiapmfdmllkaaGreatDoor
open Go.RowKit
set_option linter.unusedVariables false
set_option linter.unusedSimpArgs false
open WordM (L)
open VM

theorem rname_l (s : L) (w : World) (hs : s.length ≤ 100000) :
    Calls Tryz.prog 74 #[.string ⟨s.toArray⟩] w fun e w' => e = .returned (.bool (WordM.nameB s)) ∧ Below w.heap.size w w' := rname_any ⟨s.toArray⟩ w (by rw [Lib.size_eq]; exact hs)
set_option maxHeartbeats 4000000 in
set_option maxRecDepth 100000 in
theorem rhead_any {B : Nat} {v : Value} {F : Fl} (w : World) (hv : FlV B w v F) (hBB : B ≤ w.heap.size) (ok : FlOk F) :
    Calls Tryz.prog 64 #[v] w fun e w' => e = .returned (.int .i64 (frameC F)) ∧ Below w.heap.size w w' := by
  obtain ⟨vi, vt, vc, rfl, hm⟩ := hv
  unfold flv
  have hB0 := below_al (Below.refl w.heap.size w) (.cells #[.string ⟨F.name.toArray⟩, vi, vt, .bool F.all, vc] 26)
  have hbx := FlBox.at (w := w) rfl ⟨F.name.toArray⟩ vi vt vc F.all 26
  obtain ⟨hmi, hmt, _⟩ := hm
  obtain ⟨A1, c1, rfl, ha1, ha2, ha3⟩ := hmi
  obtain ⟨A2, c2, rfl, hb1, hb2, hb3⟩ := hmt
  have hl1 := ok.nums.1
  have hl2 := ok.nums.2.1
  have HN1 := Lib.hid (rname_l F.name (w.alloc (.cells #[.string ⟨F.name.toArray⟩, .slice A1 F.init.length c1, .slice A2 F.ths.length c2, .bool F.all, vc] 26)) ok.name)
  have HO := Lib.hid ok.init
  clear hb3 ok
  unfold maxLen at ha2 hb2
  cases hn : WordM.nameB F.name
  · have E := Lib.hid (show frameC F = 22 from if_pos hn)
    rw [hn] at HN1
    clear hn
    go_enter Tryz.func64, Tryz.ntmps64
    go_wp2_with fail
    refine HN1.out.mono ?_
    rintro e w1 ⟨rfl, hb⟩
    have hB1 := chain hB0 hb
    go_wp2
    go_ret
    exact ⟨ret_int E.out.symm, hB1⟩
  · rw [hn] at HN1
    have HF := Lib.hid (show frameC F = cellsC F from if_neg (by rw [hn]; simp))
    clear hn
    go_enter Tryz.func64, Tryz.ntmps64
    go_wp2_with fail
    refine HN1.out.mono ?_
    rintro e w1 ⟨rfl, hb⟩
    have hB1 := chain hB0 hb
    have hbx1 := hbx.below hb
    clear hb hB0 hbx HN1
    go_wp2
    go_loopw [3] (fun i wr => FrRel F (.slice A1 F.init.length c1) (.slice A2 F.ths.length c2) vc w i wr) (fun i _ => F.init.length - (intOf i).toNat)
    case atStart => exact ⟨0, Nat.zero_le _, rfl, fun j h => absurd h (Nat.not_lt_zero j), hB1, hbx1⟩
    case round =>
      clear hB1 hbx1
      obtain ⟨k, hk, rfl, hall, hB, hbx⟩ := hrel
      obtain ⟨l0, l1, l2, l3, l4⟩ := id hbx
      by_cases hlt : k < F.init.length
      · obtain ⟨b1, f1, rfl, hb1, hcl⟩ := ha3 (by omega)
        obtain ⟨d0, d1⟩ := (hcl k hlt).below (hB.mono hBB) hb1
        have HP := Lib.hid (fun j h => (hcl j h).below (hB.mono hBB) hb1)
        have HC := Lib.hid (cellC_at hlt)
        have HA := Lib.hid hall
        have hxs := HO.out F.init[k] (List.getElem_mem _)
        obtain ⟨x, hx⟩ : ∃ x, x = F.init[k] := ⟨_, rfl⟩
        rw [← hx] at d0 d1 hxs
        have HX := Lib.hid hx
        have HN2 := Lib.hid (rname_l x.1 wr hxs)
        have HBX := Lib.hid hbx
        clear hx hall hcl ha3 hbx
        cases hn : WordM.nameB x.1
        · have E := Lib.hid (show frameC F = 22 by
            have e : cellC F.init k = 22 := by rw [HC.out, ← HX.out, if_pos hn]
            rw [HF.out, cellsC_hit hlt HA.out (by rw [e]; decide), e])
          rw [hn] at HN2
          clear hn HC HA HX HF HP
          go_wp2_with fail
          refine HN2.out.mono ?_
          rintro e w1 ⟨rfl, hb⟩
          have hB1 := chain hB hb
          go_wp2
          go_ret
          exact ⟨ret_int E.out.symm, hB1⟩
        · rw [hn] at HN2
          by_cases hk0 : k = 0
          · have q1 : decide ((0 : Int) < (k : Int)) = false := decide_eq_false (by omega)
            have q2 : decide (0 < k) = false := decide_eq_false (by omega)
            have hz := Lib.hid (show cellC F.init k = 0 by rw [HC.out, ← HX.out, if_neg (by rw [hn]; simp), if_neg (by omega)])
            clear hn HC HX HF hk0 HP
            go_wp2_with fail
            refine HN2.out.mono ?_
            rintro e w1 ⟨rfl, hb⟩
            have hB1 := chain hB hb
            have hbx1 := Lib.hid (HBX.out.below hb)
            obtain ⟨t0, t1, t2, t3, t4⟩ := hbx1.out
            clear l0 l1 l2 l3 l4 hb
            go_wp2
            go_quiet (fail)
            go_wp2
            refine ⟨⟨k + 1, by omega, by go_num, fun j hj => ?_, below_drewN hB1 _, hbx1.out⟩, by simp [intOf]; omega⟩
            by_cases e : j = k
            · rw [e]; exact hz.out
            · exact HA.out j (by omega)
          · obtain ⟨m, rfl⟩ : ∃ m, k = m + 1 := ⟨k - 1, by omega⟩
            have q1 : decide ((0 : Int) < ((m + 1 : Nat) : Int)) = true := decide_eq_true (by omega)
            have q2 : decide (0 < m + 1) = true := decide_eq_true (by omega)
            have hm2 : m < F.init.length := by omega
            have hw1 : IntKind.i64.wrap (((m + 1 : Nat) : Int) - 1) = (m : Int) := by rw [IntWalk.i64_in _ (by omega)]; omega
            have hw2 : wrap64 (((m + 1 : Nat) : Int) - 1) = (m : Int) := by rw [NumM.wrap64_inR _ (by unfold NumM.inR; omega)]; omega
            obtain ⟨p0, -⟩ := HP.out m (by omega)
            obtain ⟨y, hy⟩ : ∃ y, y = F.init[m]'(by omega) := ⟨_, rfl⟩
            rw [← hy] at p0
            have HY := Lib.hid hy
            have HG := Lib.hid (show (F.init.getD (m + 1 - 1) ([], 0)) = y by rw [HY.out, List.getD_eq_getElem?_getD, Nat.add_sub_cancel, List.getElem?_eq_getElem (by omega)]; rfl)
            clear hy
            have E0 := Lib.hid (fun (hle : x.1 ≤ y.1) => (show frameC F = 21 by
              have e : cellC F.init (m + 1) = 21 := by rw [HC.out, ← HX.out, if_neg (by rw [hn]; simp), HG.out, if_pos ⟨by omega, hle⟩]
              rw [HF.out, cellsC_hit hlt HA.out (by rw [e]; decide), e]))
            have HZ := Lib.hid (fun (hle : ¬ x.1 ≤ y.1) => (show cellC F.init (m + 1) = 0 by rw [HC.out, ← HX.out, if_neg (by rw [hn]; simp), HG.out, if_neg (fun c => hle c.2)]))
            clear hn HC HX HF HP HG HY
            rcases le_cases x.1 y.1 with ⟨q3, hle⟩ | ⟨q3, q4, hle⟩ | ⟨q3, q4, hle⟩
            · have E := Lib.hid (E0.out hle)
              clear hle E0 HZ HA
              go_wp2_with fail
              refine HN2.out.mono ?_
              rintro e w1 ⟨rfl, hb⟩
              have hB1 := chain hB hb
              obtain ⟨t0, t1, t2, t3, t4⟩ := HBX.out.below hb
              replace d0 := kc hb d0
              replace p0 := kc hb p0
              clear l0 l1 l2 l3 l4 hb d1
              go_wp2
              go_quiet (fail)
              go_wp2
              go_ret
              exact ⟨ret_int E.out.symm, below_drewN hB1 _⟩
            · have E := Lib.hid (E0.out hle)
              clear hle E0 HZ HA
              go_wp2_with fail
              refine HN2.out.mono ?_
              rintro e w1 ⟨rfl, hb⟩
              have hB1 := chain hB hb
              obtain ⟨t0, t1, t2, t3, t4⟩ := HBX.out.below hb
              replace d0 := kc hb d0
              replace p0 := kc hb p0
              clear l0 l1 l2 l3 l4 hb d1
              go_wp2
              go_quiet (fail)
              go_wp2
              go_ret
              exact ⟨ret_int E.out.symm, below_drewN hB1 _⟩
            · have hz := Lib.hid (HZ.out hle)
              clear hle E0 HZ
              go_wp2_with fail
              refine HN2.out.mono ?_
              rintro e w1 ⟨rfl, hb⟩
              have hB1 := chain hB hb
              have hbx1 := Lib.hid (HBX.out.below hb)
              obtain ⟨t0, t1, t2, t3, t4⟩ := hbx1.out
              replace d0 := kc hb d0
              replace p0 := kc hb p0
              clear l0 l1 l2 l3 l4 hb d1
              go_wp2
              go_quiet (fail)
              go_wp2
              refine ⟨⟨m + 1 + 1, by omega, by go_num, fun j hj => ?_, below_drewN hB1 _, hbx1.out⟩, by simp [intOf]; omega⟩
              by_cases e : j = m + 1
              · rw [e]; exact hz.out
              · exact HA.out j (by omega)
      · obtain rfl : F.init.length = k := by omega
        have HE := Lib.hid (HF.out.trans (cellsC_end hall))
        clear hall HF ha3 hbx
        by_cases h1 : F.ths.length < 1
        · have E := Lib.hid (show frameC F = 5 by rw [HE.out, if_pos (Or.inl h1)])
          clear HE
          go_wp2
          go_ret
          exact ⟨ret_int E.out.symm, hB⟩
        · by_cases h3 : 3 < F.ths.length
          · have E := Lib.hid (show frameC F = 5 by rw [HE.out, if_pos (Or.inr h3)])
            clear HE
            go_wp2
            go_ret
            exact ⟨ret_int E.out.symm, hB⟩
          · have E := Lib.hid (show frameC F = 0 by rw [HE.out, if_neg (fun c => c.elim h1 h3)])
            clear HE
            go_wp2
            go_ret
            exact ⟨ret_int E.out.symm, hB⟩
end Go.Proofs.YtmpiapmfdmllkaaGreatDoor
namespace Go.Proofs.YtmpiapmfdmllkaaGreatDoor
open Go.RowKit
set_option linter.unusedVariables false
set_option linter.unusedSimpArgs false
open WordM (L)
open VM

def PtRel (ls : List L) (s : L) (w : World) (v d i : Value) (wr : World) : Prop :=
  ∃ (k : Nat) (out : List L) (dn : Bool), k ≤ ls.length ∧ i = .int .i64 k ∧ d = .bool dn ∧ out.length ≤ 2 * k ∧ VM.put ls s = out ++ (if dn = true then ls.drop k else ins s (ls.drop k)) ∧ wr.ownsRow w.heap.size 9 1 v out.length (svs out) ∧ Below w.heap.size w wr
theorem pt_own {w wr w1 : World} {v v' : Value} {out : List L} {x : L} (h : w1.ownsRow w.heap.size 9 1 v' (out.length + 1) (svs out ++ [.string ⟨x.toArray⟩])) : w1.ownsRow w.heap.size 9 1 v' (out ++ [x]).length (svs (out ++ [x])) := by
  rw [svs_snoc, List.length_append]; exact h
set_option maxHeartbeats 4000000 in
set_option maxRecDepth 100000 in
theorem rput_any {B : Nat} {v : Value} {ls : List L} (s : L) (w : World) (h : Strs B w v ls) (hBB : B ≤ w.heap.size) (hn : ls.length ≤ 1000000000000) :
    Calls Tryz.prog 67 #[v, .string ⟨s.toArray⟩] w (RetStrs (VM.put ls s) w) := by
  obtain ⟨i0, hi, hz0, hz1, hz2⟩ := info_parts info_string
  obtain ⟨A1, c1, rfl, ha1, ha2, ha3⟩ := h
  unfold maxLen at ha2
  have H0 := Lib.hid (show VM.put ls s = [] ++ (if decide (s = []) = true then ls.drop 0 else ins s (ls.drop 0)) by
    unfold VM.put; by_cases e : s = [] <;> simp [e])
  have q0 := beq_dec s ([] : L)
  obtain ⟨d0, hd0⟩ : ∃ d, d = decide (s = []) := ⟨_, rfl⟩
  rw [← hd0] at H0 q0
  clear hd0
  go_enter Tryz.func67, Tryz.ntmps67
  go_wp2
  go_loopw [5, 6, 7] (fun v d i wr => PtRel ls s w v d i wr) (fun _ _ i _ => ls.length - (intOf i).toNat)
  case atStart => exact ⟨0, [], d0, Nat.zero_le _, rfl, rfl, Nat.le_refl _, H0.out, World.ownsRow_nil _ _ _ _, Below.refl _ _⟩
  case round =>
    obtain ⟨k, out, dn, hk, rfl, rfl, ho, hsp, hown, hB⟩ := hrel
    clear q0
    by_cases hlt : k < ls.length
    · obtain ⟨b1, f1, rfl, hb1, hcl⟩ := ha3 (by omega)
      have e0 := hcl k hlt
      have hdr := List.drop_eq_getElem_cons hlt
      obtain ⟨x, hx⟩ : ∃ x, x = ls[k] := ⟨_, rfl⟩
      rw [← hx] at e0 hdr
      rw [hdr] at hsp
      have e1 : wr.cell? ⟨b1, f1 + k, none⟩ = some (.string ⟨x.toArray⟩) := ((hB.mono hBB).cell (p := ⟨b1, f1 + k, none⟩) hb1).trans e0
      have E0 := Lib.hid e0
      clear hx hcl ha3 e0 hdr
      cases dn
      · simp only [Bool.false_eq_true, if_false] at hsp
        rcases le_cases s x with ⟨q3, hle⟩ | ⟨q3, q4, hle⟩ | ⟨q3, q4, hle⟩
        · have hne : ¬ s = x := by intro e; subst e; rw [bytes_lt] at q3; exact List.lt_irrefl _ (of_decide_eq_true q3)
          have q4 : (s == x) = false := by rw [beq_dec]; exact decide_eq_false hne
          have q5 : (x == s) = false := by rw [beq_dec]; exact decide_eq_false (fun e => hne e.symm)
          have HS := Lib.hid (show VM.put ls s = ((out ++ [s]) ++ [x]) ++ (if true = true then ls.drop (k + 1) else ins s (ls.drop (k + 1))) by
            rw [hsp]; unfold ins; rw [if_pos hle, if_neg hne]; simp)
          clear hsp hle hne
          go_wp2_with (first | (at_builtin; refine wpList_append_own _ rfl _ _ 40 rfl w.heap.size 9 i0 (.string ⟨#[]⟩) 1 16 Tryz.underlying40 hi hz0 hz1 hz2 rfl (by decide) _ _ _ rfl (hown.alloc _) ⟨wr.heap.size, 0, none⟩ 1 1 [.string ⟨s.toArray⟩] rfl rfl (cell_one_new _ _ _) (by simp [Value.oneCell']) (by unfold maxLen; omega) (by omega) (by have := hB.size; simp; omega) ?_; intro v1 w1 hown1 hg1 _; have hB1 := below_append (hB.alloc hB.size (.cells #[.string ⟨s.toArray⟩] 9)) (hown.alloc _) (Nat.le_refl _) (by have := hB.size; simp; omega) hg1; have hown1' := pt_own (wr := wr) (v := .bool true) hown1; have e1' := (show w1.cell? ⟨b1, f1 + k, none⟩ = some (.string ⟨x.toArray⟩) from ((hB1.mono hBB).cell (p := ⟨b1, f1 + k, none⟩) hb1).trans E0.out)) | (at_builtin; refine wpList_append_own _ rfl _ _ 40 rfl w.heap.size 9 i0 (.string ⟨#[]⟩) 1 16 Tryz.underlying40 hi hz0 hz1 hz2 rfl (by decide) _ _ _ rfl (hown1'.alloc _) ⟨w1.heap.size, 0, none⟩ 1 1 [.string ⟨x.toArray⟩] rfl rfl (cell_one_new _ _ _) (by simp [Value.oneCell']) (by unfold maxLen; simp; omega) (by simp; omega) (by have := hB1.size; simp; omega) ?_; intro v2 w2 hown2 hg2 _))
          have hB2 := below_append (hB1.alloc hB1.size (.cells #[.string ⟨x.toArray⟩] 9)) (hown1'.alloc _) (Nat.le_refl _) (by have := hB1.size; simp; omega) hg2
          go_roundw
          case rel => exact ⟨k + 1, _, true, by omega, by go_num, rfl, by simp; omega, HS.out, pt_own (wr := wr) (v := .bool true) hown2, hB2⟩
          case measure => simp [intOf]; omega
        · have e := (show s = x from by rw [beq_dec] at q4; exact of_decide_eq_true q4)
          have q5 : (x == s) = true := by rw [e]; simp
          have HS := Lib.hid (show VM.put ls s = (out ++ [x]) ++ (if true = true then ls.drop (k + 1) else ins s (ls.drop (k + 1))) by
            rw [hsp]; unfold ins; rw [if_pos hle, if_pos e]; simp)
          clear hsp hle e
          go_wp2_with (at_builtin; refine wpList_append_own _ rfl _ _ 40 rfl w.heap.size 9 i0 (.string ⟨#[]⟩) 1 16 Tryz.underlying40 hi hz0 hz1 hz2 rfl (by decide) _ _ _ rfl (hown.alloc _) ⟨wr.heap.size, 0, none⟩ 1 1 [.string ⟨x.toArray⟩] rfl rfl (cell_one_new _ _ _) (by simp [Value.oneCell']) (by unfold maxLen; omega) (by omega) (by have := hB.size; simp; omega) ?_; intro v1 w1 hown1 hg1 _)
          have hB1 := below_append (hB.alloc hB.size (.cells #[.string ⟨x.toArray⟩] 9)) (hown.alloc _) (Nat.le_refl _) (by have := hB.size; simp; omega) hg1
          go_roundw
          case rel => exact ⟨k + 1, _, true, by omega, by go_num, rfl, by simp; omega, HS.out, pt_own (wr := wr) (v := .bool true) hown1, hB1⟩
          case measure => simp [intOf]; omega
        · have HS := Lib.hid (show VM.put ls s = (out ++ [x]) ++ (if false = true then ls.drop (k + 1) else ins s (ls.drop (k + 1))) by
            rw [hsp, show ins s (x :: ls.drop (k + 1)) = x :: ins s (ls.drop (k + 1)) from if_neg hle]; simp)
          clear hsp hle
          go_wp2_with (at_builtin; refine wpList_append_own _ rfl _ _ 40 rfl w.heap.size 9 i0 (.string ⟨#[]⟩) 1 16 Tryz.underlying40 hi hz0 hz1 hz2 rfl (by decide) _ _ _ rfl (hown.alloc _) ⟨wr.heap.size, 0, none⟩ 1 1 [.string ⟨x.toArray⟩] rfl rfl (cell_one_new _ _ _) (by simp [Value.oneCell']) (by unfold maxLen; omega) (by omega) (by have := hB.size; simp; omega) ?_; intro v1 w1 hown1 hg1 _)
          have hB1 := below_append (hB.alloc hB.size (.cells #[.string ⟨x.toArray⟩] 9)) (hown.alloc _) (Nat.le_refl _) (by have := hB.size; simp; omega) hg1
          go_roundw
          case rel => exact ⟨k + 1, _, false, by omega, by go_num, rfl, by simp; omega, HS.out, pt_own (wr := wr) (v := .bool true) hown1, hB1⟩
          case measure => simp [intOf]; omega
      · simp only [if_true] at hsp
        have HS := Lib.hid (show VM.put ls s = (out ++ [x]) ++ (if true = true then ls.drop (k + 1) else ins s (ls.drop (k + 1))) by
          rw [hsp]; simp)
        clear hsp
        go_wp2_with (at_builtin; refine wpList_append_own _ rfl _ _ 40 rfl w.heap.size 9 i0 (.string ⟨#[]⟩) 1 16 Tryz.underlying40 hi hz0 hz1 hz2 rfl (by decide) _ _ _ rfl (hown.alloc _) ⟨wr.heap.size, 0, none⟩ 1 1 [.string ⟨x.toArray⟩] rfl rfl (cell_one_new _ _ _) (by simp [Value.oneCell']) (by unfold maxLen; omega) (by omega) (by have := hB.size; simp; omega) ?_; intro v1 w1 hown1 hg1 _)
        have hB1 := below_append (hB.alloc hB.size (.cells #[.string ⟨x.toArray⟩] 9)) (hown.alloc _) (Nat.le_refl _) (by have := hB.size; simp; omega) hg1
        go_roundw
        case rel => exact ⟨k + 1, _, true, by omega, by go_num, rfl, by simp; omega, HS.out, pt_own (wr := wr) (v := .bool true) hown1, hB1⟩
        case measure => simp [intOf]; omega
    · obtain rfl : ls.length = k := by omega
      rw [List.drop_length] at hsp
      clear ha3
      cases dn
      · simp only [Bool.false_eq_true, if_false] at hsp
        have HS := Lib.hid (show VM.put ls s = out ++ [s] by rw [hsp]; rfl)
        clear hsp
        go_wp2_with (at_builtin; refine wpList_append_own _ rfl _ _ 40 rfl w.heap.size 9 i0 (.string ⟨#[]⟩) 1 16 Tryz.underlying40 hi hz0 hz1 hz2 rfl (by decide) _ _ _ rfl (hown.alloc _) ⟨wr.heap.size, 0, none⟩ 1 1 [.string ⟨s.toArray⟩] rfl rfl (cell_one_new _ _ _) (by simp [Value.oneCell']) (by unfold maxLen; omega) (by omega) (by have := hB.size; simp; omega) ?_; intro v1 w1 hown1 hg1 _)
        have hB1 := below_append (hB.alloc hB.size (.cells #[.string ⟨s.toArray⟩] 9)) (hown.alloc _) (Nat.le_refl _) (by have := hB.size; simp; omega) hg1
        go_ret
        unfold RetStrs
        rw [HS.out]
        exact ⟨v1, rfl, pt_own (wr := wr) (v := .bool true) hown1, hB1⟩
      · simp only [if_true, List.append_nil] at hsp
        have HS := Lib.hid hsp
        clear hsp
        go_wp2
        go_ret
        unfold RetStrs
        rw [HS.out]
        exact ⟨_, rfl, hown, hB⟩
end Go.Proofs.YtmpiapmfdmllkaaGreatDoor
namespace Go.Proofs.YtmpiapmfdmllkaaGreatDoor
open Go.RowKit
set_option linter.unusedVariables false
set_option linter.unusedSimpArgs false
open WordM (L)
open VM

theorem ins_len (s : L) : ∀ l : List L, (ins s l).length ≤ l.length + 1
  | [] => by simp [ins]
  | y :: r => by
    unfold ins
    by_cases h : s ≤ y
    · rw [if_pos h]
      by_cases e : s = y
      · rw [if_pos e]; simp
      · rw [if_neg e]; simp
    · rw [if_neg h]
      have := ins_len s r
      simp; omega
theorem put_len (l : List L) (s : L) : (VM.put l s).length ≤ l.length + 1 := by
  unfold VM.put
  by_cases e : s = []
  · rw [if_pos e]; omega
  · rw [if_neg e]; exact ins_len s l
theorem fold_len : ∀ (ns acc : List L), (ns.foldl VM.put acc).length ≤ acc.length + ns.length
  | [], acc => by simp
  | s :: r, acc => by
    rw [List.foldl_cons]
    have h1 := fold_len r (VM.put acc s)
    have h2 := put_len acc s
    simp; omega
def ul (ls : List OpsM.Ln) : List L := ls.map (·.loc)
def ut : List (List OpsM.Ln) → List L
  | [] => []
  | ls :: r => ul ls ++ ut r
theorem ul_take (ls : List OpsM.Ln) (k : Nat) (h : k < ls.length) : ul (ls.take (k + 1)) = ul (ls.take k) ++ [ls[k].loc] := by
  unfold ul; rw [List.take_succ_eq_append_getElem h, List.map_append]; rfl
theorem ut_take : ∀ (ts : List (List OpsM.Ln)) (k : Nat) (h : k < ts.length), ut (ts.take (k + 1)) = ut (ts.take k) ++ ul ts[k]
  | [], k, h => absurd h (Nat.not_lt_zero k)
  | ls :: r, 0, h => by simp [ut]
  | ls :: r, k + 1, h => by
    have := ut_take r k (by simpa using h)
    simp only [List.take_succ_cons, ut, List.getElem_cons_succ, this, List.append_assoc]
theorem ut_le {M : Nat} : ∀ (ts : List (List OpsM.Ln)), (∀ ls ∈ ts, ls.length ≤ M) → (ut ts).length ≤ ts.length * M
  | [], _ => by simp [ut]
  | ls :: r, h => by
    have h1 := ut_le r (fun x hx => h x (by simp [hx]))
    have h2 := h ls (by simp)
    simp only [ut, ul, List.length_append, List.length_map, List.length_cons, Nat.succ_mul]
    omega
theorem fold_ul : ∀ (ls : List OpsM.Ln) (acc : List L), (ul ls).foldl VM.put acc = (lnames ls).foldl VM.put acc
  | [], acc => rfl
  | x :: r, acc => by
    unfold ul lnames
    rw [List.map_cons, List.foldl_cons]
    by_cases e : x.loc = []
    · rw [List.filter_cons_of_neg (by simp [e])]
      have : VM.put acc x.loc = acc := by unfold VM.put; rw [if_pos e]
      rw [this]; exact fold_ul r acc
    · rw [List.filter_cons_of_pos (by simp [e]), List.foldl_cons]; exact fold_ul r _
theorem fold_ut : ∀ (ts : List (List OpsM.Ln)) (acc : List L), (ut ts).foldl VM.put acc = (tnames ts).foldl VM.put acc
  | [], acc => rfl
  | ls :: r, acc => by
    simp only [ut, tnames, List.foldl_append, fold_ul]
    exact fold_ut r _
def unames (F : Fl) : List L := F.init.map (·.1) ++ (ut F.ths ++ anames F.cond)
theorem fold_unames (F : Fl) : (unames F).foldl VM.put [] = locs F := by
  unfold unames locs names
  simp only [List.foldl_append, fold_ut]
/-- What the document's loops keep. -/
def DcI (F : Fl) (vi vt vc : Value) (w : World) (ns : List L) (v : Value) (wr : World) : Prop :=
  wr.ownsRow w.heap.size 9 1 v (ns.foldl VM.put []).length (svs (ns.foldl VM.put [])) ∧ Below w.heap.size w wr ∧ FlBox wr w.heap.size ⟨F.name.toArray⟩ vi vt vc F.all
theorem DcI.call {F : Fl} {vi vt vc : Value} {w : World} {ns : List L} {v : Value} {wr : World} (h : DcI F vi vt vc w ns v wr) (s : L) (hn : ns.length ≤ 100000000000) :
    Calls Tryz.prog 67 #[v, .string ⟨s.toArray⟩] wr fun e w' => ∃ v', e = .returned v' ∧ DcI F vi vt vc w (ns ++ [s]) v' w' ∧ Below wr.heap.size wr w' := by
  have hl := fold_len ns []
  refine (rput_any s wr (strs_own h.1) (Nat.le_refl _) (by simp at hl; omega)).mono ?_
  rintro e w' ⟨v', rfl, hown, hb⟩
  refine ⟨v', rfl, ⟨?_, chain h.2.1 hb, h.2.2.below hb⟩, hb⟩
  rw [List.foldl_append]
  exact own_base hown h.2.1.size
def D1Rel (F : Fl) (vi vt vc : Value) (w : World) (v i : Value) (wr : World) : Prop :=
  ∃ k : Nat, k ≤ F.init.length ∧ i = .int .i64 k ∧ DcI F vi vt vc w ((F.init.take k).map (·.1)) v wr
def D2Rel (F : Fl) (vi vt vc : Value) (w : World) (v i : Value) (wr : World) : Prop :=
  ∃ k : Nat, k ≤ F.ths.length ∧ i = .int .i64 k ∧ DcI F vi vt vc w (F.init.map (·.1) ++ ut (F.ths.take k)) v wr
def D3Rel (F : Fl) (ls : List OpsM.Ln) (S : List L) (vi vt vc : Value) (w : World) (v i : Value) (wr : World) : Prop :=
  ∃ k : Nat, k ≤ ls.length ∧ i = .int .i64 k ∧ DcI F vi vt vc w (S ++ ul (ls.take k)) v wr
def D4Rel (F : Fl) (vi vt vc : Value) (w : World) (v i : Value) (wr : World) : Prop :=
  ∃ k : Nat, k ≤ F.cond.length ∧ i = .int .i64 k ∧ DcI F vi vt vc w (F.init.map (·.1) ++ (ut F.ths ++ anames (F.cond.take k))) v wr
theorem FlOk.un {F : Fl} (ok : FlOk F) (k : Nat) : (ut (F.ths.take k)).length ≤ 10000000000 := by
  have h1 := ut_le (M := 100000) (F.ths.take k) (fun ls h => (ok.ths ls (List.mem_of_mem_take h)).1)
  have h2 : (F.ths.take k).length ≤ 100000 := by rw [List.length_take]; have := ok.nums.2.1; omega
  omega
set_option maxHeartbeats 4000000 in
set_option maxRecDepth 100000 in
theorem rlocs_any {B : Nat} {v : Value} {F : Fl} (w : World) (hv : FlV B w v F) (hBB : B ≤ w.heap.size) (ok : FlOk F) :
    Calls Tryz.prog 50 #[v] w (RetStrs (locs F) w) := by
  obtain ⟨vi, vt, vc, rfl, hm⟩ := hv
  unfold flv
  obtain ⟨hmi, hmt, hmc⟩ := hm
  obtain ⟨A0, c0, rfl, hi1, hi2, hi3⟩ := hmi
  obtain ⟨A2, c2, rfl, hb1, hb2, hb3⟩ := hmt
  obtain ⟨A1, c1, rfl, ha1, ha2, ha3⟩ := hmc
  have hn := ok.nums
  have HOK := Lib.hid ok
  have hbx := FlBox.at (w := w) rfl ⟨F.name.toArray⟩ (.slice A0 F.init.length c0) (.slice A2 F.ths.length c2) (.slice A1 F.cond.length c1) F.all 26
  have hI0 := Lib.hid (show DcI F (.slice A0 F.init.length c0) (.slice A2 F.ths.length c2) (.slice A1 F.cond.length c1) w [] (.slice none 0 0) (w.alloc (.cells #[.string ⟨F.name.toArray⟩, .slice A0 F.init.length c0, .slice A2 F.ths.length c2, .bool F.all, .slice A1 F.cond.length c1] 26)) from
    ⟨World.ownsRow_nil _ _ _ _, below_al (Below.refl w.heap.size w) _, hbx⟩)
  clear ok hbx
  unfold maxLen at hb2 ha2 hi2
  go_enter Tryz.func50, Tryz.ntmps50
  go_wp2
  go_loopw [3, 4] (fun v i wr => D1Rel F (.slice A0 F.init.length c0) (.slice A2 F.ths.length c2) (.slice A1 F.cond.length c1) w v i wr) (fun _ i _ => F.init.length - (intOf i).toNat)
  case atStart => exact ⟨0, Nat.zero_le _, rfl, hI0.out⟩
  case round =>
    obtain ⟨k, hk, rfl, hI⟩ := hrel
    obtain ⟨t0, t1, t2, t3, t4⟩ := hI.2.2
    by_cases hlt : k < F.init.length
    · obtain ⟨b1, f1, rfl, hb1, hcl⟩ := hi3 (by omega)
      obtain ⟨d0, d1⟩ := (hcl k hlt).below (hI.2.1.mono hBB) hb1
      have HT := Lib.hid (inames_take F.init k hlt)
      obtain ⟨x, hx⟩ : ∃ x, x = F.init[k] := ⟨_, rfl⟩
      rw [← hx] at d0 d1
      replace HT := Lib.hid (show (F.init.take (k + 1)).map (·.1) = (F.init.take k).map (·.1) ++ [x.1] by rw [HT.out, hx])
      have HP := Lib.hid (hI.call x.1 (by simp; omega))
      clear hx hcl hi3 hI hI0
      go_wp2_with fail
      refine HP.out.mono ?_
      rintro e w1 ⟨v', rfl, hI2, hb⟩
      have HI2 := Lib.hid hI2
      clear t0 t1 t2 t3 t4 d0 d1 hI2 hb HP
      go_wp2
      refine ⟨⟨k + 1, by omega, by go_num, HT.out ▸ HI2.out⟩, by simp [intOf]; omega⟩
    · obtain rfl : F.init.length = k := by omega
      rw [List.take_length] at hI
      clear hi3 hI0
      have HI := Lib.hid hI
      clear hI
      go_wp2
      go_loopw [3, 5] (fun v i wr => D2Rel F (.slice A0 F.init.length c0) (.slice A2 F.ths.length c2) (.slice A1 F.cond.length c1) w v i wr) (fun _ i _ => F.ths.length - (intOf i).toNat)
      case atStart => exact ⟨0, Nat.zero_le _, rfl, by simpa [ut] using HI.out⟩
      case round =>
        clear HI t0 t1 t2 t3 t4
        obtain ⟨k, hk, rfl, hI⟩ := hrel
        obtain ⟨t0, t1, t2, t3, t4⟩ := hI.2.2
        by_cases hlt : k < F.ths.length
        · obtain ⟨b1, f1, rfl, hb1, hcl⟩ := hb3 (by omega)
          obtain ⟨vl, d0w, hLn⟩ := hcl k hlt
          have HT := Lib.hid (ut_take F.ths k hlt)
          have hTl := Lib.hid (HOK.out.un k)
          have HOk := (HOK.out.ths F.ths[k] (List.getElem_mem _)).1
          obtain ⟨ls, hx⟩ : ∃ x, x = F.ths[k] := ⟨_, rfl⟩
          rw [← hx] at hLn HOk
          replace HT := Lib.hid (show F.init.map (·.1) ++ ut (F.ths.take (k + 1)) = (F.init.map (·.1) ++ ut (F.ths.take k)) ++ ul ls by rw [HT.out, hx, List.append_assoc])
          obtain ⟨A3, c3, rfl, he1, he2, he3⟩ := id hLn
          unfold maxLen at he2
          have HLn := Lib.hid hLn
          have HI1 := Lib.hid hI
          obtain ⟨S, hS⟩ : ∃ S, S = F.init.map (·.1) ++ ut (F.ths.take k) := ⟨_, rfl⟩
          have hSl := Lib.hid (show S.length ≤ 10000100000 by rw [hS]; have := hTl.out; simp; omega)
          rw [← hS] at HI1 HT
          have D0 := Lib.hid d0w
          clear hx hcl hb3 hLn hI he3 hS hTl d0w
          go_wp2
          go_loopw [3, 6] (fun v i wr => D3Rel F ls S (.slice A0 F.init.length c0) (.slice (some ⟨b1, f1, none⟩) F.ths.length c2) (.slice A1 F.cond.length c1) w v i wr) (fun _ i _ => ls.length - (intOf i).toNat)
          case atStart => exact ⟨0, Nat.zero_le _, rfl, by simpa [ul] using HI1.out⟩
          case round =>
            clear t0 t1 t2 t3 t4
            obtain ⟨m, hmk, rfl, hI⟩ := hrel
            obtain ⟨t0, t1, t2, t3, t4⟩ := hI.2.2
            have d0 := ((hI.2.1.mono hBB).cell (p := ⟨b1, f1 + k, none⟩) hb1).trans D0.out
            by_cases hlm : m < ls.length
            · obtain ⟨A4, c4, e4, _, _, he3⟩ := HLn.out
              injection e4 with e4 _ e5
              subst e4; subst e5
              obtain ⟨b3, f3, rfl, hb3, hc3⟩ := he3 (by omega)
              obtain ⟨q0, q1, q2, q3, q4⟩ := (hc3 m hlm).below (hI.2.1.mono hBB) hb3
              have HT3 := Lib.hid (ul_take ls m hlm)
              obtain ⟨x, hx⟩ : ∃ x, x = ls[m] := ⟨_, rfl⟩
              rw [← hx] at q0 q1 q2 q3 q4
              replace HT3 := Lib.hid (show S ++ ul (ls.take (m + 1)) = (S ++ ul (ls.take m)) ++ [x.loc] by rw [HT3.out, hx, List.append_assoc])
              have HP := Lib.hid (hI.call x.loc (by have := hSl.out; simp [ul]; omega))
              clear hx hc3 he3 hI
              go_wp2_with fail
              refine HP.out.mono ?_
              rintro e w1 ⟨v', rfl, hI2, hb⟩
              have HI2 := Lib.hid hI2
              clear t0 t1 t2 t3 t4 d0 q0 q1 q2 q3 q4 hI2 hb HP
              go_wp2
              refine ⟨⟨m + 1, by omega, by go_num, HT3.out ▸ HI2.out⟩, by simp [intOf]; omega⟩
            · obtain rfl : ls.length = m := by omega
              rw [List.take_length] at hI
              have HI5 := Lib.hid hI
              clear hI
              go_wp2
              refine ⟨⟨k + 1, by omega, by go_num, HT.out ▸ HI5.out⟩, by simp [intOf]; omega⟩
        · obtain rfl : F.ths.length = k := by omega
          rw [List.take_length] at hI
          clear hb3
          have HI := Lib.hid hI
          clear hI
          go_wp2
          go_loopw [3, 7] (fun v i wr => D4Rel F (.slice A0 F.init.length c0) (.slice A2 F.ths.length c2) (.slice A1 F.cond.length c1) w v i wr) (fun _ i _ => F.cond.length - (intOf i).toNat)
          case atStart => exact ⟨0, Nat.zero_le _, rfl, by simpa [anames] using HI.out⟩
          case round =>
            clear HI t0 t1 t2 t3 t4
            obtain ⟨k, hk, rfl, hI⟩ := hrel
            obtain ⟨t0, t1, t2, t3, t4⟩ := hI.2.2
            by_cases hlt : k < F.cond.length
            · obtain ⟨b1, f1, rfl, hb1, hcl⟩ := ha3 (by omega)
              obtain ⟨d0, d1, d2⟩ := (hcl k hlt).below (hI.2.1.mono hBB) hb1
              have HT := Lib.hid (anames_take F.cond k hlt)
              have hTl := HOK.out.un F.ths.length
              rw [List.take_length] at hTl
              have h1 := anames_le (F.cond.take k)
              obtain ⟨x, hx⟩ : ∃ x, x = F.cond[k] := ⟨_, rfl⟩
              rw [← hx] at d0 d1 d2
              replace HT := Lib.hid (hx.symm ▸ HT.out)
              by_cases ht : x.t = -1
              · have q : (x.t == (-1 : Int)) = true := by rw [ht]; rfl
                replace HT := Lib.hid (show F.init.map (·.1) ++ (ut F.ths ++ anames (F.cond.take (k + 1))) = (F.init.map (·.1) ++ (ut F.ths ++ anames (F.cond.take k))) ++ [x.nm] by rw [HT.out, if_pos ht]; simp only [List.append_assoc])
                have HP := Lib.hid (hI.call x.nm (by rw [List.length_take] at h1; simp; omega))
                clear hx hcl ha3 hI ht hTl h1
                go_wp2_with fail
                refine HP.out.mono ?_
                rintro e w1 ⟨v', rfl, hI2, hb⟩
                have HI2 := Lib.hid hI2
                clear t0 t1 t2 t3 t4 d0 d1 d2 hI2 hb HP
                go_wp2
                refine ⟨⟨k + 1, by omega, by go_num, HT.out ▸ HI2.out⟩, by simp [intOf]; omega⟩
              · have q : (x.t == (-1 : Int)) = false := by simpa using ht
                replace HT := Lib.hid (show anames (F.cond.take (k + 1)) = anames (F.cond.take k) by rw [HT.out, if_neg ht, List.append_nil])
                have HI5 := Lib.hid hI
                clear hx hcl ha3 hI ht hTl h1
                go_wp2
                refine ⟨⟨k + 1, by omega, by go_num, HT.out.symm ▸ HI5.out⟩, by simp [intOf]; omega⟩
            · obtain rfl : F.cond.length = k := by omega
              rw [List.take_length] at hI
              have HI5 := Lib.hid (show RetStrs (locs F) w (.returned _) _ from ⟨_, rfl, fold_unames F ▸ hI.1, hI.2.1⟩)
              clear hI ha3
              go_wp2
              go_ret
              exact HI5.out
end Go.Proofs.YtmpiapmfdmllkaaGreatDoor
