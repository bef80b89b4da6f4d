/-
  THE DOCUMENT's head: what is wrong with the name, the cells and how many threads there are.
-/
import Derived.Test.YtkkjodjachbifaaGreatDoorFrame
import Derived.Test.YtkkjodjachbifaaGreatDoorRName
namespace Go.Proofs.YtkkjodjachbifaaGreatDoor
open Go.RowKit
set_option linter.unusedVariables false
set_option linter.unusedSimpArgs false
open WordM (L)
open VM

theorem rname_l (s : L) (w : World) (hs : s.length ≤ 100000) :
    Calls Tryz.prog 44 #[.string ⟨s.toArray⟩] w fun e w' => e = .returned (.bool (WordM.nameB s)) ∧ Below w.heap.size w w' := rname_any ⟨s.toArray⟩ w (by rw [Lib.size_eq]; exact hs)
set_option maxHeartbeats 4000000 in
set_option maxRecDepth 100000 in
theorem rhead_any {B : Nat} {v : Value} {F : Fl} (w : World) (hv : FlV B w v F) (hBB : B ≤ w.heap.size) (ok : FlOk F) :
    Calls Tryz.prog 52 #[v] w fun e w' => e = .returned (.int .i64 (frameC F)) ∧ Below w.heap.size w w' := by
  obtain ⟨vi, vt, vc, rfl, hm⟩ := hv
  unfold flv
  have hB0 := below_al (Below.refl w.heap.size w) (.cells #[.string ⟨F.name.toArray⟩, vi, vt, .bool F.all, vc] 26)
  have hbx := FlBox.at (w := w) rfl ⟨F.name.toArray⟩ vi vt vc F.all 26
  obtain ⟨hmi, hmt, _⟩ := hm
  obtain ⟨A1, c1, rfl, ha1, ha2, ha3⟩ := hmi
  obtain ⟨A2, c2, rfl, hb1, hb2, hb3⟩ := hmt
  have hl1 := ok.nums.1
  have hl2 := ok.nums.2.1
  have HN1 := Lib.hid (rname_l F.name (w.alloc (.cells #[.string ⟨F.name.toArray⟩, .slice A1 F.init.length c1, .slice A2 F.ths.length c2, .bool F.all, vc] 26)) ok.name)
  have HO := Lib.hid ok.init
  clear hb3 ok
  unfold maxLen at ha2 hb2
  cases hn : WordM.nameB F.name
  · have E := Lib.hid (show frameC F = 22 from if_pos hn)
    rw [hn] at HN1
    clear hn
    go_enter Tryz.func52, Tryz.ntmps52
    go_wp2_with fail
    refine HN1.out.mono ?_
    rintro e w1 ⟨rfl, hb⟩
    have hB1 := chain hB0 hb
    go_wp2
    go_ret
    exact ⟨ret_int E.out.symm, hB1⟩
  · rw [hn] at HN1
    have HF := Lib.hid (show frameC F = cellsC F from if_neg (by rw [hn]; simp))
    clear hn
    go_enter Tryz.func52, Tryz.ntmps52
    go_wp2_with fail
    refine HN1.out.mono ?_
    rintro e w1 ⟨rfl, hb⟩
    have hB1 := chain hB0 hb
    have hbx1 := hbx.below hb
    clear hb hB0 hbx HN1
    go_wp2
    go_loopw [3] (fun i wr => FrRel F (.slice A1 F.init.length c1) (.slice A2 F.ths.length c2) vc w i wr) (fun i _ => F.init.length - (intOf i).toNat)
    case atStart => exact ⟨0, Nat.zero_le _, rfl, fun j h => absurd h (Nat.not_lt_zero j), hB1, hbx1⟩
    case round =>
      clear hB1 hbx1
      obtain ⟨k, hk, rfl, hall, hB, hbx⟩ := hrel
      obtain ⟨l0, l1, l2, l3, l4⟩ := id hbx
      by_cases hlt : k < F.init.length
      · obtain ⟨b1, f1, rfl, hb1, hcl⟩ := ha3 (by omega)
        obtain ⟨d0, d1⟩ := (hcl k hlt).below (hB.mono hBB) hb1
        have HP := Lib.hid (fun j h => (hcl j h).below (hB.mono hBB) hb1)
        have HC := Lib.hid (cellC_at hlt)
        have HA := Lib.hid hall
        have hxs := HO.out F.init[k] (List.getElem_mem _)
        obtain ⟨x, hx⟩ : ∃ x, x = F.init[k] := ⟨_, rfl⟩
        rw [← hx] at d0 d1 hxs
        have HX := Lib.hid hx
        have HN2 := Lib.hid (rname_l x.1 wr hxs)
        have HBX := Lib.hid hbx
        clear hx hall hcl ha3 hbx
        cases hn : WordM.nameB x.1
        · have E := Lib.hid (show frameC F = 22 by
            have e : cellC F.init k = 22 := by rw [HC.out, ← HX.out, if_pos hn]
            rw [HF.out, cellsC_hit hlt HA.out (by rw [e]; decide), e])
          rw [hn] at HN2
          clear hn HC HA HX HF HP
          go_wp2_with fail
          refine HN2.out.mono ?_
          rintro e w1 ⟨rfl, hb⟩
          have hB1 := chain hB hb
          go_wp2
          go_ret
          exact ⟨ret_int E.out.symm, hB1⟩
        · rw [hn] at HN2
          by_cases hk0 : k = 0
          · have q1 : decide ((0 : Int) < (k : Int)) = false := decide_eq_false (by omega)
            have q2 : decide (0 < k) = false := decide_eq_false (by omega)
            have hz := Lib.hid (show cellC F.init k = 0 by rw [HC.out, ← HX.out, if_neg (by rw [hn]; simp), if_neg (by omega)])
            clear hn HC HX HF hk0 HP
            go_wp2_with fail
            refine HN2.out.mono ?_
            rintro e w1 ⟨rfl, hb⟩
            have hB1 := chain hB hb
            have hbx1 := Lib.hid (HBX.out.below hb)
            obtain ⟨t0, t1, t2, t3, t4⟩ := hbx1.out
            clear l0 l1 l2 l3 l4 hb
            go_wp2
            go_quiet (fail)
            go_wp2
            refine ⟨⟨k + 1, by omega, by go_num, fun j hj => ?_, below_drewN hB1 _, hbx1.out⟩, by simp [intOf]; omega⟩
            by_cases e : j = k
            · rw [e]; exact hz.out
            · exact HA.out j (by omega)
          · obtain ⟨m, rfl⟩ : ∃ m, k = m + 1 := ⟨k - 1, by omega⟩
            have q1 : decide ((0 : Int) < ((m + 1 : Nat) : Int)) = true := decide_eq_true (by omega)
            have q2 : decide (0 < m + 1) = true := decide_eq_true (by omega)
            have hm2 : m < F.init.length := by omega
            have hw1 : IntKind.i64.wrap (((m + 1 : Nat) : Int) - 1) = (m : Int) := by rw [IntWalk.i64_in _ (by omega)]; omega
            have hw2 : wrap64 (((m + 1 : Nat) : Int) - 1) = (m : Int) := by rw [NumM.wrap64_inR _ (by unfold NumM.inR; omega)]; omega
            obtain ⟨p0, -⟩ := HP.out m (by omega)
            obtain ⟨y, hy⟩ : ∃ y, y = F.init[m]'(by omega) := ⟨_, rfl⟩
            rw [← hy] at p0
            have HY := Lib.hid hy
            have HG := Lib.hid (show (F.init.getD (m + 1 - 1) ([], 0)) = y by rw [HY.out, List.getD_eq_getElem?_getD, Nat.add_sub_cancel, List.getElem?_eq_getElem (by omega)]; rfl)
            clear hy
            have E0 := Lib.hid (fun (hle : x.1 ≤ y.1) => (show frameC F = 21 by
              have e : cellC F.init (m + 1) = 21 := by rw [HC.out, ← HX.out, if_neg (by rw [hn]; simp), HG.out, if_pos ⟨by omega, hle⟩]
              rw [HF.out, cellsC_hit hlt HA.out (by rw [e]; decide), e]))
            have HZ := Lib.hid (fun (hle : ¬ x.1 ≤ y.1) => (show cellC F.init (m + 1) = 0 by rw [HC.out, ← HX.out, if_neg (by rw [hn]; simp), HG.out, if_neg (fun c => hle c.2)]))
            clear hn HC HX HF HP HG HY
            rcases le_cases x.1 y.1 with ⟨q3, hle⟩ | ⟨q3, q4, hle⟩ | ⟨q3, q4, hle⟩
            · have E := Lib.hid (E0.out hle)
              clear hle E0 HZ HA
              go_wp2_with fail
              refine HN2.out.mono ?_
              rintro e w1 ⟨rfl, hb⟩
              have hB1 := chain hB hb
              obtain ⟨t0, t1, t2, t3, t4⟩ := HBX.out.below hb
              replace d0 := kc hb d0
              replace p0 := kc hb p0
              clear l0 l1 l2 l3 l4 hb d1
              go_wp2
              go_quiet (fail)
              go_wp2
              go_ret
              exact ⟨ret_int E.out.symm, below_drewN hB1 _⟩
            · have E := Lib.hid (E0.out hle)
              clear hle E0 HZ HA
              go_wp2_with fail
              refine HN2.out.mono ?_
              rintro e w1 ⟨rfl, hb⟩
              have hB1 := chain hB hb
              obtain ⟨t0, t1, t2, t3, t4⟩ := HBX.out.below hb
              replace d0 := kc hb d0
              replace p0 := kc hb p0
              clear l0 l1 l2 l3 l4 hb d1
              go_wp2
              go_quiet (fail)
              go_wp2
              go_ret
              exact ⟨ret_int E.out.symm, below_drewN hB1 _⟩
            · have hz := Lib.hid (HZ.out hle)
              clear hle E0 HZ
              go_wp2_with fail
              refine HN2.out.mono ?_
              rintro e w1 ⟨rfl, hb⟩
              have hB1 := chain hB hb
              have hbx1 := Lib.hid (HBX.out.below hb)
              obtain ⟨t0, t1, t2, t3, t4⟩ := hbx1.out
              replace d0 := kc hb d0
              replace p0 := kc hb p0
              clear l0 l1 l2 l3 l4 hb d1
              go_wp2
              go_quiet (fail)
              go_wp2
              refine ⟨⟨m + 1 + 1, by omega, by go_num, fun j hj => ?_, below_drewN hB1 _, hbx1.out⟩, by simp [intOf]; omega⟩
              by_cases e : j = m + 1
              · rw [e]; exact hz.out
              · exact HA.out j (by omega)
      · obtain rfl : F.init.length = k := by omega
        have HE := Lib.hid (HF.out.trans (cellsC_end hall))
        clear hall HF ha3 hbx
        by_cases h1 : F.ths.length < 1
        · have E := Lib.hid (show frameC F = 5 by rw [HE.out, if_pos (Or.inl h1)])
          clear HE
          go_wp2
          go_ret
          exact ⟨ret_int E.out.symm, hB⟩
        · by_cases h3 : 3 < F.ths.length
          · have E := Lib.hid (show frameC F = 5 by rw [HE.out, if_pos (Or.inr h3)])
            clear HE
            go_wp2
            go_ret
            exact ⟨ret_int E.out.symm, hB⟩
          · have E := Lib.hid (show frameC F = 0 by rw [HE.out, if_neg (fun c => c.elim h1 h3)])
            clear HE
            go_wp2
            go_ret
            exact ⟨ret_int E.out.symm, hB⟩
end Go.Proofs.YtkkjodjachbifaaGreatDoor
