/-
  THE DOCUMENT's line: what is wrong with a line of a thread.
  THE DOCUMENT's head: what is wrong with the name, the cells and how many threads there are.
  THE DOCUMENT's locs: all locations of a program, put one by one.
  ATOMS: the document's Asked and Word, over any world.
  THE DOCUMENT's Check, Right, Locs.
  THE DOCUMENT's Right and Locs.
-/
import Derived.Test.YtaelfjphgdlbcaaK33
import Derived.Test.YtaelfjphgdlbcaaRLnc
import Derived.Test.YtaelfjphgdlbcaaRLnd
import Derived.Test.YtaelfjphgdlbcaaRLne
import Derived.Test.YtaelfjphgdlbcaaRLnf
import Derived.Test.YtaelfjphgdlbcaaRLng
import Derived.Test.YtaelfjphgdlbcaaRLnh
import Derived.Test.YtaelfjphgdlbcaaRLni
import Derived.Test.YtaelfjphgdlbcaaM03
import Derived.Test.YtaelfjphgdlbcaaK30
import Derived.Test.YtaelfjphgdlbcaaM04
import Derived.Test.YtaelfjphgdlbcaaM02
import Derived.Test.YtaelfjphgdlbcaaM16
namespace Go.Proofs.Ytaelfjphgdlbcaa
open Go.RowKit
open VM
theorem rline_any {B : Nat} {v : Value} {ls : List OpsM.Ln} {k : Nat} (w : World) (h : Lns B w v ls) (hBB : B ≤ w.heap.size) (hk : k < ls.length) (hn : ls.length ≤ 100000) (hs : ∀ l ∈ ls, l.reg.length ≤ 100000 ∧ l.loc.length ≤ 100000 ∧ l.label.length ≤ 100000) :
    Calls Try.prog 67 #[v, .int .i64 k] w fun e w' => e = .returned (.int .i64 (lnC ls k)) ∧ Below w.heap.size w w' := by
  by_cases hR : OpsM.rightL ls[k] = false
  · exact rline_a w h hBB hk hn hs hR
  by_cases h11 : ls[k].op = 11
  · by_cases hl : 0 < lcnt (ls.take k) ls[k].label
    · exact rline_b w h hBB hk hn hs hR h11 hl
    · exact rline_c w h hBB hk hn hs hR h11 hl
  by_cases h6 : ls[k].op = 6
  · rcases Nat.eq_zero_or_pos k with hk0 | hp
    · exact rline_d w h hBB hk hn hs hR h6 hk0
    · cases hf : ((ls[k - 1]'(by omega)).op == 6)
      · exact rline_e w h hBB hk hn hs hR h6 (k - 1) (by omega) hf
      · exact rline_f w h hBB hk hn hs hR h6 (k - 1) (by omega) hf
  cases hj : jmpB ls[k]
  · exact rline_g w h hBB hk hn hs hR h11 h6 hj
  · by_cases hl : lcnt (ls.drop (k + 1)) ls[k].label = 0
    · exact rline_h w h hBB hk hn hs hR h11 h6 hj hl
    · exact rline_i w h hBB hk hn hs hR h11 h6 hj hl
end Go.Proofs.Ytaelfjphgdlbcaa
namespace Go.Proofs.Ytaelfjphgdlbcaa
open Go.RowKit
set_option linter.unusedVariables false
set_option linter.unusedSimpArgs false
open WordM (L)
open VM

theorem rname_l (s : L) (w : World) (hs : s.length ≤ 100000) :
    Calls Try.prog 74 #[.string ⟨s.toArray⟩] w fun e w' => e = .returned (.bool (WordM.nameB s)) ∧ Below w.heap.size w w' := rname_any ⟨s.toArray⟩ w (by rw [Lib.size_eq]; exact hs)
set_option maxHeartbeats 4000000 in
set_option maxRecDepth 100000 in
theorem rhead_any {B : Nat} {v : Value} {F : Fl} (w : World) (hv : FlV B w v F) (hBB : B ≤ w.heap.size) (ok : FlOk F) :
    Calls Try.prog 66 #[v] w fun e w' => e = .returned (.int .i64 (frameC F)) ∧ Below w.heap.size w w' := by
  obtain ⟨vi, vt, vc, rfl, hm⟩ := hv
  unfold flv
  have hB0 := below_al (Below.refl w.heap.size w) (.cells #[.string ⟨F.name.toArray⟩, vi, vt, .bool F.all, vc] 30)
  have hbx := FlBox.at (w := w) rfl ⟨F.name.toArray⟩ vi vt vc F.all 30
  obtain ⟨hmi, hmt, _⟩ := hm
  obtain ⟨A1, c1, rfl, ha1, ha2, ha3⟩ := hmi
  obtain ⟨A2, c2, rfl, hb1, hb2, hb3⟩ := hmt
  have hl1 := ok.nums.1
  have hl2 := ok.nums.2.1
  have HN1 := Lib.hid (rname_l F.name (w.alloc (.cells #[.string ⟨F.name.toArray⟩, .slice A1 F.init.length c1, .slice A2 F.ths.length c2, .bool F.all, vc] 30)) ok.name)
  have HO := Lib.hid ok.init
  clear hb3 ok
  unfold maxLen at ha2 hb2
  cases hn : WordM.nameB F.name
  · have E := Lib.hid (show frameC F = 22 from if_pos hn)
    rw [hn] at HN1
    clear hn
    go_enter Try.func66, Try.ntmps66
    go_wp2_with fail
    refine HN1.out.mono ?_
    rintro e w1 ⟨rfl, hb⟩
    have hB1 := chain hB0 hb
    go_wp2
    go_ret
    exact ⟨ret_int E.out.symm, hB1⟩
  · rw [hn] at HN1
    have HF := Lib.hid (show frameC F = cellsC F from if_neg (by rw [hn]; simp))
    clear hn
    go_enter Try.func66, Try.ntmps66
    go_wp2_with fail
    refine HN1.out.mono ?_
    rintro e w1 ⟨rfl, hb⟩
    have hB1 := chain hB0 hb
    have hbx1 := hbx.below hb
    clear hb hB0 hbx HN1
    go_wp2
    go_loopw [3] (fun i wr => FrRel F (.slice A1 F.init.length c1) (.slice A2 F.ths.length c2) vc w i wr) (fun i _ => F.init.length - (intOf i).toNat)
    case atStart => exact ⟨0, Nat.zero_le _, rfl, fun j h => absurd h (Nat.not_lt_zero j), hB1, hbx1⟩
    case round =>
      clear hB1 hbx1
      obtain ⟨k, hk, rfl, hall, hB, hbx⟩ := hrel
      obtain ⟨l0, l1, l2, l3, l4⟩ := id hbx
      by_cases hlt : k < F.init.length
      · obtain ⟨b1, f1, rfl, hb1, hcl⟩ := ha3 (by omega)
        obtain ⟨d0, d1⟩ := (hcl k hlt).below (hB.mono hBB) hb1
        have HP := Lib.hid (fun j h => (hcl j h).below (hB.mono hBB) hb1)
        have HC := Lib.hid (cellC_at hlt)
        have HA := Lib.hid hall
        have hxs := HO.out F.init[k] (List.getElem_mem _)
        obtain ⟨x, hx⟩ : ∃ x, x = F.init[k] := ⟨_, rfl⟩
        rw [← hx] at d0 d1 hxs
        have HX := Lib.hid hx
        have HN2 := Lib.hid (rname_l x.1 wr hxs)
        have HBX := Lib.hid hbx
        clear hx hall hcl ha3 hbx
        cases hn : WordM.nameB x.1
        · have E := Lib.hid (show frameC F = 22 by
            have e : cellC F.init k = 22 := by rw [HC.out, ← HX.out, if_pos hn]
            rw [HF.out, cellsC_hit hlt HA.out (by rw [e]; decide), e])
          rw [hn] at HN2
          clear hn HC HA HX HF HP
          go_wp2_with fail
          refine HN2.out.mono ?_
          rintro e w1 ⟨rfl, hb⟩
          have hB1 := chain hB hb
          go_wp2
          go_ret
          exact ⟨ret_int E.out.symm, hB1⟩
        · rw [hn] at HN2
          by_cases hk0 : k = 0
          · have q1 : decide ((0 : Int) < (k : Int)) = false := decide_eq_false (by omega)
            have q2 : decide (0 < k) = false := decide_eq_false (by omega)
            have hz := Lib.hid (show cellC F.init k = 0 by rw [HC.out, ← HX.out, if_neg (by rw [hn]; simp), if_neg (by omega)])
            clear hn HC HX HF hk0 HP
            go_wp2_with fail
            refine HN2.out.mono ?_
            rintro e w1 ⟨rfl, hb⟩
            have hB1 := chain hB hb
            have hbx1 := Lib.hid (HBX.out.below hb)
            obtain ⟨t0, t1, t2, t3, t4⟩ := hbx1.out
            clear l0 l1 l2 l3 l4 hb
            go_wp2
            go_quiet (fail)
            go_wp2
            refine ⟨⟨k + 1, by omega, by go_num, fun j hj => ?_, below_drewN hB1 _, hbx1.out⟩, by simp [intOf]; omega⟩
            by_cases e : j = k
            · rw [e]; exact hz.out
            · exact HA.out j (by omega)
          · obtain ⟨m, rfl⟩ : ∃ m, k = m + 1 := ⟨k - 1, by omega⟩
            have q1 : decide ((0 : Int) < ((m + 1 : Nat) : Int)) = true := decide_eq_true (by omega)
            have q2 : decide (0 < m + 1) = true := decide_eq_true (by omega)
            have hm2 : m < F.init.length := by omega
            have hw1 : IntKind.i64.wrap (((m + 1 : Nat) : Int) - 1) = (m : Int) := by rw [IntWalk.i64_in _ (by omega)]; omega
            have hw2 : wrap64 (((m + 1 : Nat) : Int) - 1) = (m : Int) := by rw [NumM.wrap64_inR _ (by unfold NumM.inR; omega)]; omega
            obtain ⟨p0, -⟩ := HP.out m (by omega)
            obtain ⟨y, hy⟩ : ∃ y, y = F.init[m]'(by omega) := ⟨_, rfl⟩
            rw [← hy] at p0
            have HY := Lib.hid hy
            have HG := Lib.hid (show (F.init.getD (m + 1 - 1) ([], 0)) = y by rw [HY.out, List.getD_eq_getElem?_getD, Nat.add_sub_cancel, List.getElem?_eq_getElem (by omega)]; rfl)
            clear hy
            have E0 := Lib.hid (fun (hle : x.1 ≤ y.1) => (show frameC F = 21 by
              have e : cellC F.init (m + 1) = 21 := by rw [HC.out, ← HX.out, if_neg (by rw [hn]; simp), HG.out, if_pos ⟨by omega, hle⟩]
              rw [HF.out, cellsC_hit hlt HA.out (by rw [e]; decide), e]))
            have HZ := Lib.hid (fun (hle : ¬ x.1 ≤ y.1) => (show cellC F.init (m + 1) = 0 by rw [HC.out, ← HX.out, if_neg (by rw [hn]; simp), HG.out, if_neg (fun c => hle c.2)]))
            clear hn HC HX HF HP HG HY
            rcases le_cases x.1 y.1 with ⟨q3, hle⟩ | ⟨q3, q4, hle⟩ | ⟨q3, q4, hle⟩
            · have E := Lib.hid (E0.out hle)
              clear hle E0 HZ HA
              go_wp2_with fail
              refine HN2.out.mono ?_
              rintro e w1 ⟨rfl, hb⟩
              have hB1 := chain hB hb
              obtain ⟨t0, t1, t2, t3, t4⟩ := HBX.out.below hb
              replace d0 := kc hb d0
              replace p0 := kc hb p0
              clear l0 l1 l2 l3 l4 hb d1
              go_wp2
              go_quiet (fail)
              go_wp2
              go_ret
              exact ⟨ret_int E.out.symm, below_drewN hB1 _⟩
            · have E := Lib.hid (E0.out hle)
              clear hle E0 HZ HA
              go_wp2_with fail
              refine HN2.out.mono ?_
              rintro e w1 ⟨rfl, hb⟩
              have hB1 := chain hB hb
              obtain ⟨t0, t1, t2, t3, t4⟩ := HBX.out.below hb
              replace d0 := kc hb d0
              replace p0 := kc hb p0
              clear l0 l1 l2 l3 l4 hb d1
              go_wp2
              go_quiet (fail)
              go_wp2
              go_ret
              exact ⟨ret_int E.out.symm, below_drewN hB1 _⟩
            · have hz := Lib.hid (HZ.out hle)
              clear hle E0 HZ
              go_wp2_with fail
              refine HN2.out.mono ?_
              rintro e w1 ⟨rfl, hb⟩
              have hB1 := chain hB hb
              have hbx1 := Lib.hid (HBX.out.below hb)
              obtain ⟨t0, t1, t2, t3, t4⟩ := hbx1.out
              replace d0 := kc hb d0
              replace p0 := kc hb p0
              clear l0 l1 l2 l3 l4 hb d1
              go_wp2
              go_quiet (fail)
              go_wp2
              refine ⟨⟨m + 1 + 1, by omega, by go_num, fun j hj => ?_, below_drewN hB1 _, hbx1.out⟩, by simp [intOf]; omega⟩
              by_cases e : j = m + 1
              · rw [e]; exact hz.out
              · exact HA.out j (by omega)
      · obtain rfl : F.init.length = k := by omega
        have HE := Lib.hid (HF.out.trans (cellsC_end hall))
        clear hall HF ha3 hbx
        by_cases h1 : F.ths.length < 1
        · have E := Lib.hid (show frameC F = 5 by rw [HE.out, if_pos (Or.inl h1)])
          clear HE
          go_wp2
          go_ret
          exact ⟨ret_int E.out.symm, hB⟩
        · by_cases h3 : 3 < F.ths.length
          · have E := Lib.hid (show frameC F = 5 by rw [HE.out, if_pos (Or.inr h3)])
            clear HE
            go_wp2
            go_ret
            exact ⟨ret_int E.out.symm, hB⟩
          · have E := Lib.hid (show frameC F = 0 by rw [HE.out, if_neg (fun c => c.elim h1 h3)])
            clear HE
            go_wp2
            go_ret
            exact ⟨ret_int E.out.symm, hB⟩
end Go.Proofs.Ytaelfjphgdlbcaa
namespace Go.Proofs.Ytaelfjphgdlbcaa
open Go.RowKit
set_option linter.unusedVariables false
set_option linter.unusedSimpArgs false
open WordM (L)
open VM

theorem ins_len (s : L) : ∀ l : List L, (ins s l).length ≤ l.length + 1
  | [] => by simp [ins]
  | y :: r => by
    unfold ins
    by_cases h : s ≤ y
    · rw [if_pos h]
      by_cases e : s = y
      · rw [if_pos e]; simp
      · rw [if_neg e]; simp
    · rw [if_neg h]
      have := ins_len s r
      simp; omega
theorem put_len (l : List L) (s : L) : (VM.put l s).length ≤ l.length + 1 := by
  unfold VM.put
  by_cases e : s = []
  · rw [if_pos e]; omega
  · rw [if_neg e]; exact ins_len s l
theorem fold_len : ∀ (ns acc : List L), (ns.foldl VM.put acc).length ≤ acc.length + ns.length
  | [], acc => by simp
  | s :: r, acc => by
    rw [List.foldl_cons]
    have h1 := fold_len r (VM.put acc s)
    have h2 := put_len acc s
    simp; omega
def ul (ls : List OpsM.Ln) : List L := ls.map (·.loc)
def ut : List (List OpsM.Ln) → List L
  | [] => []
  | ls :: r => ul ls ++ ut r
theorem ul_take (ls : List OpsM.Ln) (k : Nat) (h : k < ls.length) : ul (ls.take (k + 1)) = ul (ls.take k) ++ [ls[k].loc] := by
  unfold ul; rw [List.take_succ_eq_append_getElem h, List.map_append]; rfl
theorem ut_take : ∀ (ts : List (List OpsM.Ln)) (k : Nat) (h : k < ts.length), ut (ts.take (k + 1)) = ut (ts.take k) ++ ul ts[k]
  | [], k, h => absurd h (Nat.not_lt_zero k)
  | ls :: r, 0, h => by simp [ut]
  | ls :: r, k + 1, h => by
    have := ut_take r k (by simpa using h)
    simp only [List.take_succ_cons, ut, List.getElem_cons_succ, this, List.append_assoc]
theorem ut_le {M : Nat} : ∀ (ts : List (List OpsM.Ln)), (∀ ls ∈ ts, ls.length ≤ M) → (ut ts).length ≤ ts.length * M
  | [], _ => by simp [ut]
  | ls :: r, h => by
    have h1 := ut_le r (fun x hx => h x (by simp [hx]))
    have h2 := h ls (by simp)
    simp only [ut, ul, List.length_append, List.length_map, List.length_cons, Nat.succ_mul]
    omega
theorem fold_ul : ∀ (ls : List OpsM.Ln) (acc : List L), (ul ls).foldl VM.put acc = (lnames ls).foldl VM.put acc
  | [], acc => rfl
  | x :: r, acc => by
    unfold ul lnames
    rw [List.map_cons, List.foldl_cons]
    by_cases e : x.loc = []
    · rw [List.filter_cons_of_neg (by simp [e])]
      have : VM.put acc x.loc = acc := by unfold VM.put; rw [if_pos e]
      rw [this]; exact fold_ul r acc
    · rw [List.filter_cons_of_pos (by simp [e]), List.foldl_cons]; exact fold_ul r _
theorem fold_ut : ∀ (ts : List (List OpsM.Ln)) (acc : List L), (ut ts).foldl VM.put acc = (tnames ts).foldl VM.put acc
  | [], acc => rfl
  | ls :: r, acc => by
    simp only [ut, tnames, List.foldl_append, fold_ul]
    exact fold_ut r _
def unames (F : Fl) : List L := F.init.map (·.1) ++ (ut F.ths ++ anames F.cond)
theorem fold_unames (F : Fl) : (unames F).foldl VM.put [] = locs F := by
  unfold unames locs names
  simp only [List.foldl_append, fold_ut]
/-- What the document's loops keep. -/
def DcI (F : Fl) (vi vt vc : Value) (w : World) (ns : List L) (v : Value) (wr : World) : Prop :=
  wr.ownsRow w.heap.size 9 1 v (ns.foldl VM.put []).length (svs (ns.foldl VM.put [])) ∧ Below w.heap.size w wr ∧ FlBox wr w.heap.size ⟨F.name.toArray⟩ vi vt vc F.all
theorem DcI.call {F : Fl} {vi vt vc : Value} {w : World} {ns : List L} {v : Value} {wr : World} (h : DcI F vi vt vc w ns v wr) (s : L) (hn : ns.length ≤ 100000000000) :
    Calls Try.prog 78 #[v, .string ⟨s.toArray⟩] wr fun e w' => ∃ v', e = .returned v' ∧ DcI F vi vt vc w (ns ++ [s]) v' w' ∧ Below wr.heap.size wr w' := by
  have hl := fold_len ns []
  refine (rput_any s wr (strs_own h.1) (Nat.le_refl _) (by simp at hl; omega)).mono ?_
  rintro e w' ⟨v', rfl, hown, hb⟩
  refine ⟨v', rfl, ⟨?_, chain h.2.1 hb, h.2.2.below hb⟩, hb⟩
  rw [List.foldl_append]
  exact own_base hown h.2.1.size
def D1Rel (F : Fl) (vi vt vc : Value) (w : World) (v i : Value) (wr : World) : Prop :=
  ∃ k : Nat, k ≤ F.init.length ∧ i = .int .i64 k ∧ DcI F vi vt vc w ((F.init.take k).map (·.1)) v wr
def D2Rel (F : Fl) (vi vt vc : Value) (w : World) (v i : Value) (wr : World) : Prop :=
  ∃ k : Nat, k ≤ F.ths.length ∧ i = .int .i64 k ∧ DcI F vi vt vc w (F.init.map (·.1) ++ ut (F.ths.take k)) v wr
def D3Rel (F : Fl) (ls : List OpsM.Ln) (S : List L) (vi vt vc : Value) (w : World) (v i : Value) (wr : World) : Prop :=
  ∃ k : Nat, k ≤ ls.length ∧ i = .int .i64 k ∧ DcI F vi vt vc w (S ++ ul (ls.take k)) v wr
def D4Rel (F : Fl) (vi vt vc : Value) (w : World) (v i : Value) (wr : World) : Prop :=
  ∃ k : Nat, k ≤ F.cond.length ∧ i = .int .i64 k ∧ DcI F vi vt vc w (F.init.map (·.1) ++ (ut F.ths ++ anames (F.cond.take k))) v wr
theorem FlOk.un {F : Fl} (ok : FlOk F) (k : Nat) : (ut (F.ths.take k)).length ≤ 10000000000 := by
  have h1 := ut_le (M := 100000) (F.ths.take k) (fun ls h => (ok.ths ls (List.mem_of_mem_take h)).1)
  have h2 : (F.ths.take k).length ≤ 100000 := by rw [List.length_take]; have := ok.nums.2.1; omega
  omega
set_option maxHeartbeats 4000000 in
set_option maxRecDepth 100000 in
theorem rlocs_any {B : Nat} {v : Value} {F : Fl} (w : World) (hv : FlV B w v F) (hBB : B ≤ w.heap.size) (ok : FlOk F) :
    Calls Try.prog 69 #[v] w (RetStrs (locs F) w) := by
  obtain ⟨vi, vt, vc, rfl, hm⟩ := hv
  unfold flv
  obtain ⟨hmi, hmt, hmc⟩ := hm
  obtain ⟨A0, c0, rfl, hi1, hi2, hi3⟩ := hmi
  obtain ⟨A2, c2, rfl, hb1, hb2, hb3⟩ := hmt
  obtain ⟨A1, c1, rfl, ha1, ha2, ha3⟩ := hmc
  have hn := ok.nums
  have HOK := Lib.hid ok
  have hbx := FlBox.at (w := w) rfl ⟨F.name.toArray⟩ (.slice A0 F.init.length c0) (.slice A2 F.ths.length c2) (.slice A1 F.cond.length c1) F.all 30
  have hI0 := Lib.hid (show DcI F (.slice A0 F.init.length c0) (.slice A2 F.ths.length c2) (.slice A1 F.cond.length c1) w [] (.slice none 0 0) (w.alloc (.cells #[.string ⟨F.name.toArray⟩, .slice A0 F.init.length c0, .slice A2 F.ths.length c2, .bool F.all, .slice A1 F.cond.length c1] 30)) from
    ⟨World.ownsRow_nil _ _ _ _, below_al (Below.refl w.heap.size w) _, hbx⟩)
  clear ok hbx
  unfold maxLen at hb2 ha2 hi2
  go_enter Try.func69, Try.ntmps69
  go_wp2
  go_loopw [3, 4] (fun v i wr => D1Rel F (.slice A0 F.init.length c0) (.slice A2 F.ths.length c2) (.slice A1 F.cond.length c1) w v i wr) (fun _ i _ => F.init.length - (intOf i).toNat)
  case atStart => exact ⟨0, Nat.zero_le _, rfl, hI0.out⟩
  case round =>
    obtain ⟨k, hk, rfl, hI⟩ := hrel
    obtain ⟨t0, t1, t2, t3, t4⟩ := hI.2.2
    by_cases hlt : k < F.init.length
    · obtain ⟨b1, f1, rfl, hb1, hcl⟩ := hi3 (by omega)
      obtain ⟨d0, d1⟩ := (hcl k hlt).below (hI.2.1.mono hBB) hb1
      have HT := Lib.hid (inames_take F.init k hlt)
      obtain ⟨x, hx⟩ : ∃ x, x = F.init[k] := ⟨_, rfl⟩
      rw [← hx] at d0 d1
      replace HT := Lib.hid (show (F.init.take (k + 1)).map (·.1) = (F.init.take k).map (·.1) ++ [x.1] by rw [HT.out, hx])
      have HP := Lib.hid (hI.call x.1 (by simp; omega))
      clear hx hcl hi3 hI hI0
      go_wp2_with fail
      refine HP.out.mono ?_
      rintro e w1 ⟨v', rfl, hI2, hb⟩
      have HI2 := Lib.hid hI2
      clear t0 t1 t2 t3 t4 d0 d1 hI2 hb HP
      go_wp2
      refine ⟨⟨k + 1, by omega, by go_num, HT.out ▸ HI2.out⟩, by simp [intOf]; omega⟩
    · obtain rfl : F.init.length = k := by omega
      rw [List.take_length] at hI
      clear hi3 hI0
      have HI := Lib.hid hI
      clear hI
      go_wp2
      go_loopw [3, 5] (fun v i wr => D2Rel F (.slice A0 F.init.length c0) (.slice A2 F.ths.length c2) (.slice A1 F.cond.length c1) w v i wr) (fun _ i _ => F.ths.length - (intOf i).toNat)
      case atStart => exact ⟨0, Nat.zero_le _, rfl, by simpa [ut] using HI.out⟩
      case round =>
        clear HI t0 t1 t2 t3 t4
        obtain ⟨k, hk, rfl, hI⟩ := hrel
        obtain ⟨t0, t1, t2, t3, t4⟩ := hI.2.2
        by_cases hlt : k < F.ths.length
        · obtain ⟨b1, f1, rfl, hb1, hcl⟩ := hb3 (by omega)
          obtain ⟨vl, d0w, hLn⟩ := hcl k hlt
          have HT := Lib.hid (ut_take F.ths k hlt)
          have hTl := Lib.hid (HOK.out.un k)
          have HOk := (HOK.out.ths F.ths[k] (List.getElem_mem _)).1
          obtain ⟨ls, hx⟩ : ∃ x, x = F.ths[k] := ⟨_, rfl⟩
          rw [← hx] at hLn HOk
          replace HT := Lib.hid (show F.init.map (·.1) ++ ut (F.ths.take (k + 1)) = (F.init.map (·.1) ++ ut (F.ths.take k)) ++ ul ls by rw [HT.out, hx, List.append_assoc])
          obtain ⟨A3, c3, rfl, he1, he2, he3⟩ := id hLn
          unfold maxLen at he2
          have HLn := Lib.hid hLn
          have HI1 := Lib.hid hI
          obtain ⟨S, hS⟩ : ∃ S, S = F.init.map (·.1) ++ ut (F.ths.take k) := ⟨_, rfl⟩
          have hSl := Lib.hid (show S.length ≤ 10000100000 by rw [hS]; have := hTl.out; simp; omega)
          rw [← hS] at HI1 HT
          have D0 := Lib.hid d0w
          clear hx hcl hb3 hLn hI he3 hS hTl d0w
          go_wp2
          go_loopw [3, 6] (fun v i wr => D3Rel F ls S (.slice A0 F.init.length c0) (.slice (some ⟨b1, f1, none⟩) F.ths.length c2) (.slice A1 F.cond.length c1) w v i wr) (fun _ i _ => ls.length - (intOf i).toNat)
          case atStart => exact ⟨0, Nat.zero_le _, rfl, by simpa [ul] using HI1.out⟩
          case round =>
            clear t0 t1 t2 t3 t4
            obtain ⟨m, hmk, rfl, hI⟩ := hrel
            obtain ⟨t0, t1, t2, t3, t4⟩ := hI.2.2
            have d0 := ((hI.2.1.mono hBB).cell (p := ⟨b1, f1 + k, none⟩) hb1).trans D0.out
            by_cases hlm : m < ls.length
            · obtain ⟨A4, c4, e4, _, _, he3⟩ := HLn.out
              injection e4 with e4 _ e5
              subst e4; subst e5
              obtain ⟨b3, f3, rfl, hb3, hc3⟩ := he3 (by omega)
              obtain ⟨q0, q1, q2, q3, q4⟩ := (hc3 m hlm).below (hI.2.1.mono hBB) hb3
              have HT3 := Lib.hid (ul_take ls m hlm)
              obtain ⟨x, hx⟩ : ∃ x, x = ls[m] := ⟨_, rfl⟩
              rw [← hx] at q0 q1 q2 q3 q4
              replace HT3 := Lib.hid (show S ++ ul (ls.take (m + 1)) = (S ++ ul (ls.take m)) ++ [x.loc] by rw [HT3.out, hx, List.append_assoc])
              have HP := Lib.hid (hI.call x.loc (by have := hSl.out; simp [ul]; omega))
              clear hx hc3 he3 hI
              go_wp2_with fail
              refine HP.out.mono ?_
              rintro e w1 ⟨v', rfl, hI2, hb⟩
              have HI2 := Lib.hid hI2
              clear t0 t1 t2 t3 t4 d0 q0 q1 q2 q3 q4 hI2 hb HP
              go_wp2
              refine ⟨⟨m + 1, by omega, by go_num, HT3.out ▸ HI2.out⟩, by simp [intOf]; omega⟩
            · obtain rfl : ls.length = m := by omega
              rw [List.take_length] at hI
              have HI5 := Lib.hid hI
              clear hI
              go_wp2
              refine ⟨⟨k + 1, by omega, by go_num, HT.out ▸ HI5.out⟩, by simp [intOf]; omega⟩
        · obtain rfl : F.ths.length = k := by omega
          rw [List.take_length] at hI
          clear hb3
          have HI := Lib.hid hI
          clear hI
          go_wp2
          go_loopw [3, 7] (fun v i wr => D4Rel F (.slice A0 F.init.length c0) (.slice A2 F.ths.length c2) (.slice A1 F.cond.length c1) w v i wr) (fun _ i _ => F.cond.length - (intOf i).toNat)
          case atStart => exact ⟨0, Nat.zero_le _, rfl, by simpa [anames] using HI.out⟩
          case round =>
            clear HI t0 t1 t2 t3 t4
            obtain ⟨k, hk, rfl, hI⟩ := hrel
            obtain ⟨t0, t1, t2, t3, t4⟩ := hI.2.2
            by_cases hlt : k < F.cond.length
            · obtain ⟨b1, f1, rfl, hb1, hcl⟩ := ha3 (by omega)
              obtain ⟨d0, d1, d2⟩ := (hcl k hlt).below (hI.2.1.mono hBB) hb1
              have HT := Lib.hid (anames_take F.cond k hlt)
              have hTl := HOK.out.un F.ths.length
              rw [List.take_length] at hTl
              have h1 := anames_le (F.cond.take k)
              obtain ⟨x, hx⟩ : ∃ x, x = F.cond[k] := ⟨_, rfl⟩
              rw [← hx] at d0 d1 d2
              replace HT := Lib.hid (hx.symm ▸ HT.out)
              by_cases ht : x.t = -1
              · have q : (x.t == (-1 : Int)) = true := by rw [ht]; rfl
                replace HT := Lib.hid (show F.init.map (·.1) ++ (ut F.ths ++ anames (F.cond.take (k + 1))) = (F.init.map (·.1) ++ (ut F.ths ++ anames (F.cond.take k))) ++ [x.nm] by rw [HT.out, if_pos ht]; simp only [List.append_assoc])
                have HP := Lib.hid (hI.call x.nm (by rw [List.length_take] at h1; simp; omega))
                clear hx hcl ha3 hI ht hTl h1
                go_wp2_with fail
                refine HP.out.mono ?_
                rintro e w1 ⟨v', rfl, hI2, hb⟩
                have HI2 := Lib.hid hI2
                clear t0 t1 t2 t3 t4 d0 d1 d2 hI2 hb HP
                go_wp2
                refine ⟨⟨k + 1, by omega, by go_num, HT.out ▸ HI2.out⟩, by simp [intOf]; omega⟩
              · have q : (x.t == (-1 : Int)) = false := by simpa using ht
                replace HT := Lib.hid (show anames (F.cond.take (k + 1)) = anames (F.cond.take k) by rw [HT.out, if_neg ht, List.append_nil])
                have HI5 := Lib.hid hI
                clear hx hcl ha3 hI ht hTl h1
                go_wp2
                refine ⟨⟨k + 1, by omega, by go_num, HT.out.symm ▸ HI5.out⟩, by simp [intOf]; omega⟩
            · obtain rfl : F.cond.length = k := by omega
              rw [List.take_length] at hI
              have HI5 := Lib.hid (show RetStrs (locs F) w (.returned _) _ from ⟨_, rfl, fold_unames F ▸ hI.1, hI.2.1⟩)
              clear hI ha3
              go_wp2
              go_ret
              exact HI5.out
end Go.Proofs.Ytaelfjphgdlbcaa
namespace Go.Proofs.Ytaelfjphgdlbcaa
open Go.RowKit
set_option linter.unusedVariables false
set_option linter.unusedSimpArgs false
open WordM (L)

set_option maxHeartbeats 1000000 in
set_option maxRecDepth 100000 in
theorem rasked_any (t n : Int) (nm : ByteArray) (w : World) (hs : nm.size ≤ 100000) :
    Calls Try.prog 68 #[atv t nm n] w fun e w' => e = .returned (.bool (AtomM.asked t nm.data.toList)) ∧ Below w.heap.size w w' := by
  have HN := Lib.hid (fun W => rname_any nm W hs)
  have HR := Lib.hid (fun W => rreg_any nm W)
  clear hs
  by_cases h : t = -1
  · have E := Lib.hid (show AtomM.asked t nm.data.toList = WordM.nameB nm.data.toList by unfold AtomM.asked; rw [if_pos h])
    subst h
    unfold atv
    go_enter Try.func68, Try.ntmps68
    go_wp2_with (go_at_call 74; refine (HN.out _).mono ?_; rintro e w' ⟨rfl, hB⟩)
    go_ret
    exact ⟨by rw [E.out]; rfl, box_below hB⟩
  · have E := Lib.hid (show AtomM.asked t nm.data.toList = (decide (0 ≤ t) && (decide (t < 3) && OpsM.regB nm.data.toList)) by unfold AtomM.asked; rw [if_neg h])
    have h' : (t == -1) = false := beq_eq_false_iff_ne.2 h
    clear h
    generalize AtomM.asked t nm.data.toList = res at *
    have hsg : decide (0 ≤ WordM.regNo nm.data.toList) = OpsM.regB nm.data.toList := rfl
    generalize OpsM.regB nm.data.toList = rb at *
    generalize WordM.regNo nm.data.toList = rn at *
    unfold atv
    by_cases h0 : 0 ≤ t
    · have q0 : decide (0 ≤ t) = true := decide_eq_true h0
      by_cases h3 : t < 3
      · have q3 : decide (t < 3) = true := decide_eq_true h3
        cases rb
        all_goals
          go_enter Try.func68, Try.ntmps68
          go_wp2_with (go_at_call 70; refine (HR.out _).mono ?_; rintro e w' ⟨rfl, hB⟩)
          go_ret
          exact ⟨ret_bool (by rw [E.out, q0, q3]; rfl), box_below hB⟩
      · have q3 : decide (t < 3) = false := decide_eq_false h3
        go_enter Try.func68, Try.ntmps68
        go_wp2
        go_ret
        exact ⟨ret_bool (by rw [E.out, q0, q3]; simp), (Below.refl _ _).alloc (Nat.le_refl _) _⟩
    · have q0 : decide (0 ≤ t) = false := decide_eq_false h0
      go_enter Try.func68, Try.ntmps68
      go_wp2
      go_ret
      exact ⟨ret_bool (by rw [E.out, q0]; simp), (Below.refl _ _).alloc (Nat.le_refl _) _⟩
end Go.Proofs.Ytaelfjphgdlbcaa
namespace Go.Proofs.Ytaelfjphgdlbcaa
open Go.RowKit
set_option linter.unusedVariables false
set_option linter.unusedSimpArgs false
open WordM (L)
open VM

theorem rasked_l (x : AtomM.At) (w : World) (hs : x.nm.length ≤ 100000) :
    Calls Try.prog 68 #[.agg #[.int .i64 x.t, .string ⟨x.nm.toArray⟩, .int .i64 x.n]] w fun e w' => e = .returned (.bool (AtomM.askedA x)) ∧ Below w.heap.size w w' := rasked_any x.t x.n ⟨x.nm.toArray⟩ w (by rw [Lib.size_eq]; exact hs)
def C1Rel (F : Fl) (vi vt vc : Value) (w : World) (i : Value) (wr : World) : Prop :=
  ∃ k : Nat, k ≤ F.ths.length ∧ i = .int .i64 k ∧ (∀ j, j < k → thC (F.ths.getD j []) = none) ∧ Below w.heap.size w wr ∧ FlBox wr w.heap.size ⟨F.name.toArray⟩ vi vt vc F.all
def C2Rel (F : Fl) (ls : List OpsM.Ln) (vi vt vc : Value) (w : World) (i : Value) (wr : World) : Prop :=
  ∃ k : Nat, k ≤ ls.length ∧ i = .int .i64 k ∧ (∀ j, j < k → lnC ls j = 0) ∧ Below w.heap.size w wr ∧ FlBox wr w.heap.size ⟨F.name.toArray⟩ vi vt vc F.all
theorem tup3 {a b c x y z : Int} (h : ((a, b, c) : Int × Int × Int) = (x, y, z)) : Ending.returned (.tuple #[.int .i64 x, .int .i64 y, .int .i64 z]) = .returned (.tuple #[.int .i64 a, .int .i64 b, .int .i64 c]) := by
  injection h with h1 h2; injection h2 with h2 h3; subst h1; subst h2; subst h3; rfl
/-- What a call says that tells a place and a number. -/
def RetChk (F : Fl) (w : World) (e : Ending) (w' : World) : Prop := e = .returned (.tuple #[.int .i64 (chk F).1, .int .i64 (chk F).2.1, .int .i64 (chk F).2.2]) ∧ Below w.heap.size w w'
theorem RetChk.mk {F : Fl} {w w' : World} {a b c : Int} (h : chk F = (a, b, c)) (hb : Below w.heap.size w w') : RetChk F w (.returned (.tuple #[.int .i64 a, .int .i64 b, .int .i64 c])) w' := by
  unfold RetChk; rw [h]; exact ⟨rfl, hb⟩
set_option maxHeartbeats 8000000 in
set_option maxRecDepth 100000 in
theorem rcheck_any {B : Nat} {v : Value} {F : Fl} (w : World) (hv : FlV B w v F) (hBB : B ≤ w.heap.size) (ok : FlOk F) :
    Calls Try.prog 54 #[v] w (RetChk F w) := by
  obtain ⟨vi, vt, vc, rfl, hm⟩ := hv
  have HM := Lib.hid hm
  have HOK := Lib.hid ok
  have HV : ∀ W, Below w.heap.size w W → FlV W.heap.size W (flv ⟨F.name.toArray⟩ vi vt vc F.all) F := fun W hW => ⟨vi, vt, vc, rfl, (HM.out.below (hW.mono hBB)).more (Nat.le_trans hBB hW.size)⟩
  have HH := Lib.hid (fun W (hW : Below w.heap.size w W) => rhead_any W (HV W hW) (Nat.le_refl _) HOK.out)
  have HL := Lib.hid (fun W (hW : Below w.heap.size w W) => rlocs_any W (HV W hW) (Nat.le_refl _) HOK.out)
  unfold flv at *
  obtain ⟨hmi, hmt, hmc⟩ := hm
  obtain ⟨A0, c0, rfl, hi1, hi2, hi3⟩ := hmi
  obtain ⟨A2, c2, rfl, hb1, hb2, hb3⟩ := hmt
  obtain ⟨A1, c1, rfl, ha1, ha2, ha3⟩ := hmc
  have hn := ok.nums
  have hB0 := below_al (Below.refl w.heap.size w) (.cells #[.string ⟨F.name.toArray⟩, .slice A0 F.init.length c0, .slice A2 F.ths.length c2, .bool F.all, .slice A1 F.cond.length c1] 30)
  have hbx := FlBox.at (w := w) rfl ⟨F.name.toArray⟩ (.slice A0 F.init.length c0) (.slice A2 F.ths.length c2) (.slice A1 F.cond.length c1) F.all 30
  have HH1 := Lib.hid (HH.out _ hB0)
  clear ok HV hi3 HM HH
  unfold maxLen at hb2 ha2 hi2
  by_cases hf : frameC F = 0
  · rw [hf] at HH1
    have HF := Lib.hid hf
    clear hf
    go_enter Try.func54, Try.ntmps54
    go_wp2_with fail
    refine HH1.out.mono ?_
    rintro e w1 ⟨rfl, hb⟩
    have hB1 := chain hB0 hb
    have hbx1 := hbx.below hb
    clear hb hB0 hbx HH1
    go_wp2
    go_loopw [6] (fun i wr => C1Rel F (.slice A0 F.init.length c0) (.slice A2 F.ths.length c2) (.slice A1 F.cond.length c1) w i wr) (fun i _ => F.ths.length - (intOf i).toNat)
    case atStart => exact ⟨0, Nat.zero_le _, rfl, fun j h => absurd h (Nat.not_lt_zero j), hB1, hbx1⟩
    case round =>
      clear hB1 hbx1
      obtain ⟨k, hk, rfl, hall, hB, hbx⟩ := hrel
      have HA := Lib.hid hall
      obtain ⟨t0, t1, t2, t3, t4⟩ := id hbx
      by_cases hlt : k < F.ths.length
      · obtain ⟨b1, f1, rfl, hb1, hcl⟩ := hb3 (by omega)
        obtain ⟨vl, d0w, hLn⟩ := hcl k hlt
        have HD := Lib.hid (getD_at F.ths k [] hlt)
        have HOk := HOK.out.ths F.ths[k] (List.getElem_mem _)
        obtain ⟨ls, hx⟩ : ∃ x, x = F.ths[k] := ⟨_, rfl⟩
        rw [← hx] at hLn HOk
        have HX := Lib.hid hx
        obtain ⟨A3, c3, rfl, he1, he2, he3⟩ := id hLn
        unfold maxLen at he2
        have HLn := Lib.hid hLn
        have D0 := Lib.hid d0w
        have hln := HOk.1
        have HS := Lib.hid HOk.2
        have HBX := Lib.hid hbx
        clear hx hcl hb3 hLn he3 d0w hall hbx HOk
        go_wp2
        go_loopw [7] (fun i wr => C2Rel F ls (.slice A0 F.init.length c0) (.slice (some ⟨b1, f1, none⟩) F.ths.length c2) (.slice A1 F.cond.length c1) w i wr) (fun i _ => ls.length - (intOf i).toNat)
        case atStart => exact ⟨0, Nat.zero_le _, rfl, fun j h => absurd h (Nat.not_lt_zero j), hB, HBX.out⟩
        case round =>
          clear t0 t1 t2 t3 t4 hB HBX
          obtain ⟨m, hmk, rfl, hal, hB3, hbx3⟩ := hrel
          obtain ⟨t0, t1, t2, t3, t4⟩ := id hbx3
          have HAl := Lib.hid hal
          have d0 := ((hB3.mono hBB).cell (p := ⟨b1, f1 + k, none⟩) hb1).trans D0.out
          have HBX3 := Lib.hid hbx3
          clear hal hbx3
          by_cases hlm : m < ls.length
          · have HC := Lib.hid (rline_any wr (HLn.out.below (hB3.mono hBB)) (Nat.le_trans hBB hB3.size) hlm hln HS.out)
            by_cases hz : lnC ls m = 0
            · rw [hz] at HC
              have HZ := Lib.hid hz
              clear hz
              go_wp2_with fail
              refine HC.out.mono ?_
              rintro e w2 ⟨rfl, hb⟩
              have hB4 := chain hB3 hb
              have HBX4 := Lib.hid (HBX3.out.below hb)
              clear t0 t1 t2 t3 t4 d0 hb HC
              go_wp2
              refine ⟨⟨m + 1, by omega, by go_num, fun j hj => ?_, hB4, HBX4.out⟩, by simp [intOf]; omega⟩
              by_cases e : j = m
              · rw [e]; exact HZ.out
              · exact HAl.out j (by omega)
            · have E := Lib.hid (show chk F = ((k : Int), (m : Int), lnC ls m) by
                have e : F.ths.getD k [] = ls := HD.out.trans HX.out.symm
                have hT := lineT_hit hlt HA.out (by rw [e]; exact hlm) (by rw [e]; exact HAl.out) (by rw [e]; exact hz)
                rw [e] at hT
                unfold chk
                rw [if_neg (by rw [HF.out]; simp), hT, if_pos hz])
              obtain ⟨c, hc⟩ : ∃ c, c = lnC ls m := ⟨_, rfl⟩
              rw [← hc] at E hz HC
              have q : (c == 0) = false := by simpa using hz
              clear hc
              go_wp2_with fail
              refine HC.out.mono ?_
              rintro e w2 ⟨rfl, hb⟩
              have hB4 := chain hB3 hb
              clear t0 t1 t2 t3 t4 d0 hb HC
              go_wp2
              go_ret3
              exact RetChk.mk E.out hB4
          · obtain rfl : ls.length = m := by omega
            have HT := Lib.hid (thC_none HAl.out)
            go_wp2
            refine ⟨⟨k + 1, by omega, by go_num, fun j hj => ?_, hB3, HBX3.out⟩, by simp [intOf]; omega⟩
            by_cases e : j = k
            · rw [e, HD.out, ← HX.out]; exact HT.out
            · exact HA.out j (by omega)
      · obtain rfl : F.ths.length = k := by omega
        have HLT := Lib.hid (lineT_end HA.out)
        have HBX := Lib.hid hbx
        clear hb3 hall HA hbx
        go_wp2
        go_loopw [9] (fun i wr => AfRel F (.slice A0 F.init.length c0) (.slice A2 F.ths.length c2) (.slice A1 F.cond.length c1) w i wr) (fun i _ => F.cond.length - (intOf i).toNat)
        case atStart => exact ⟨0, Nat.zero_le _, rfl, fun j h => absurd h (Nat.not_lt_zero j), hB, HBX.out⟩
        case round =>
          clear t0 t1 t2 t3 t4 hB HBX
          obtain ⟨k, hk, rfl, hall, hB, hbx⟩ := hrel
          have HA := Lib.hid hall
          obtain ⟨t0, t1, t2, t3, t4⟩ := id hbx
          clear hall
          have EA := Lib.hid (fun (c : Int) (hlt : k < F.cond.length) (e : atC F.ths.length F.cond k = c) (hc : c ≠ 0) => (show chk F = ((F.ths.length : Int), (k : Int), c) by
            have hT := atomT_hit hlt HA.out (by rw [e]; exact hc)
            rw [e] at hT
            unfold chk
            rw [if_neg (by rw [HF.out]; simp), HLT.out, if_neg (by simp), hT, if_pos hc]))
          by_cases hlt : k < F.cond.length
          · obtain ⟨b1, f1, rfl, hb1, hcl⟩ := ha3 (by omega)
            obtain ⟨d0, d1, d2⟩ := (hcl k hlt).below (hB.mono hBB) hb1
            have HC := Lib.hid (atC_at (n := F.ths.length) hlt)
            have HOk := (HOK.out.cond F.cond[k] (List.getElem_mem _)).1
            obtain ⟨x, hx⟩ : ∃ x, x = F.cond[k] := ⟨_, rfl⟩
            rw [← hx] at d0 d1 d2 HOk
            replace HC := Lib.hid (hx.symm ▸ HC.out)
            have hB1 := below_al hB (.cells #[.int .i64 x.t, .string ⟨x.nm.toArray⟩, .int .i64 x.n] 64)
            have HQ := Lib.hid (rasked_l x (wr.alloc (.cells #[.int .i64 x.t, .string ⟨x.nm.toArray⟩, .int .i64 x.n] 64)) HOk)
            have hbx1 := Lib.hid (hbx.below (below_al (Below.refl _ _) (.cells #[.int .i64 x.t, .string ⟨x.nm.toArray⟩, .int .i64 x.n] 64)))
            have hbA := AtBox.at (w := wr) rfl x.t x.n ⟨x.nm.toArray⟩ 64
            obtain ⟨s0, s1, s2, s3, s4⟩ := hbx1.out
            clear hx hcl ha3 hbx HL
            by_cases h6 : 6 ≤ k
            · have E := Lib.hid (EA.out 5 hlt (by rw [HC.out, if_pos h6]) (by decide))
              have q : decide ((6 : Int) ≤ (k : Int)) = true := decide_eq_true (by omega)
              clear HC HQ EA
              go_wp2
              go_ret3
              exact RetChk.mk E.out hB1
            · have q : decide ((6 : Int) ≤ (k : Int)) = false := decide_eq_false (by omega)
              cases hq : AtomM.askedA x
              · have E := Lib.hid (EA.out 1 hlt (by rw [HC.out, if_neg h6]; exact if_pos hq) (by decide))
                rw [hq] at HQ
                clear HC hq h6 EA
                go_wp2_with fail
                refine HQ.out.mono ?_
                rintro e w1 ⟨rfl, hb⟩
                obtain ⟨t0, t1, t2, t3, t4⟩ := hbx1.out.below hb
                replace hB1 := chain hB1 hb
                go_wp2
                go_ret3
                exact RetChk.mk E.out hB1
              · rw [hq] at HQ
                by_cases ht : (F.ths.length : Int) ≤ x.t
                · have E := Lib.hid (EA.out 22 hlt (by rw [HC.out, if_neg h6]; exact (if_neg (by rw [hq]; simp)).trans (if_pos ht)) (by decide))
                  have q2 : decide ((F.ths.length : Int) ≤ x.t) = true := decide_eq_true ht
                  clear HC hq h6 ht EA
                  go_wp2_with fail
                  refine HQ.out.mono ?_
                  rintro e w1 ⟨rfl, hb⟩
                  obtain ⟨t0, t1, t2, t3, t4⟩ := hbx1.out.below hb
                  obtain ⟨a0, a1, a2⟩ := hbA.below hb
                  replace hB1 := chain hB1 hb
                  go_wp2
                  go_ret3
                  exact RetChk.mk E.out hB1
                · have hz := Lib.hid (show atC F.ths.length F.cond k = 0 by rw [HC.out, if_neg h6]; exact (if_neg (by rw [hq]; simp)).trans (if_neg ht))
                  have q2 : decide ((F.ths.length : Int) ≤ x.t) = false := decide_eq_false ht
                  clear HC hq h6 ht EA
                  go_wp2_with fail
                  refine HQ.out.mono ?_
                  rintro e w1 ⟨rfl, hb⟩
                  have hbx2 := Lib.hid (hbx1.out.below hb)
                  obtain ⟨t0, t1, t2, t3, t4⟩ := hbx2.out
                  obtain ⟨a0, a1, a2⟩ := hbA.below hb
                  replace hB1 := chain hB1 hb
                  go_wp2
                  refine ⟨⟨k + 1, by omega, by go_num, fun j hj => ?_, hB1, hbx2.out⟩, by simp [intOf]; omega⟩
                  by_cases e : j = k
                  · rw [e]; exact hz.out
                  · exact HA.out j (by omega)
          · obtain rfl : F.cond.length = k := by omega
            have HAT := Lib.hid (atomT_end HA.out)
            have HL1 := Lib.hid (HL.out wr hB)
            have E := Lib.hid (show chk F = if locC F ≠ 0 then (-1, -1, locC F) else (0, 0, 0) by
              unfold chk
              rw [if_neg (by rw [HF.out]; simp), HLT.out, if_neg (by simp), HAT.out, if_neg (by simp)])
            clear ha3 HL EA hbx
            go_wp2_with fail
            refine HL1.out.mono ?_
            rintro e w1 ⟨v1, rfl, hown, hb⟩
            obtain ⟨A5, c5, rfl, hx1, hx2, -⟩ := strs_own hown
            have hB5 := chain hB hb
            clear hown hb t0 t1 t2 t3 t4 HL1
            by_cases h4 : 4 < (locs F).length
            · have E1 := Lib.hid (show chk F = (-1, -1, 5) by
                have e : locC F = 5 := if_pos h4
                rw [E.out, e]; rfl)
              have q : decide ((4 : Int) < ((locs F).length : Int)) = true := decide_eq_true (by omega)
              clear E
              go_wp2
              go_ret3
              exact RetChk.mk E1.out hB5
            · have E1 := Lib.hid (show chk F = (0, 0, 0) by
                have e : locC F = 0 := if_neg h4
                rw [E.out, e]; rfl)
              have q : decide ((4 : Int) < ((locs F).length : Int)) = false := decide_eq_false (by omega)
              clear E
              go_wp2
              go_ret3
              exact RetChk.mk E1.out hB5
  · have E := Lib.hid (show chk F = (-1, -1, frameC F) by unfold chk; rw [if_pos hf])
    obtain ⟨c, hc⟩ : ∃ c, c = frameC F := ⟨_, rfl⟩
    rw [← hc] at E hf HH1
    have q : (c == 0) = false := by simpa using hf
    clear hc
    go_enter Try.func54, Try.ntmps54
    go_wp2_with fail
    refine HH1.out.mono ?_
    rintro e w1 ⟨rfl, hb⟩
    have hB1 := chain hB0 hb
    clear hb hB0 hbx HH1
    go_wp2
    go_ret3
    exact RetChk.mk E.out hB1
end Go.Proofs.Ytaelfjphgdlbcaa
namespace Go.Proofs.Ytaelfjphgdlbcaa
open Go.RowKit
set_option linter.unusedVariables false
set_option linter.unusedSimpArgs false
open WordM (L)
open VM

set_option maxHeartbeats 2000000 in
set_option maxRecDepth 100000 in
theorem rvright_any {B : Nat} {v : Value} {F : Fl} (w : World) (hv : FlV B w v F) (hBB : B ≤ w.heap.size) (ok : FlOk F) :
    Calls Try.prog 27 #[v] w fun e w' => e = .returned (.bool (VM.right F)) ∧ Below w.heap.size w w' := by
  obtain ⟨vi, vt, vc, rfl, hm⟩ := hv
  have HM := Lib.hid hm
  have hB3 := below_al (Below.refl w.heap.size w) (.cells #[.string ⟨F.name.toArray⟩, vi, vt, .bool F.all, vc] 30)
  have H1 := Lib.hid (rcheck_any _ ⟨vi, vt, vc, rfl, HM.out.below (hB3.mono hBB)⟩ (Nat.le_trans hBB hB3.size) ok)
  obtain ⟨⟨A0, c0, rfl, _⟩, ⟨A2, c2, rfl, _⟩, ⟨A1, c1, rfl, _⟩⟩ := hm
  have E := Lib.hid (show VM.right F = ((chk F).2.2 == 0) from rfl)
  unfold RetChk at H1
  unfold flv at *
  clear ok HM
  generalize chk F = t at *
  obtain ⟨a, b, c⟩ := t
  go_enter Try.func27, Try.ntmps27
  go_wp2_with fail
  refine H1.out.mono ?_
  rintro e w1 ⟨rfl, hb⟩
  have hB := chain hB3 hb
  go_wp2
  go_ret
  exact ⟨ret_bool E.out.symm, hB⟩
set_option maxHeartbeats 2000000 in
set_option maxRecDepth 100000 in
theorem rvlocs_any {B : Nat} {v : Value} {F : Fl} (w : World) (hv : FlV B w v F) (hBB : B ≤ w.heap.size) (ok : FlOk F) :
    Calls Try.prog 55 #[v] w (RetStrs (locsR F) w) := by
  obtain ⟨vi, vt, vc, rfl, hm⟩ := hv
  have HM := Lib.hid hm
  have HOK := Lib.hid ok
  have hB3 := below_al (Below.refl w.heap.size w) (.cells #[.string ⟨F.name.toArray⟩, vi, vt, .bool F.all, vc] 30)
  have hbx := FlBox.at (w := w) rfl ⟨F.name.toArray⟩ vi vt vc F.all 30
  have H1 := Lib.hid (rvright_any _ ⟨vi, vt, vc, rfl, HM.out.below (hB3.mono hBB)⟩ (Nat.le_trans hBB hB3.size) ok)
  have H2 := Lib.hid (fun W (hW : Below w.heap.size w W) => rlocs_any (v := flv ⟨F.name.toArray⟩ vi vt vc F.all) W ⟨vi, vt, vc, rfl, HM.out.below (hW.mono hBB)⟩ (Nat.le_trans hBB hW.size) HOK.out)
  obtain ⟨⟨A0, c0, rfl, _⟩, ⟨A2, c2, rfl, _⟩, ⟨A1, c1, rfl, _⟩⟩ := hm
  unfold flv at *
  clear ok HM
  cases hq : VM.right F
  · have E := Lib.hid (show locsR F = [] by unfold locsR; rw [hq]; rfl)
    rw [hq] at H1
    clear hq H2
    go_enter Try.func55, Try.ntmps55
    go_wp2_with fail
    refine H1.out.mono ?_
    rintro e w1 ⟨rfl, hb⟩
    have hB := chain hB3 hb
    go_wp2
    go_ret
    unfold RetStrs
    rw [E.out]
    exact ⟨_, rfl, ⟨rfl, .inl ⟨rfl, rfl⟩⟩, hB⟩
  · have E := Lib.hid (show locsR F = locs F by unfold locsR; rw [hq]; rfl)
    rw [hq] at H1
    clear hq
    go_enter Try.func55, Try.ntmps55
    go_wp2_with fail
    refine H1.out.mono ?_
    rintro e w1 ⟨rfl, hb⟩
    have hB := chain hB3 hb
    obtain ⟨t0, t1, t2, t3, t4⟩ := hbx.below hb
    have H3 := Lib.hid (H2.out w1 hB)
    clear H1 hb
    go_wp2_with fail
    refine H3.out.mono ?_
    rintro e w2 ⟨v, rfl, hown, hb2⟩
    have hB2 := chain hB hb2
    have HRow := Lib.hid (own_base hown hB.size)
    clear hown hb2 H3 t0 t1 t2 t3 t4
    go_wp2
    go_ret
    unfold RetStrs
    rw [E.out]
    exact ⟨v, rfl, HRow.out, hB2⟩
end Go.Proofs.Ytaelfjphgdlbcaa
