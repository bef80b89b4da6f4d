/-
  THE DOCUMENT's locs: all locations of a program, put one by one.
-/
import Derived.Test.YtkkjodjachbifaaGreatDoorRPut
namespace Go.Proofs.YtkkjodjachbifaaGreatDoor
open Go.RowKit
set_option linter.unusedVariables false
set_option linter.unusedSimpArgs false
open WordM (L)
open VM

theorem ins_len (s : L) : ∀ l : List L, (ins s l).length ≤ l.length + 1
  | [] => by simp [ins]
  | y :: r => by
    unfold ins
    by_cases h : s ≤ y
    · rw [if_pos h]
      by_cases e : s = y
      · rw [if_pos e]; simp
      · rw [if_neg e]; simp
    · rw [if_neg h]
      have := ins_len s r
      simp; omega
theorem put_len (l : List L) (s : L) : (VM.put l s).length ≤ l.length + 1 := by
  unfold VM.put
  by_cases e : s = []
  · rw [if_pos e]; omega
  · rw [if_neg e]; exact ins_len s l
theorem fold_len : ∀ (ns acc : List L), (ns.foldl VM.put acc).length ≤ acc.length + ns.length
  | [], acc => by simp
  | s :: r, acc => by
    rw [List.foldl_cons]
    have h1 := fold_len r (VM.put acc s)
    have h2 := put_len acc s
    simp; omega
def ul (ls : List OpsM.Ln) : List L := ls.map (·.loc)
def ut : List (List OpsM.Ln) → List L
  | [] => []
  | ls :: r => ul ls ++ ut r
theorem ul_take (ls : List OpsM.Ln) (k : Nat) (h : k < ls.length) : ul (ls.take (k + 1)) = ul (ls.take k) ++ [ls[k].loc] := by
  unfold ul; rw [List.take_succ_eq_append_getElem h, List.map_append]; rfl
theorem ut_take : ∀ (ts : List (List OpsM.Ln)) (k : Nat) (h : k < ts.length), ut (ts.take (k + 1)) = ut (ts.take k) ++ ul ts[k]
  | [], k, h => absurd h (Nat.not_lt_zero k)
  | ls :: r, 0, h => by simp [ut]
  | ls :: r, k + 1, h => by
    have := ut_take r k (by simpa using h)
    simp only [List.take_succ_cons, ut, List.getElem_cons_succ, this, List.append_assoc]
theorem ut_le {M : Nat} : ∀ (ts : List (List OpsM.Ln)), (∀ ls ∈ ts, ls.length ≤ M) → (ut ts).length ≤ ts.length * M
  | [], _ => by simp [ut]
  | ls :: r, h => by
    have h1 := ut_le r (fun x hx => h x (by simp [hx]))
    have h2 := h ls (by simp)
    simp only [ut, ul, List.length_append, List.length_map, List.length_cons, Nat.succ_mul]
    omega
theorem fold_ul : ∀ (ls : List OpsM.Ln) (acc : List L), (ul ls).foldl VM.put acc = (lnames ls).foldl VM.put acc
  | [], acc => rfl
  | x :: r, acc => by
    unfold ul lnames
    rw [List.map_cons, List.foldl_cons]
    by_cases e : x.loc = []
    · rw [List.filter_cons_of_neg (by simp [e])]
      have : VM.put acc x.loc = acc := by unfold VM.put; rw [if_pos e]
      rw [this]; exact fold_ul r acc
    · rw [List.filter_cons_of_pos (by simp [e]), List.foldl_cons]; exact fold_ul r _
theorem fold_ut : ∀ (ts : List (List OpsM.Ln)) (acc : List L), (ut ts).foldl VM.put acc = (tnames ts).foldl VM.put acc
  | [], acc => rfl
  | ls :: r, acc => by
    simp only [ut, tnames, List.foldl_append, fold_ul]
    exact fold_ut r _
def unames (F : Fl) : List L := F.init.map (·.1) ++ (ut F.ths ++ anames F.cond)
theorem fold_unames (F : Fl) : (unames F).foldl VM.put [] = locs F := by
  unfold unames locs names
  simp only [List.foldl_append, fold_ut]
/-- What the document's loops keep. -/
def DcI (F : Fl) (vi vt vc : Value) (w : World) (ns : List L) (v : Value) (wr : World) : Prop :=
  wr.ownsRow w.heap.size 9 1 v (ns.foldl VM.put []).length (svs (ns.foldl VM.put [])) ∧ Below w.heap.size w wr ∧ FlBox wr w.heap.size ⟨F.name.toArray⟩ vi vt vc F.all
theorem DcI.call {F : Fl} {vi vt vc : Value} {w : World} {ns : List L} {v : Value} {wr : World} (h : DcI F vi vt vc w ns v wr) (s : L) (hn : ns.length ≤ 100000000000) :
    Calls Tryz.prog 68 #[v, .string ⟨s.toArray⟩] wr fun e w' => ∃ v', e = .returned v' ∧ DcI F vi vt vc w (ns ++ [s]) v' w' ∧ Below wr.heap.size wr w' := by
  have hl := fold_len ns []
  refine (rput_any s wr (strs_own h.1) (Nat.le_refl _) (by simp at hl; omega)).mono ?_
  rintro e w' ⟨v', rfl, hown, hb⟩
  refine ⟨v', rfl, ⟨?_, chain h.2.1 hb, h.2.2.below hb⟩, hb⟩
  rw [List.foldl_append]
  exact own_base hown h.2.1.size
def D1Rel (F : Fl) (vi vt vc : Value) (w : World) (v i : Value) (wr : World) : Prop :=
  ∃ k : Nat, k ≤ F.init.length ∧ i = .int .i64 k ∧ DcI F vi vt vc w ((F.init.take k).map (·.1)) v wr
def D2Rel (F : Fl) (vi vt vc : Value) (w : World) (v i : Value) (wr : World) : Prop :=
  ∃ k : Nat, k ≤ F.ths.length ∧ i = .int .i64 k ∧ DcI F vi vt vc w (F.init.map (·.1) ++ ut (F.ths.take k)) v wr
def D3Rel (F : Fl) (ls : List OpsM.Ln) (S : List L) (vi vt vc : Value) (w : World) (v i : Value) (wr : World) : Prop :=
  ∃ k : Nat, k ≤ ls.length ∧ i = .int .i64 k ∧ DcI F vi vt vc w (S ++ ul (ls.take k)) v wr
def D4Rel (F : Fl) (vi vt vc : Value) (w : World) (v i : Value) (wr : World) : Prop :=
  ∃ k : Nat, k ≤ F.cond.length ∧ i = .int .i64 k ∧ DcI F vi vt vc w (F.init.map (·.1) ++ (ut F.ths ++ anames (F.cond.take k))) v wr
theorem FlOk.un {F : Fl} (ok : FlOk F) (k : Nat) : (ut (F.ths.take k)).length ≤ 10000000000 := by
  have h1 := ut_le (M := 100000) (F.ths.take k) (fun ls h => (ok.ths ls (List.mem_of_mem_take h)).1)
  have h2 : (F.ths.take k).length ≤ 100000 := by rw [List.length_take]; have := ok.nums.2.1; omega
  omega
set_option maxHeartbeats 4000000 in
set_option maxRecDepth 100000 in
theorem rlocs_any {B : Nat} {v : Value} {F : Fl} (w : World) (hv : FlV B w v F) (hBB : B ≤ w.heap.size) (ok : FlOk F) :
    Calls Tryz.prog 54 #[v] w (RetStrs (locs F) w) := by
  obtain ⟨vi, vt, vc, rfl, hm⟩ := hv
  unfold flv
  obtain ⟨hmi, hmt, hmc⟩ := hm
  obtain ⟨A0, c0, rfl, hi1, hi2, hi3⟩ := hmi
  obtain ⟨A2, c2, rfl, hb1, hb2, hb3⟩ := hmt
  obtain ⟨A1, c1, rfl, ha1, ha2, ha3⟩ := hmc
  have hn := ok.nums
  have HOK := Lib.hid ok
  have hbx := FlBox.at (w := w) rfl ⟨F.name.toArray⟩ (.slice A0 F.init.length c0) (.slice A2 F.ths.length c2) (.slice A1 F.cond.length c1) F.all 26
  have hI0 := Lib.hid (show DcI F (.slice A0 F.init.length c0) (.slice A2 F.ths.length c2) (.slice A1 F.cond.length c1) w [] (.slice none 0 0) (w.alloc (.cells #[.string ⟨F.name.toArray⟩, .slice A0 F.init.length c0, .slice A2 F.ths.length c2, .bool F.all, .slice A1 F.cond.length c1] 26)) from
    ⟨World.ownsRow_nil _ _ _ _, below_al (Below.refl w.heap.size w) _, hbx⟩)
  clear ok hbx
  unfold maxLen at hb2 ha2 hi2
  go_enter Tryz.func54, Tryz.ntmps54
  go_wp2
  go_loopw [3, 4] (fun v i wr => D1Rel F (.slice A0 F.init.length c0) (.slice A2 F.ths.length c2) (.slice A1 F.cond.length c1) w v i wr) (fun _ i _ => F.init.length - (intOf i).toNat)
  case atStart => exact ⟨0, Nat.zero_le _, rfl, hI0.out⟩
  case round =>
    obtain ⟨k, hk, rfl, hI⟩ := hrel
    obtain ⟨t0, t1, t2, t3, t4⟩ := hI.2.2
    by_cases hlt : k < F.init.length
    · obtain ⟨b1, f1, rfl, hb1, hcl⟩ := hi3 (by omega)
      obtain ⟨d0, d1⟩ := (hcl k hlt).below (hI.2.1.mono hBB) hb1
      have HT := Lib.hid (inames_take F.init k hlt)
      obtain ⟨x, hx⟩ : ∃ x, x = F.init[k] := ⟨_, rfl⟩
      rw [← hx] at d0 d1
      replace HT := Lib.hid (show (F.init.take (k + 1)).map (·.1) = (F.init.take k).map (·.1) ++ [x.1] by rw [HT.out, hx])
      have HP := Lib.hid (hI.call x.1 (by simp; omega))
      clear hx hcl hi3 hI hI0
      go_wp2_with fail
      refine HP.out.mono ?_
      rintro e w1 ⟨v', rfl, hI2, hb⟩
      have HI2 := Lib.hid hI2
      clear t0 t1 t2 t3 t4 d0 d1 hI2 hb HP
      go_wp2
      refine ⟨⟨k + 1, by omega, by go_num, HT.out ▸ HI2.out⟩, by simp [intOf]; omega⟩
    · obtain rfl : F.init.length = k := by omega
      rw [List.take_length] at hI
      clear hi3 hI0
      have HI := Lib.hid hI
      clear hI
      go_wp2
      go_loopw [3, 5] (fun v i wr => D2Rel F (.slice A0 F.init.length c0) (.slice A2 F.ths.length c2) (.slice A1 F.cond.length c1) w v i wr) (fun _ i _ => F.ths.length - (intOf i).toNat)
      case atStart => exact ⟨0, Nat.zero_le _, rfl, by simpa [ut] using HI.out⟩
      case round =>
        clear HI t0 t1 t2 t3 t4
        obtain ⟨k, hk, rfl, hI⟩ := hrel
        obtain ⟨t0, t1, t2, t3, t4⟩ := hI.2.2
        by_cases hlt : k < F.ths.length
        · obtain ⟨b1, f1, rfl, hb1, hcl⟩ := hb3 (by omega)
          obtain ⟨vl, d0w, hLn⟩ := hcl k hlt
          have HT := Lib.hid (ut_take F.ths k hlt)
          have hTl := Lib.hid (HOK.out.un k)
          have HOk := (HOK.out.ths F.ths[k] (List.getElem_mem _)).1
          obtain ⟨ls, hx⟩ : ∃ x, x = F.ths[k] := ⟨_, rfl⟩
          rw [← hx] at hLn HOk
          replace HT := Lib.hid (show F.init.map (·.1) ++ ut (F.ths.take (k + 1)) = (F.init.map (·.1) ++ ut (F.ths.take k)) ++ ul ls by rw [HT.out, hx, List.append_assoc])
          obtain ⟨A3, c3, rfl, he1, he2, he3⟩ := id hLn
          unfold maxLen at he2
          have HLn := Lib.hid hLn
          have HI1 := Lib.hid hI
          obtain ⟨S, hS⟩ : ∃ S, S = F.init.map (·.1) ++ ut (F.ths.take k) := ⟨_, rfl⟩
          have hSl := Lib.hid (show S.length ≤ 10000100000 by rw [hS]; have := hTl.out; simp; omega)
          rw [← hS] at HI1 HT
          have D0 := Lib.hid d0w
          clear hx hcl hb3 hLn hI he3 hS hTl d0w
          go_wp2
          go_loopw [3, 6] (fun v i wr => D3Rel F ls S (.slice A0 F.init.length c0) (.slice (some ⟨b1, f1, none⟩) F.ths.length c2) (.slice A1 F.cond.length c1) w v i wr) (fun _ i _ => ls.length - (intOf i).toNat)
          case atStart => exact ⟨0, Nat.zero_le _, rfl, by simpa [ul] using HI1.out⟩
          case round =>
            clear t0 t1 t2 t3 t4
            obtain ⟨m, hmk, rfl, hI⟩ := hrel
            obtain ⟨t0, t1, t2, t3, t4⟩ := hI.2.2
            have d0 := ((hI.2.1.mono hBB).cell (p := ⟨b1, f1 + k, none⟩) hb1).trans D0.out
            by_cases hlm : m < ls.length
            · obtain ⟨A4, c4, e4, _, _, he3⟩ := HLn.out
              injection e4 with e4 _ e5
              subst e4; subst e5
              obtain ⟨b3, f3, rfl, hb3, hc3⟩ := he3 (by omega)
              obtain ⟨q0, q1, q2, q3, q4⟩ := (hc3 m hlm).below (hI.2.1.mono hBB) hb3
              have HT3 := Lib.hid (ul_take ls m hlm)
              obtain ⟨x, hx⟩ : ∃ x, x = ls[m] := ⟨_, rfl⟩
              rw [← hx] at q0 q1 q2 q3 q4
              replace HT3 := Lib.hid (show S ++ ul (ls.take (m + 1)) = (S ++ ul (ls.take m)) ++ [x.loc] by rw [HT3.out, hx, List.append_assoc])
              have HP := Lib.hid (hI.call x.loc (by have := hSl.out; simp [ul]; omega))
              clear hx hc3 he3 hI
              go_wp2_with fail
              refine HP.out.mono ?_
              rintro e w1 ⟨v', rfl, hI2, hb⟩
              have HI2 := Lib.hid hI2
              clear t0 t1 t2 t3 t4 d0 q0 q1 q2 q3 q4 hI2 hb HP
              go_wp2
              refine ⟨⟨m + 1, by omega, by go_num, HT3.out ▸ HI2.out⟩, by simp [intOf]; omega⟩
            · obtain rfl : ls.length = m := by omega
              rw [List.take_length] at hI
              have HI5 := Lib.hid hI
              clear hI
              go_wp2
              refine ⟨⟨k + 1, by omega, by go_num, HT.out ▸ HI5.out⟩, by simp [intOf]; omega⟩
        · obtain rfl : F.ths.length = k := by omega
          rw [List.take_length] at hI
          clear hb3
          have HI := Lib.hid hI
          clear hI
          go_wp2
          go_loopw [3, 7] (fun v i wr => D4Rel F (.slice A0 F.init.length c0) (.slice A2 F.ths.length c2) (.slice A1 F.cond.length c1) w v i wr) (fun _ i _ => F.cond.length - (intOf i).toNat)
          case atStart => exact ⟨0, Nat.zero_le _, rfl, by simpa [anames] using HI.out⟩
          case round =>
            clear HI t0 t1 t2 t3 t4
            obtain ⟨k, hk, rfl, hI⟩ := hrel
            obtain ⟨t0, t1, t2, t3, t4⟩ := hI.2.2
            by_cases hlt : k < F.cond.length
            · obtain ⟨b1, f1, rfl, hb1, hcl⟩ := ha3 (by omega)
              obtain ⟨d0, d1, d2⟩ := (hcl k hlt).below (hI.2.1.mono hBB) hb1
              have HT := Lib.hid (anames_take F.cond k hlt)
              have hTl := HOK.out.un F.ths.length
              rw [List.take_length] at hTl
              have h1 := anames_le (F.cond.take k)
              obtain ⟨x, hx⟩ : ∃ x, x = F.cond[k] := ⟨_, rfl⟩
              rw [← hx] at d0 d1 d2
              replace HT := Lib.hid (hx.symm ▸ HT.out)
              by_cases ht : x.t = -1
              · have q : (x.t == (-1 : Int)) = true := by rw [ht]; rfl
                replace HT := Lib.hid (show F.init.map (·.1) ++ (ut F.ths ++ anames (F.cond.take (k + 1))) = (F.init.map (·.1) ++ (ut F.ths ++ anames (F.cond.take k))) ++ [x.nm] by rw [HT.out, if_pos ht]; simp only [List.append_assoc])
                have HP := Lib.hid (hI.call x.nm (by rw [List.length_take] at h1; simp; omega))
                clear hx hcl ha3 hI ht hTl h1
                go_wp2_with fail
                refine HP.out.mono ?_
                rintro e w1 ⟨v', rfl, hI2, hb⟩
                have HI2 := Lib.hid hI2
                clear t0 t1 t2 t3 t4 d0 d1 d2 hI2 hb HP
                go_wp2
                refine ⟨⟨k + 1, by omega, by go_num, HT.out ▸ HI2.out⟩, by simp [intOf]; omega⟩
              · have q : (x.t == (-1 : Int)) = false := by simpa using ht
                replace HT := Lib.hid (show anames (F.cond.take (k + 1)) = anames (F.cond.take k) by rw [HT.out, if_neg ht, List.append_nil])
                have HI5 := Lib.hid hI
                clear hx hcl ha3 hI ht hTl h1
                go_wp2
                refine ⟨⟨k + 1, by omega, by go_num, HT.out.symm ▸ HI5.out⟩, by simp [intOf]; omega⟩
            · obtain rfl : F.cond.length = k := by omega
              rw [List.take_length] at hI
              have HI5 := Lib.hid (show RetStrs (locs F) w (.returned _) _ from ⟨_, rfl, fold_unames F ▸ hI.1, hI.2.1⟩)
              clear hI ha3
              go_wp2
              go_ret
              exact HI5.out
end Go.Proofs.YtkkjodjachbifaaGreatDoor
