/-
  valid.locations: the map of all locations.
  THE LOCATIONS, as mathematics: names put one by one among others that rise; they are a map's keys, sorted.
  valid.locFault: too many locations.
-/
import Derived.Test.YtaelfjphgdlbcaaGreatDoorRdr
import Derived.Test.YtaelfjphgdlbcaaGreatDoorBxF
import Derived.Sort.KeysCollected
import Derived.Test.YtaelfjphgdlbcaaGreatDoorFrmA
namespace Go.Proofs.YtaelfjphgdlbcaaGreatDoor
open Go.RowKit Go.WideMaps Go.Maps
set_option linter.unusedVariables false
set_option linter.unusedSimpArgs false
open WordM (L)
open VM

/-- Block b is a map whose keys are the texts of S. -/
def CSet (w : World) (b : Nat) (S : List L) : Prop := ∃ (n : Nat) (f : L → Int) (D : MD), n ≤ S.length ∧ CMap w b n f D ∧ Maps.Tidy D ∧ ∀ s, Maps.has D (.string s) = true ↔ s ∈ S
theorem CSet.made (w : World) : CSet (w.alloc (.map #[] 0)) w.heap.size [] := ⟨0, _, _, Nat.le_refl _, CMap.made w, Maps.tidy_empty, fun s => by simp [Maps.has]⟩
theorem CSet.below {w w' : World} {b : Nat} {S : List L} (h : CSet w b S) (hb : Below w.heap.size w w') : CSet w' b S := by
  obtain ⟨n, f, D, h1, h2, h3⟩ := h
  exact ⟨n, f, D, h1, h2.below hb, h3⟩
theorem CSet.lt {w : World} {b : Nat} {S : List L} (h : CSet w b S) : b < w.heap.size := by
  obtain ⟨n, f, D, h1, h2, h3⟩ := h
  exact h2.lt
theorem CSet.put {w1 : World} {b n : Nat} {f : L → Int} {D : MD} {S : List L} {s : L} {x : Int} {w : World} (h : CMap w b n f D) (hn : n ≤ S.length) (ht : Maps.Tidy D) (hh : ∀ s, Maps.has D (.string s) = true ↔ s ∈ S)
    (hown : w1.ownsMap Tryz.prog 9 (plainElem Tryz.prog 3) b (n + 1) (D.put (.string s) (.lit (.int .i64 x)))) : CSet w1 b (S ++ [s]) := by
  refine ⟨n + 1, _, _, by simp; omega, h.put hown, ht.put (k := .string s) (by trivial) _, fun t => ?_⟩
  by_cases e : t = s
  · subst e
    rw [Maps.has_put_same ht.isMap (by trivial)]; simp
  · rw [Maps.has_put_other (fun c => e (by injection c)), hh t]; simp [e]
theorem FlBox.grown {w w' : World} {g x : Nat} {nm : ByteArray} {vi vt vc : Value} {al : Bool} (h : FlBox w g nm vi vt vc al) (hg : w.grownBy w' (some x)) (hne : x ≠ g) : FlBox w' g nm vi vt vc al := by
  obtain ⟨h0, h1, h2, h3, h4⟩ := h
  exact ⟨cell_grown hg hne h0, cell_grown hg hne h1, cell_grown hg hne h2, cell_grown hg hne h3, cell_grown hg hne h4⟩
/-- What the three loops keep: the program's box, the map, all below. -/
def LcI (F : Fl) (vi vt vc : Value) (w : World) (S : List L) (wr : World) : Prop :=
  CSet wr (w.heap.size + 1) S ∧ Below w.heap.size w wr ∧ FlBox wr w.heap.size ⟨F.name.toArray⟩ vi vt vc F.all
theorem LcI.below {F : Fl} {vi vt vc : Value} {w wr w' : World} {S : List L} (h : LcI F vi vt vc w S wr) (hb : Below wr.heap.size wr w') : LcI F vi vt vc w S w' :=
  ⟨h.1.below hb, chain h.2.1 hb, h.2.2.below hb⟩
def L1Rel (F : Fl) (vi vt vc : Value) (w : World) (i : Value) (wr : World) : Prop :=
  ∃ k : Nat, k ≤ F.init.length ∧ i = .int .i64 k ∧ LcI F vi vt vc w ((F.init.take k).map (·.1)) wr
def L2Rel (F : Fl) (vi vt vc : Value) (w : World) (i : Value) (wr : World) : Prop :=
  ∃ k : Nat, k ≤ F.ths.length ∧ i = .int .i64 k ∧ LcI F vi vt vc w (F.init.map (·.1) ++ tnames (F.ths.take k)) wr
def L3Rel (F : Fl) (ls : List OpsM.Ln) (S : List L) (vi vt vc : Value) (w : World) (i : Value) (wr : World) : Prop :=
  ∃ k : Nat, k ≤ ls.length ∧ i = .int .i64 k ∧ LcI F vi vt vc w (S ++ lnames (ls.take k)) wr
def L4Rel (F : Fl) (vi vt vc : Value) (w : World) (i : Value) (wr : World) : Prop :=
  ∃ k : Nat, k ≤ F.cond.length ∧ i = .int .i64 k ∧ LcI F vi vt vc w (F.init.map (·.1) ++ (tnames F.ths ++ anames (F.cond.take k))) wr
theorem FlOk.tn {F : Fl} (ok : FlOk F) : (tnames F.ths).length ≤ 10000000000 := by
  have h1 := tnames_le (M := 100000) F.ths (fun ls h => (ok.ths ls h).1)
  have := ok.nums.2.1
  omega
set_option maxHeartbeats 4000000 in
set_option maxRecDepth 100000 in
theorem locations_any {B : Nat} {v : Value} {F : Fl} (w : World) (hv : FlV B w v F) (hBB : B ≤ w.heap.size) (ok : FlOk F) :
    Calls Tryz.prog 35 #[v] w fun e w' => e = .returned (.map (some (w.heap.size + 1))) ∧ CSet w' (w.heap.size + 1) (names F) ∧ Below w.heap.size w w' := by
  obtain ⟨vi, vt, vc, rfl, hm⟩ := hv
  unfold flv
  have hmm := @run_makeMap Tryz.prog
  obtain ⟨hmi, hmt, hmc⟩ := hm
  obtain ⟨A0, c0, rfl, hi1, hi2, hi3⟩ := hmi
  obtain ⟨A2, c2, rfl, hb1, hb2, hb3⟩ := hmt
  obtain ⟨A1, c1, rfl, ha1, ha2, ha3⟩ := hmc
  have hn := ok.nums
  have HOK := Lib.hid ok
  have hbx := FlBox.at (w := w) rfl ⟨F.name.toArray⟩ (.slice A0 F.init.length c0) (.slice A2 F.ths.length c2) (.slice A1 F.cond.length c1) F.all 39
  have hI0 := Lib.hid (show LcI F (.slice A0 F.init.length c0) (.slice A2 F.ths.length c2) (.slice A1 F.cond.length c1) w [] ((w.alloc (.cells #[.string ⟨F.name.toArray⟩, .slice A0 F.init.length c0, .slice A2 F.ths.length c2, .bool F.all, .slice A1 F.cond.length c1] 39)).alloc (.map #[] 0)) from
    ⟨by have := CSet.made (w.alloc (.cells #[.string ⟨F.name.toArray⟩, .slice A0 F.init.length c0, .slice A2 F.ths.length c2, .bool F.all, .slice A1 F.cond.length c1] 39)); simpa using this,
     below_al (below_al (Below.refl w.heap.size w) _) _, hbx.below (below_al (Below.refl _ _) _)⟩)
  clear ok hbx
  unfold maxLen at hb2 ha2 hi2
  go_enter Tryz.func35, Tryz.ntmps35
  go_wp2
  go_loopw [16] (fun i wr => L1Rel F (.slice A0 F.init.length c0) (.slice A2 F.ths.length c2) (.slice A1 F.cond.length c1) w i wr) (fun i _ => F.init.length - (intOf i).toNat)
  case atStart => exact ⟨0, Nat.zero_le _, rfl, hI0.out⟩
  case round =>
    obtain ⟨k, hk, rfl, hI⟩ := hrel
    by_cases hlt : k < F.init.length
    · obtain ⟨b1, f1, rfl, hb1, hcl⟩ := hi3 (by omega)
      obtain ⟨d0, d1⟩ := (hcl k hlt).below (hI.2.1.mono hBB) hb1
      have HT := Lib.hid (inames_take F.init k hlt)
      have hxs := HOK.out.init F.init[k] (List.getElem_mem _)
      obtain ⟨x, hx⟩ : ∃ x, x = F.init[k] := ⟨_, rfl⟩
      rw [← hx] at d0 d1 hxs
      replace HT := Lib.hid (show (F.init.take (k + 1)).map (·.1) = (F.init.take k).map (·.1) ++ [x.1] by rw [HT.out, hx])
      have hkey := keyOf_string_mk (s := ⟨x.1.toArray⟩) Tryz.underlying9 (by rw [Lib.size_eq]; unfold maxLen; simpa using (by omega : x.1.length ≤ 9223372036854775807))
      obtain ⟨hC, hB, hbx⟩ := hI.below (below_al (Below.refl _ _) (.cells #[.string ⟨x.1.toArray⟩, .int .i64 x.2] 66))
      obtain ⟨n, f, D, hnS, hcm, htd, hhas⟩ := hC
      have hnk : n < maxLen := by have : ((F.init.take k).map (·.1)).length ≤ 100000 := by simp; omega
                                  show n < 9223372036854775807; omega
      have HH := Lib.hid (And.intro htd hhas)
      obtain ⟨c, hrun, hat, _⟩ := hcm.1.lookup_int strKey Tryz.underlying80 Tryz.underlying3 (zeroInt _) hkey
      clear hx hcl hi3 hat htd hhas hmm
      go_wp2_with (first | (at_mapUpdate; refine wpList_mapUpdate_own _ rfl _ _ _ 80 rfl 9 3 strKey Tryz.underlying80 _ (w.heap.size + 1) n _ rfl hcm.1 hnk _ _ _ rfl rfl hkey _ [] (plainElem_int Tryz.underlying3 (wrap64_wf _)) ?_; intro w2 hown2 hg2))
      have hC2 := CSet.put hcm hnS HH.out.1 HH.out.2 hown2
      have hB2 := hB.grown hg2 hB.size (fun j hj => by obtain rfl := Option.some.inj hj; omega)
      have hbx2 := hbx.grown hg2 (by omega)
      refine ⟨⟨k + 1, by omega, by go_num, HT.out ▸ hC2, hB2, hbx2⟩, by simp [intOf]; omega⟩
    · obtain rfl : F.init.length = k := by omega
      rw [List.take_length] at hI
      clear hi3 hI0
      obtain ⟨t0, t1, t2, t3, t4⟩ := hI.2.2
      have HI := Lib.hid hI
      clear hI
      go_wp2
      go_loopw [29] (fun i wr => L2Rel F (.slice A0 F.init.length c0) (.slice A2 F.ths.length c2) (.slice A1 F.cond.length c1) w i wr) (fun i _ => F.ths.length - (intOf i).toNat)
      case atStart => exact ⟨0, Nat.zero_le _, rfl, by simpa [tnames] using HI.out⟩
      case round =>
        obtain ⟨k, hk, rfl, hI⟩ := hrel
        clear HI t0 t1 t2 t3 t4
        by_cases hlt : k < F.ths.length
        · obtain ⟨b1, f1, rfl, hb1, hcl⟩ := hb3 (by omega)
          obtain ⟨vl, d0w, hLn⟩ := hcl k hlt
          have d0 := ((hI.2.1.mono hBB).cell (p := ⟨b1, f1 + k, none⟩) hb1).trans d0w
          have HT := Lib.hid (tnames_take F.ths k hlt)
          have HOk := HOK.out.ths F.ths[k] (List.getElem_mem _)
          have hTl := Lib.hid (show (tnames (F.ths.take k)).length ≤ 10000000000 by
            have := tnames_le (M := 100000) (F.ths.take k) (fun ls h => (HOK.out.ths ls (List.mem_of_mem_take h)).1)
            have h2 : (F.ths.take k).length ≤ 100000 := by rw [List.length_take]; omega
            omega)
          obtain ⟨ls, hx⟩ : ∃ x, x = F.ths[k] := ⟨_, rfl⟩
          rw [← hx] at hLn HOk
          replace HT := Lib.hid (show tnames (F.ths.take (k + 1)) = tnames (F.ths.take k) ++ lnames ls by rw [HT.out, hx])
          obtain ⟨A3, c3, rfl, he1, he2, he3⟩ := id hLn
          unfold maxLen at he2
          have hln := HOk.1
          have HS := Lib.hid HOk.2
          have HI1 := Lib.hid (hI.below (below_al (Below.refl _ _) (.cells #[.slice A3 ls.length c3] 45)))
          have HLn := Lib.hid hLn
          clear hx hcl hb3 HOk hLn hI he3 d0w
          obtain ⟨S, hS⟩ : ∃ S, S = F.init.map (·.1) ++ tnames (F.ths.take k) := ⟨_, rfl⟩
          have hSl := Lib.hid (show S.length ≤ 10000100000 by rw [hS]; have := hTl.out; simp; omega)
          rw [← hS] at HI1
          replace HT := Lib.hid (show F.init.map (·.1) ++ tnames (F.ths.take (k + 1)) = S ++ lnames ls by rw [HT.out, hS, List.append_assoc])
          clear hS hTl
          go_wp2
          go_loopw [36] (fun i wr => L3Rel F ls S (.slice A0 F.init.length c0) (.slice (some ⟨b1, f1, none⟩) F.ths.length c2) (.slice A1 F.cond.length c1) w i wr) (fun i _ => ls.length - (intOf i).toNat)
          case atStart => exact ⟨0, Nat.zero_le _, rfl, by simpa [lnames] using HI1.out⟩
          case round =>
            obtain ⟨m, hmk, rfl, hI⟩ := hrel
            by_cases hlm : m < ls.length
            · obtain ⟨A4, c4, e4, _, _, he3⟩ := HLn.out
              injection e4 with e4 _ e5
              subst e4; subst e5
              obtain ⟨b3, f3, rfl, hb3, hc3⟩ := he3 (by omega)
              obtain ⟨q0, q1, q2, q3, q4⟩ := (hc3 m hlm).below (hI.2.1.mono hBB) hb3
              have hxs := (HS.out ls[m] (List.getElem_mem _)).2.1
              have HT3 := Lib.hid (lnames_take ls m hlm)
              obtain ⟨x, hx⟩ : ∃ x, x = ls[m] := ⟨_, rfl⟩
              rw [← hx] at q0 q1 q2 q3 q4 hxs
              replace HT3 := Lib.hid (hx.symm ▸ HT3.out)
              have hI5 := hI.below (below_al (Below.refl _ _) (.cells #[.int .i64 x.op, .string ⟨x.reg.toArray⟩, .string ⟨x.loc.toArray⟩, .string ⟨x.label.toArray⟩, .int .i64 x.n] 42))
              clear hx hc3 he3 hI
              by_cases hemp : x.loc = []
              · have q : (x.loc == ([] : L)) = true := by rw [hemp]; rfl
                replace HT3 := Lib.hid (show lnames (ls.take (m + 1)) = lnames (ls.take m) by rw [HT3.out, if_pos hemp, List.append_nil])
                have HI5 := Lib.hid hI5
                clear hI5 hemp
                go_wp2
                refine ⟨⟨m + 1, by omega, by go_num, HT3.out.symm ▸ HI5.out⟩, by simp [intOf]; omega⟩
              · have q : (x.loc == ([] : L)) = false := by simpa using hemp
                replace HT3 := Lib.hid (show S ++ lnames (ls.take (m + 1)) = (S ++ lnames (ls.take m)) ++ [x.loc] by rw [HT3.out, if_neg hemp, List.append_assoc])
                obtain ⟨hC, hB, hbx⟩ := hI5
                obtain ⟨n, f, D, hnS, hcm, htd, hhas⟩ := hC
                have hnk : n < maxLen := by
                  have h1 := lnames_le (ls.take m)
                  have h2 := hSl.out
                  rw [List.length_append] at hnS
                  rw [List.length_take] at h1
                  show n < 9223372036854775807; omega
                have HH := Lib.hid (And.intro htd hhas)
                have hkey := keyOf_string_mk (s := ⟨x.loc.toArray⟩) Tryz.underlying9 (by rw [Lib.size_eq]; unfold maxLen; simpa using (by omega : x.loc.length ≤ 9223372036854775807))
                obtain ⟨c, hrun, hat, _⟩ := hcm.1.lookup_int strKey Tryz.underlying80 Tryz.underlying3 (zeroInt _) hkey
                clear hat htd hhas hmm hemp
                go_wp2_with (first | (at_mapUpdate; refine wpList_mapUpdate_own _ rfl _ _ _ 80 rfl 9 3 strKey Tryz.underlying80 _ (w.heap.size + 1) n _ rfl hcm.1 hnk _ _ _ rfl rfl hkey _ [] (plainElem_int Tryz.underlying3 (wrap64_wf _)) ?_; intro w2 hown2 hg2))
                have hC2 := CSet.put hcm hnS HH.out.1 HH.out.2 hown2
                have hB2 := hB.grown hg2 hB.size (fun j hj => by obtain rfl := Option.some.inj hj; omega)
                have hbx2 := hbx.grown hg2 (by omega)
                refine ⟨⟨m + 1, by omega, by go_num, HT3.out ▸ hC2, hB2, hbx2⟩, by simp [intOf]; omega⟩
            · obtain rfl : ls.length = m := by omega
              rw [List.take_length] at hI
              have HI5 := Lib.hid hI
              clear hI
              go_wp2
              refine ⟨⟨k + 1, by omega, by go_num, HT.out ▸ HI5.out⟩, by simp [intOf]; omega⟩
        · obtain rfl : F.ths.length = k := by omega
          rw [List.take_length] at hI
          clear hb3 
          obtain ⟨t0, t1, t2, t3, t4⟩ := hI.2.2
          have HI := Lib.hid hI
          clear hI
          go_wp2
          go_loopw [53] (fun i wr => L4Rel F (.slice A0 F.init.length c0) (.slice A2 F.ths.length c2) (.slice A1 F.cond.length c1) w i wr) (fun i _ => F.cond.length - (intOf i).toNat)
          case atStart => exact ⟨0, Nat.zero_le _, rfl, by simpa [anames] using HI.out⟩
          case round =>
            obtain ⟨k, hk, rfl, hI⟩ := hrel
            clear HI t0 t1 t2 t3 t4
            by_cases hlt : k < F.cond.length
            · obtain ⟨b1, f1, rfl, hb1, hcl⟩ := ha3 (by omega)
              obtain ⟨d0, d1, d2⟩ := (hcl k hlt).below (hI.2.1.mono hBB) hb1
              have HT := Lib.hid (anames_take F.cond k hlt)
              have hxs := (HOK.out.cond F.cond[k] (List.getElem_mem _)).1
              have hTl := Lib.hid HOK.out.tn
              obtain ⟨x, hx⟩ : ∃ x, x = F.cond[k] := ⟨_, rfl⟩
              rw [← hx] at d0 d1 d2 hxs
              replace HT := Lib.hid (hx.symm ▸ HT.out)
              have hI5 := hI.below (below_al (Below.refl _ _) (.cells #[.int .i64 x.t, .string ⟨x.nm.toArray⟩, .int .i64 x.n] 68))
              clear hx hcl ha3 hI
              by_cases ht : x.t = -1
              · have q : (x.t == (-1 : Int)) = true := by rw [ht]; rfl
                replace HT := Lib.hid (show F.init.map (·.1) ++ (tnames F.ths ++ anames (F.cond.take (k + 1))) = (F.init.map (·.1) ++ (tnames F.ths ++ anames (F.cond.take k))) ++ [x.nm] by rw [HT.out, if_pos ht]; simp only [List.append_assoc])
                obtain ⟨hC, hB, hbx⟩ := hI5
                obtain ⟨n, f, D, hnS, hcm, htd, hhas⟩ := hC
                have hnk : n < maxLen := by
                  have h1 := anames_le (F.cond.take k)
                  have h2 := hTl.out
                  rw [List.length_append, List.length_append, List.length_map] at hnS
                  rw [List.length_take] at h1
                  show n < 9223372036854775807; omega
                have HH := Lib.hid (And.intro htd hhas)
                have hkey := keyOf_string_mk (s := ⟨x.nm.toArray⟩) Tryz.underlying9 (by rw [Lib.size_eq]; unfold maxLen; simpa using (by omega : x.nm.length ≤ 9223372036854775807))
                obtain ⟨c, hrun, hat, _⟩ := hcm.1.lookup_int strKey Tryz.underlying80 Tryz.underlying3 (zeroInt _) hkey
                clear hat htd hhas hmm ht
                go_wp2_with (first | (at_mapUpdate; refine wpList_mapUpdate_own _ rfl _ _ _ 80 rfl 9 3 strKey Tryz.underlying80 _ (w.heap.size + 1) n _ rfl hcm.1 hnk _ _ _ rfl rfl hkey _ [] (plainElem_int Tryz.underlying3 (wrap64_wf _)) ?_; intro w2 hown2 hg2))
                have hC2 := CSet.put hcm hnS HH.out.1 HH.out.2 hown2
                have hB2 := hB.grown hg2 hB.size (fun j hj => by obtain rfl := Option.some.inj hj; omega)
                have hbx2 := hbx.grown hg2 (by omega)
                refine ⟨⟨k + 1, by omega, by go_num, HT.out ▸ hC2, hB2, hbx2⟩, by simp [intOf]; omega⟩
              · have q : (x.t == (-1 : Int)) = false := by simpa using ht
                replace HT := Lib.hid (show anames (F.cond.take (k + 1)) = anames (F.cond.take k) by rw [HT.out, if_neg ht, List.append_nil])
                have HI5 := Lib.hid hI5
                clear hI5 ht
                go_wp2
                refine ⟨⟨k + 1, by omega, by go_num, HT.out.symm ▸ HI5.out⟩, by simp [intOf]; omega⟩
            · obtain rfl : F.cond.length = k := by omega
              rw [List.take_length] at hI
              have HI5 := Lib.hid hI
              clear hI ha3
              go_wp2
              go_ret
              exact ⟨rfl, HI5.out.1, HI5.out.2.1⟩
end Go.Proofs.YtaelfjphgdlbcaaGreatDoor
namespace Go.Proofs.YtaelfjphgdlbcaaGreatDoor
open Go.RowKit Go.WideMaps Go.Maps
set_option linter.unusedVariables false
open WordM (L)
open VM

theorem ins_mem (s : L) : ∀ (l : List L) (x : L), x ∈ ins s l ↔ x = s ∨ x ∈ l
  | [], x => by simp [ins]
  | y :: r, x => by
    unfold ins
    by_cases h : s ≤ y
    · rw [if_pos h]
      by_cases e : s = y
      · rw [if_pos e]; subst e; simp
      · rw [if_neg e]; simp
    · rw [if_neg h]
      simp only [List.mem_cons, ins_mem s r x]
      constructor
      · rintro (a | a | a) <;> simp [a]
      · rintro (a | a | a) <;> simp [a]
theorem lt_of_not_le {a b : L} (h : ¬ a ≤ b) : b < a := List.not_le.1 h
theorem lt_of_le_ne {a b : L} (h : a ≤ b) (e : a ≠ b) : a < b := Decidable.byContradiction fun c => e (List.le_antisymm h (List.not_lt.1 c))
theorem ins_sorted (s : L) : ∀ (l : List L), l.Pairwise (· < ·) → (ins s l).Pairwise (· < ·)
  | [], _ => by simp [ins]
  | y :: r, hp => by
    obtain ⟨h1, h2⟩ := List.pairwise_cons.1 hp
    unfold ins
    by_cases h : s ≤ y
    · rw [if_pos h]
      by_cases e : s = y
      · rw [if_pos e]; exact hp
      · rw [if_neg e]
        have hs := lt_of_le_ne h e
        refine List.pairwise_cons.2 ⟨fun x hx => ?_, hp⟩
        rcases List.mem_cons.1 hx with rfl | hx
        · exact hs
        · exact List.lt_trans hs (h1 x hx)
    · rw [if_neg h]
      refine List.pairwise_cons.2 ⟨fun x hx => ?_, ins_sorted s r h2⟩
      rcases (ins_mem s r x).1 hx with rfl | hx
      · exact lt_of_not_le h
      · exact h1 x hx
theorem fold_mem : ∀ (ns acc : List L) (x : L), x ∈ ns.foldl put acc ↔ x ∈ acc ∨ (x ≠ [] ∧ x ∈ ns)
  | [], acc, x => by simp
  | s :: r, acc, x => by
    rw [List.foldl_cons, fold_mem r (put acc s) x]
    unfold put
    by_cases e : s = []
    · rw [if_pos e]; subst e
      constructor
      · rintro (a | ⟨a, b⟩)
        · exact .inl a
        · exact .inr ⟨a, by simp [b]⟩
      · rintro (a | ⟨a, b⟩)
        · exact .inl a
        · exact .inr ⟨a, by simpa [a] using b⟩
    · rw [if_neg e, ins_mem]
      constructor
      · rintro ((a | a) | ⟨a, b⟩)
        · subst a; exact .inr ⟨e, by simp⟩
        · exact .inl a
        · exact .inr ⟨a, by simp [b]⟩
      · rintro (a | ⟨a, b⟩)
        · exact .inl (.inr a)
        · rcases List.mem_cons.1 b with c | c
          · exact .inl (.inl c)
          · exact .inr ⟨a, c⟩
theorem fold_sorted : ∀ (ns acc : List L), acc.Pairwise (· < ·) → (ns.foldl put acc).Pairwise (· < ·)
  | [], acc, h => h
  | s :: r, acc, h => by
    rw [List.foldl_cons]
    refine fold_sorted r _ ?_
    unfold put
    by_cases e : s = []
    · rw [if_pos e]; exact h
    · rw [if_neg e]; exact ins_sorted s acc h
theorem locs_sorted (F : Fl) : (locs F).Pairwise (· < ·) := fold_sorted _ _ List.Pairwise.nil
theorem locs_mem (F : Fl) (x : L) : x ∈ locs F ↔ x ≠ [] ∧ x ∈ names F := by
  unfold locs; rw [fold_mem]; simp
theorem locs_nodup (F : Fl) : (locs F).Nodup := (locs_sorted F).imp fun {a b} h e => by subst e; exact List.lt_irrefl _ h
/-- A program's own locations have names, once its head, lines and atoms are right. -/
def NamesOk (F : Fl) : Prop := ∀ x ∈ names F, x ≠ []
theorem locs_mem' {F : Fl} (h : NamesOk F) (x : L) : x ∈ locs F ↔ x ∈ names F := by
  rw [locs_mem]; exact ⟨fun a => a.2, fun a => ⟨h x a, a⟩⟩
theorem cset_perm {w : World} {b n : Nat} {f : L → Int} {D : MD} {S ss : List L} (h : CMap w b n f D) (htd : Maps.Tidy D) (hh : ∀ s, Maps.has D (.string s) = true ↔ s ∈ S) (hnd : ss.Nodup) (hm : ∀ x, x ∈ ss ↔ x ∈ S) : ss.Perm (strKeys D) := by
  obtain ⟨es, rfl, hp⟩ := htd
  obtain ⟨es', hD, hko⟩ := h.1.keysOf
  obtain rfl : es = es' := by simpa using hD
  exact perm_strKeys hp (fun p hp' => by obtain ⟨v, hv⟩ := hko p hp'; obtain ⟨x, _, hx, _⟩ := Maps.keyOf_str Tryz.underlying9 hv; exact ⟨x, hx⟩) hnd (fun x => (hm x).trans (hh x).symm)
theorem size_keys {D : MD} (htd : Maps.Tidy D) : (strKeys D).length = Maps.size D := by
  obtain ⟨es, rfl, _⟩ := htd
  exact List.length_map _
theorem cset_size {F : Fl} {w : World} {b n : Nat} {f : L → Int} {D : MD} (hn : NamesOk F) (h : CMap w b n f D) (htd : Maps.Tidy D) (hh : ∀ s, Maps.has D (.string s) = true ↔ s ∈ names F) : Maps.size D = (locs F).length := by
  rw [← size_keys htd, (cset_perm h htd hh (locs_nodup F) (locs_mem' hn)).length_eq]
theorem sort_locs {F : Fl} {ss : List L} (h : ss.Perm (locs F)) : ss.mergeSort (fun x y => decide (x ≤ y)) = locs F := by
  rw [show ss.mergeSort (fun x y => decide (x ≤ y)) = (locs F).mergeSort (fun x y => decide (x ≤ y)) from mergeSort_of_perm h]
  exact List.mergeSort_of_pairwise ((locs_sorted F).imp fun {a b} h => decide_eq_true (List.le_of_lt h))
end Go.Proofs.YtaelfjphgdlbcaaGreatDoor
namespace Go.Proofs.YtaelfjphgdlbcaaGreatDoor
open Go.RowKit Go.WideMaps Go.Maps
set_option linter.unusedVariables false
set_option linter.unusedSimpArgs false
open WordM (L)
open VM

theorem heap_alloc (w : World) (o : Obj) : (w.alloc o).heap.size = w.heap.size + 1 := by simp
set_option maxHeartbeats 4000000 in
set_option maxRecDepth 100000 in
theorem locf_any {B : Nat} {v : Value} {F : Fl} (w : World) (hv : FlV B w v F) (hBB : B ≤ w.heap.size) (ok : FlOk F) (hno : NamesOk F) :
    Calls Tryz.prog 51 #[v] w fun e w' => e = .returned (fltv (-1) (-1) (locC F)) ∧ Below w.heap.size w w' := by
  obtain ⟨vi, vt, vc, rfl, hm⟩ := hv
  have HL := Lib.hid (locations_any (v := flv ⟨F.name.toArray⟩ vi vt vc F.all) (w.alloc (.cells #[.string ⟨F.name.toArray⟩, vi, vt, .bool F.all, vc] 39)) ⟨vi, vt, vc, rfl, hm.below (below_al (Below.refl w.heap.size w) _ |>.mono hBB)⟩ (Nat.le_trans hBB (by simp)) ok)
  obtain ⟨⟨A0, c0, rfl, _⟩, ⟨A2, c2, rfl, _⟩, ⟨A1, c1, rfl, _⟩⟩ := hm
  unfold flv at *
  go_enter Tryz.func51, Tryz.ntmps51
  go_wp2_with fail
  refine HL.out.mono ?_
  rintro e w1 ⟨rfl, ⟨n, f, D, hn, hcm, htd, hh⟩, hb⟩
  have hsz := cset_size hno hcm htd hh
  have hlen := hcm.1.len Tryz.underlying80 3
  have hB := box_below hb
  rw [hsz, heap_alloc] at hlen
  clear HL hh htd hcm hsz hn hb
  by_cases h4 : 4 < (locs F).length
  · have q : decide ((4 : Int) < ((locs F).length : Int)) = true := decide_eq_true (by omega)
    have E := Lib.hid (show fltv (-1) (-1) (locC F) = .iface 92 (.agg #[.int .i64 (-1), .int .i64 (-1), .iface 32 (.int .i64 5)]) by unfold locC; rw [if_pos h4]; rfl)
    go_wp2
    go_ret
    exact ⟨congrArg Ending.returned E.out.symm, hB⟩
  · have q : decide ((4 : Int) < ((locs F).length : Int)) = false := decide_eq_false (by omega)
    have E := Lib.hid (show fltv (-1) (-1) (locC F) = .nilIface by unfold locC; rw [if_neg h4]; rfl)
    go_wp2
    go_ret
    exact ⟨congrArg Ending.returned E.out.symm, hB⟩
end Go.Proofs.YtaelfjphgdlbcaaGreatDoor
