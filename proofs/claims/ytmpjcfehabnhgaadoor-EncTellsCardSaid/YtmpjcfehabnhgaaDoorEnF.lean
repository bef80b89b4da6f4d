/-
  THE DOCUMENT's Of of layer 12: the state whose numbers these are.
-/
import Derived.Test.YtmpjcfehabnhgaaDoorEnG
import Derived.Test.YtmpjcfehabnhgaaDoorK10
import Derived.Test.YtmpjcfehabnhgaaDoorEnD
import Derived.Deep.DeepCutAuto
namespace Go.Proofs.YtmpjcfehabnhgaaDoor
open Go.RowKit
set_option linter.unusedVariables false
set_option linter.unusedSimpArgs false
open BfM (Wr)
open ScM
open EnM

/-- What stays while threads are read: the boxes, the row of locations, the threads so far. -/
structure OfK (gr gs : Nat) (w0 : World) (vm vt : Value) (m : List Int) (xs : List Th) (W : World) : Prop where
  bs : BoxC W gs 25 #[vm, vt]
  br : BoxC W gr 25 #[.slice none 0 0, .slice none 0 0]
  om : OwnI w0.heap.size W vm m
  ot : ThO w0.heap.size W vt xs
  bl : Below w0.heap.size w0 W
theorem ThO.kpg {g base : Nat} {W W' : World} {T2 : TypeId} {cs : Array Value} {v : Value} {xs : List Th} (h : ThO base W v xs) (hb : BoxC W g T2 cs) (h1 : (44 : TypeId) ≠ T2) (h2 : (3 : TypeId) ≠ T2) (h3 : (41 : TypeId) ≠ T2) (hk : KpG W.heap.size g W W') : ThO base W' v xs := by
  obtain ⟨ps, e1, e2, e3⟩ := h
  exact ⟨ps, own_kp e1 hb h1 hk, e2, fun p hp => ⟨own_kp (e3 p hp).1 hb h2 hk, own_kp (e3 p hp).2 hb h3 hk⟩⟩
section
variable {gr gs : Nat} {w0 : World} {vm vt : Value} {m : List Int} {xs : List Th} {W W' : World}
theorem OfK.below (h : OfK gr gs w0 vm vt m xs W) (hb : Below W.heap.size W W') : OfK gr gs w0 vm vt m xs W' :=
  ⟨h.bs.below hb h.bs.lt, h.br.below hb h.br.lt, own_below h.om hb, h.ot.below hb, h.bl.trans (hb.mono h.bl.size)⟩
theorem OfK.kp {g : Nat} {l : List Int} {st : Option (List Int)} (h : OfK gr gs w0 vm vt m xs W) (hR : TkD w0.heap.size g l W st) (h1 : gs ≠ g) (h2 : gr ≠ g) (hk : KpG W.heap.size g W W') : OfK gr gs w0 vm vt m xs W' := by
  refine ⟨h.bs.kp hk h1, h.br.kp hk h2, hR.keep h.om (by decide) hk, ?_, h.bl.trans (hk.below hR.1 h.bl.size)⟩
  obtain ⟨_, vl, p, is, hb, _⟩ := hR
  exact h.ot.kpg hb (by decide) (by decide) (by decide) hk
end
/-- Where the loop over threads stands. -/
def OtRel (gr gs g : Nat) (l : List Int) (n : Int) (l0 : List Int) (ok : Bool) (vm : Value) (m : List Int) (w : World) (i : Value) (wr : World) : Prop :=
  ∃ (k : Nat) (xs : List Th) (vt : Value) (st' : Option (List Int)), k ≤ n.toNat ∧ i = .int .i64 k ∧ xs.length = k ∧ OfK gr gs w vm vt m xs wr ∧ TkD w.heap.size g l wr st' ∧ (ok = true → Tk (tkMany tkTh k) (some l0) xs st') ∧ (ok = false → st' = none)
/-- Where the loop over writes stands. -/
def OwRel (gx g : Nat) (l : List Int) (n : Int) (l0 : List Int) (ok : Bool) (a : Int) (vr : Value) (rg : List Int) (q : Bool) (B : Nat) (w : World) (i : Value) (wr : World) : Prop :=
  ∃ (k : Nat) (ws : List Wr) (vb : Value) (st' : Option (List Int)), k ≤ n.toNat ∧ i = .int .i64 k ∧ ws.length = k ∧ BoxC wr gx 44 #[.int .i64 a, vr, .bool q, vb] ∧ OwnI w.heap.size wr vr rg ∧ OwnW w.heap.size wr vb ws ∧ KpG w.heap.size g w wr ∧ TkD B g l wr st' ∧ (ok = true → Tk (tkMany tkW k) (some l0) ws st') ∧ (ok = false → st' = none)
theorem TkD.cells {B g : Nat} {l : List Int} {W : World} {st : Option (List Int)} (h : TkD B g l W st) : ∃ is, W.cell? ⟨g, 2, none⟩ = some (.bool is) ∧ W.frozen? ⟨g, 2, none⟩ = false ∧ (is = true ↔ st ≠ none) ∧ (is = false ↔ st = none) := by
  obtain ⟨h0, vl, p, is, h1, h2, h3, h4⟩ := h
  refine ⟨is, h1.cell 2 _ rfl, h1.frozen 2, ?_, ?_⟩
  · rcases h4 with ⟨rfl, rfl⟩ | ⟨rfl, rfl⟩ <;> simp
  · rcases h4 with ⟨rfl, rfl⟩ | ⟨rfl, rfl⟩ <;> simp
theorem TkD.left {B g : Nat} {l l1 : List Int} {W : World} (h : TkD B g l W (some l1)) : l1.length ≤ l.length := by
  obtain ⟨h0, vl, p, is, h1, h2, h3, h4⟩ := h
  rcases h4 with ⟨_, e⟩ | ⟨_, e⟩
  · injection e with e; rw [e, List.length_drop]; omega
  · cases e
/-- A row of another type stays behind a store into the taker. -/
theorem TkD.okn {B g : Nat} {l : List Int} {W : World} {st : Option (List Int)} {n : Int} {st0 : Option (List Int)} (h : TkD B g l W st) (ht : Tk tkC st0 n st) (hz : st = none → n = 0) : ∃ (l0 : List Int) (ok : Bool), st = (if ok then some l0 else none) ∧ 0 ≤ n ∧ n.toNat ≤ l0.length ∧ l0.length ≤ l.length ∧ (ok = false → n = 0) := by
  cases st with
  | none =>
    have := hz rfl
    subst this
    exact ⟨[], false, rfl, by omega, by simp, by simp, fun _ => rfl⟩
  | some l1 =>
    have h1 := EnM.Tk.cntN ht
    exact ⟨l1, true, rfl, h1.1, h1.2, h.left, fun e => by cases e⟩
set_option maxHeartbeats 8000000 in
set_option maxRecDepth 100000 in
theorem rof_any {v : Value} {l : List Int} (w : World) (hv : IntR w.heap.size w v l) (hl : l.length ≤ 100000000) :
    Calls Tryd.prog 12 #[v] w (OfRet (ofN l) w) := by
  obtain ⟨i0, hi, hz0, hz1, hz2⟩ := info_parts info_wr
  obtain ⟨i1, hi1, hy0, hy1, hy2⟩ := info_parts info_th
  have HV := Lib.hid hv
  obtain ⟨A, c, rfl, hla, hlb, -⟩ := hv
  unfold maxLen at hlb
  obtain ⟨Wa, hWa⟩ : ∃ W, W = w.alloc (.cells #[.slice none 0 0, .slice none 0 0] 25) := ⟨_, rfl⟩
  have hs1 : Wa.heap.size = w.heap.size + 1 := by rw [hWa]; simp
  have hBa : Below w.heap.size w Wa := by rw [hWa]; exact below_al (Below.refl _ _) _
  have hra : BoxC Wa w.heap.size 25 #[.slice none 0 0, .slice none 0 0] := by rw [hWa]; exact BoxC.new _ _ _
  obtain ⟨Wb, hWb⟩ : ∃ W, W = Wa.alloc (.cells #[.slice A l.length c, .int .i64 0, .bool true] 53) := ⟨_, rfl⟩
  have hs2 : Wb.heap.size = w.heap.size + 1 + 1 := by rw [hWb]; simp [hs1]
  have halb : Below Wa.heap.size Wa Wb := by rw [hWb]; exact below_al (Below.refl _ _) _
  have htb : BoxC Wb (w.heap.size + 1) 53 #[.slice A l.length c, .int .i64 0, .bool true] := by rw [hWb, ← hs1]; exact BoxC.new _ _ _
  obtain ⟨Wc, hWc⟩ : ∃ W, W = Wb.alloc (.cells #[.slice none 0 0, .slice none 0 0] 25) := ⟨_, rfl⟩
  have halc : Below Wb.heap.size Wb Wc := by rw [hWc]; exact below_al (Below.refl _ _) _
  have hsc : BoxC Wc (w.heap.size + 1 + 1) 25 #[.slice none 0 0, .slice none 0 0] := by rw [hWc, ← hs2]; exact BoxC.new _ _ _
  have hBc : Below w.heap.size w Wc := (hBa.trans (halb.mono hBa.size)).trans (halc.mono (by omega))
  have hTD : TkD w.heap.size (w.heap.size + 1) l Wc (some l) := ⟨by omega, _, 0, true, (htb.below halc htb.lt), HV.out.below hBc, Nat.zero_le _, .inl ⟨rfl, rfl⟩⟩
  have hrc := (hra.below halb hra.lt).below halc (by omega)
  have HWC := Lib.hid (show ((w.alloc (.cells #[.slice none 0 0, .slice none 0 0] 25)).alloc (.cells #[.slice A l.length c, .int .i64 0, .bool true] 53)).alloc (.cells #[.slice none 0 0, .slice none 0 0] 25) = Wc from by rw [hWc, hWb, hWa])
  have HN := Lib.hid (row_any Wc hTD (by omega))
  obtain ⟨gr, hgr⟩ : ∃ g, g = w.heap.size := ⟨_, rfl⟩
  obtain ⟨g, hg⟩ : ∃ g, g = w.heap.size + 1 := ⟨_, rfl⟩
  obtain ⟨gs, hgs⟩ : ∃ g, g = w.heap.size + 1 + 1 := ⟨_, rfl⟩
  have hlr : w.heap.size ≤ gr := by omega
  have hlg : w.heap.size ≤ g := by omega
  have hls : w.heap.size ≤ gs := by omega
  have n1 : gs ≠ g := by omega
  have n2 : gr ≠ g := by omega
  have n3 : gs ≠ gr := by omega
  have HGR := Lib.hid hgr
  have HGG := Lib.hid hg
  have HGS := Lib.hid hgs
  rw [← hgr] at hrc
  rw [← hg] at hTD HN
  rw [← hgs] at hsc
  have HTD := Lib.hid hTD
  have hz : Tryd.prog.cellsOf 25 = 2 := by kernel_rfl
  have hWcs := hBc.size
  clear hWa hWb hWc hs1 hs2 hBa hra halb htb halc hTD hgr hg hgs
  go_enter Tryd.func12, Tryd.ntmps12
  go_upto_region 3 with fail
  rw [HWC.out]
  simp only [← HGS.out]
  simp only [← HGG.out]
  simp only [← HGR.out]
  clear HWC
  go_wp2_with (go_at_call 25; refine HN.out.mono ?_)
  rintro e w2 ⟨vm, m, st1, rfl, hom, ht1, hr1, hk1⟩
  have hB2 : Below w.heap.size w w2 := hBc.trans (hk1.below hlg hWcs)
  have hs2 := hsc.kp hk1 n1
  have hr2 := hrc.kp hk1 n2
  have HOM := Lib.hid (show OwnI w.heap.size (w2.setCell ⟨gs, 0, none⟩ vm) vm m from own_box (own_base hom hWcs) hs2 (by decide) 0 _)
  obtain ⟨Am, cm, rfl⟩ := own_slice hom
  have HB3 := Lib.hid (hB2.setCell (p := ⟨gs, 0, none⟩) hls (.slice Am m.length cm))
  have HS3 := Lib.hid (show BoxC (w2.setCell ⟨gs, 0, none⟩ (.slice Am m.length cm)) gs 25 #[.slice Am m.length cm, .slice none 0 0] from hs2.set 0 _)
  have HR3 := Lib.hid (hr2.other (fun e => n3 e.symm) 0 (.slice Am m.length cm))
  have HT1 := Lib.hid ht1
  have hr3 := hr1.set (i := 0) (v := .slice Am m.length cm) hls (fun e => n1 e.symm)
  have HRD := Lib.hid hr3
  have HC := Lib.hid (cnt_any _ hr3)
  have y0 := hs2.cell 0 _ rfl
  have f0 := hs2.frozen 0
  clear hB2 hs2 hr2 hom ht1 hr1 hk1 hr3 hsc hrc hBc HN HTD hWcs
  go_wp2_with (go_at_call 26; refine HC.out.mono ?_)
  rintro e w4 ⟨n, st2, rfl, ht2, hz2, hr4, hk4⟩
  obtain ⟨l0, ok, hst, hn0, hnl, hl0, hokz⟩ := hr4.okn ht2 hz2
  have HOK := Lib.hid (show OfK gr gs w (.slice Am m.length cm) (.slice none 0 0) m [] w4 from
    OfK.kp (W := w2.setCell ⟨gs, 0, none⟩ (.slice Am m.length cm)) ⟨HS3.out, HR3.out, HOM.out, ThO.nil _ _, HB3.out⟩ HRD.out n1 n2 hk4)
  have HST := Lib.hid (show OtRel gr gs g l n l0 ok (.slice Am m.length cm) m w (.int .i64 0) w4 from
    ⟨0, [], _, st2, Nat.zero_le _, rfl, rfl, HOK.out, hr4, fun e => by rw [hst, e]; exact Tk.zero tkTh l0, fun e => by rw [hst, e]; rfl⟩)
  have HCN := Lib.hid (show (ok = true → Tk tkC st1 n (some l0)) ∧ (ok = false → Tk tkC st1 n none) from
    ⟨fun e => by rw [hst, e] at ht2; exact ht2, fun e => by rw [hst, e] at ht2; exact ht2⟩)
  have HOZ := Lib.hid hokz
  clear hst ht2 hz2 hr4 hk4 HC HRD HB3 HS3 HR3 HOM HOK y0 f0 hokz
  go_wp2
  go_loopw [7] (fun i wr => OtRel gr gs g l n l0 ok (.slice Am m.length cm) m w i wr) (fun i _ => n.toNat - (intOf i).toNat)
  case atStart => exact HST.out
  case round =>
    clear HST
    obtain ⟨k, xs, vt, st', hk, rfl, hxl, hof, hr, hF, hG⟩ := hrel
    obtain ⟨is, c2, f2, his, hisn⟩ := hr.cells
    have HXL := Lib.hid hxl
    clear hxl
    obtain ⟨Avt, cvt, rfl⟩ := hof.ot.slice
    have HFIN := Lib.hid (fun (h : st' = none ∨ k = n.toNat) => show Tk tkS (some l) ⟨m, xs⟩ st' from by
      have h1 : Tk (tkCnt tkTh) st1 xs st' := by
        cases ok with
        | true =>
          rcases h with h | h
          · subst h; exact EnM.Tk.cnt2 (HCN.out.1 rfl) ((hF rfl).over xs hk)
          · subst h; exact EnM.Tk.cnt2 (HCN.out.1 rfl) (hF rfl)
        | false => rw [hG rfl]; exact EnM.Tk.cnt0 xs (HCN.out.2 rfl)
      exact (Tk.two Sta.mk (HT1.out.congr rfl) h1).congr tkS_two)
    cases is with
    | false =>
      have hs' := hisn.1 rfl
      have HOF := Lib.hid (show ofN l = none from by
        rcases (HFIN.out (.inl hs')).ofN with ⟨h, _⟩ | ⟨_, h⟩
        · rw [hs'] at h; cases h
        · exact h)
      subst hs'
      by_cases hlt : (k : Int) < n
      · have d1 : decide ((k : Int) < n) = true := decide_eq_true hlt
        obtain ⟨W9, hW9⟩ : ∃ W, W = (wr.setCell ⟨gr, 0, none⟩ (.slice none 0 0)).setCell ⟨gr, 1, none⟩ (.slice none 0 0) := ⟨_, rfl⟩
        have HB9 := Lib.hid (show BoxC W9 gr 25 #[.slice none 0 0, .slice none 0 0] from by rw [hW9]; exact (hof.br.set 0 _).set 1 _)
        have HK9 := Lib.hid (show Below w.heap.size w W9 from by rw [hW9]; exact (hof.bl.setCell (p := ⟨gr, 0, none⟩) hlr _).setCell (p := ⟨gr, 1, none⟩) hlr _)
        have HW9 := Lib.hid hW9
        have z0 := hof.br.cell 0 _ rfl
        have z1 := hof.br.cell 1 _ rfl
        have g0 := hof.br.frozen 0
        have g1' := hof.br.frozen 1
        clear hW9 hof hr hF hG his hisn HFIN
        go_wp2_with fail
        rw [← HW9.out]
        clear z0 z1 g0 g1' c2 f2
        have r0 := HB9.out.cell 0 _ rfl
        have r1 := HB9.out.cell 1 _ rfl
        refine bodyPost_ret (v := .tuple #[.agg #[.slice none 0 0, .slice none 0 0], .bool false]) (by simp [results, Tryd.results12, go_sem, r0, r1, hz]) rfl ?_
        rw [HOF.out]
        exact ⟨_, rfl, reps_zero _ _, HK9.out⟩
      · have d1 : decide ((k : Int) < n) = false := decide_eq_false hlt
        obtain ⟨W9, hW9⟩ : ∃ W, W = (wr.setCell ⟨gr, 0, none⟩ (.slice none 0 0)).setCell ⟨gr, 1, none⟩ (.slice none 0 0) := ⟨_, rfl⟩
        have HB9 := Lib.hid (show BoxC W9 gr 25 #[.slice none 0 0, .slice none 0 0] from by rw [hW9]; exact (hof.br.set 0 _).set 1 _)
        have HK9 := Lib.hid (show Below w.heap.size w W9 from by rw [hW9]; exact (hof.bl.setCell (p := ⟨gr, 0, none⟩) hlr _).setCell (p := ⟨gr, 1, none⟩) hlr _)
        have HW9 := Lib.hid hW9
        have z0 := hof.br.cell 0 _ rfl
        have z1 := hof.br.cell 1 _ rfl
        have g0 := hof.br.frozen 0
        have g1' := hof.br.frozen 1
        clear hW9 hof hr hF hG his hisn HFIN
        go_wp2_with fail
        rw [← HW9.out]
        clear z0 z1 g0 g1' c2 f2
        have r0 := HB9.out.cell 0 _ rfl
        have r1 := HB9.out.cell 1 _ rfl
        refine bodyPost_ret (v := .tuple #[.agg #[.slice none 0 0, .slice none 0 0], .bool false]) (by simp [results, Tryd.results12, go_sem, r0, r1, hz]) rfl ?_
        rw [HOF.out]
        exact ⟨_, rfl, reps_zero _ _, HK9.out⟩
    | true =>
    by_cases hlt : (k : Int) < n
    · have d1 : decide ((k : Int) < n) = true := decide_eq_true hlt
      obtain ⟨r, hr0⟩ : ∃ r, st' = some r := by
        cases st' with
        | none => exact absurd rfl (his.1 rfl)
        | some r => exact ⟨r, rfl⟩
      subst hr0
      obtain rfl : ok = true := by
        cases ok with
        | false => have := hG rfl; cases this
        | true => rfl
      have HFK := Lib.hid (hF rfl)
      have hrl := hr.left
      have hnl1 : n.toNat ≤ 100000000 := by omega
      have hal := below_al (Below.refl wr.heap.size wr) (.cells #[.int .i64 0, .slice none 0 0, .bool false, .slice none 0 0] 44)
      obtain ⟨W8, hW8⟩ : ∃ W, W = wr.alloc (.cells #[.int .i64 0, .slice none 0 0, .bool false, .slice none 0 0] 44) := ⟨_, rfl⟩
      obtain ⟨gx, hgx⟩ : ∃ g, g = wr.heap.size := ⟨_, rfl⟩
      have hx8 : BoxC W8 gx 44 #[.int .i64 0, .slice none 0 0, .bool false, .slice none 0 0] := by rw [hW8, hgx]; exact BoxC.new wr _ _
      rw [← hW8] at hal
      have hr8 := hr.below hal
      have hk8 : KpG wr.heap.size g wr W8 := KpG.of hal
      have hlx : wr.heap.size ≤ gx := by omega
      have hwr := hof.bl.size
      have hwx : w.heap.size ≤ gx := by omega
      have n4 : g ≠ gx := by have := hr.lt; omega
      have n5 : gx ≠ g := fun e => n4 e.symm
      have HOF0 := Lib.hid hof
      have HR0 := Lib.hid hr
      have HWR := Lib.hid hwr
      have HW8 := Lib.hid hW8
      have HGX := Lib.hid hgx
      have HC := Lib.hid (one_any W8 hr8)
      clear hW8 hgx hal hof hr hF hG his hisn HFIN hr8
      go_upto_region 9 with fail
      rw [← HW8.out, ← HGX.out]
      go_wp2_with (go_at_call 27; refine HC.out.mono ?_)
      rintro e w9 ⟨a, sta, rfl, hta, -, hr9, hk9⟩
      have hx9 := hx8.kp hk9 n5
      have hK9 := hk8.trans (hk9.mono hk8.size)
      have HTA := Lib.hid hta
      have cc := hx9.cell 0 _ rfl
      have ff := hx9.frozen 0
      have hx10 : BoxC (w9.setCell ⟨gx, 0, none⟩ (.int .i64 a)) gx 44 #[.int .i64 a, .slice none 0 0, .bool false, .slice none 0 0] := hx9.set 0 _
      have hK10 := hK9.set2 hlx 0 (.int .i64 a)
      have HC := Lib.hid (one_any _ (hr9.set (i := 0) (v := .int .i64 a) hwx n4))
      clear hx8 hk8 hta hr9 hk9 hx9 hK9 HW8
      go_wp2_with (go_at_call 27; refine HC.out.mono ?_)
      rintro e w11 ⟨x2, stb, rfl, htb, hzb, hr11, hk11⟩
      have hx11 := hx10.kp hk11 n5
      have hK11 := hK10.trans (hk11.mono hK10.size)
      obtain ⟨q, hq⟩ : ∃ q, q = (x2 == 1) := ⟨_, rfl⟩
      have hx12 : BoxC (w11.setCell ⟨gx, 2, none⟩ (.bool q)) gx 44 #[.int .i64 a, .slice none 0 0, .bool q, .slice none 0 0] := hx11.set 2 _
      have hK12 := hK11.set2 hlx 2 (.bool q)
      have hr12 := hr11.set (i := 2) (v := .bool q) hwx n4
      have HTB0 := Lib.hid (show (x2 = 0 ∨ x2 = 1) → Tk tkB sta q stb from fun h0 => by
        have hqd : q = decide (x2 = 1) := by rw [hq]; rcases h0 with h | h <;> subst h <;> rfl
        rw [hqd]
        rcases htb with ⟨l, r, e1, e2, e3⟩ | ⟨e1, e2⟩
        · subst e1
          cases l with
          | nil => cases e2
          | cons m q =>
            injection e2 with e2; injection e2 with e2 e4
            subst e2 e4
            exact .inl ⟨_, _, rfl, if_pos h0, e3⟩
        · refine .inr ⟨?_, e2⟩
          rcases e1 with e1 | ⟨l, e1, e4⟩
          · exact .inl e1
          · refine .inr ⟨l, e1, ?_⟩
            cases l with
            | nil => rfl
            | cons m q => cases e4)
      have HTB1 := Lib.hid (show ¬ (x2 = 0 ∨ x2 = 1) → Tk tkB sta q none from fun h0 => by
        rcases htb with ⟨l, r, e1, e2, e3⟩ | ⟨e1, e2⟩
        · subst e1
          cases l with
          | nil => cases e2
          | cons m q =>
            injection e2 with e2; injection e2 with e2 e4
            subst e2
            exact Tk.cut _ (if_neg h0)
        · exact absurd (.inl (hzb e2)) h0)
      clear cc ff
      have cc := hx11.cell 2 _ rfl
      have ff := hx11.frozen 2
      obtain ⟨W12, hW12⟩ : ∃ W, W = w11.setCell ⟨gx, 2, none⟩ (.bool q) := ⟨_, rfl⟩
      rw [← hW12] at hx12 hK12 hr12
      have HW12 := Lib.hid hW12
      obtain ⟨bb, hbb⟩ : ∃ b, b = decide (¬ (x2 = 0 ∨ x2 = 1)) := ⟨_, rfl⟩
      have HBB := Lib.hid hbb
      have HQ := Lib.hid hq
      clear hx10 hK10 htb hzb hr11 hk11 hx11 hK11 hW12 hbb hq HC
      go_upto_region 12 with fail
      rw [← HQ.out, ← HW12.out]
      clear cc ff HW12
      go_cut [46] (fun s W => s = .bool bb ∧ W = W12)
      case first =>
        clear hx12 hK12 hr12 HTB0 HTB1 HTA HFK
        by_cases h0 : x2 = 0
        · have hb := HBB.out.trans (decide_eq_false (fun h => h (.inl h0)))
          have q1 : (x2 != 0) = false := by rw [h0]; rfl
          have HB := Lib.hid hb
          clear hb h0
          go_wp2_with fail
          go_meet
          exact ⟨by rw [HB.out], rfl⟩
        · have q1 : (x2 != 0) = true := by simp [bne, h0]
          by_cases h1 : x2 = 1
          · have hb := HBB.out.trans (decide_eq_false (fun h => h (.inr h1)))
            have q2 : (x2 != 1) = false := by rw [h1]; rfl
            have HB := Lib.hid hb
            clear hb h0 h1
            go_wp2_with fail
            go_meet
            exact ⟨by rw [HB.out], rfl⟩
          · have hb := HBB.out.trans (decide_eq_true (fun h => h.elim h0 h1))
            have q2 : (x2 != 1) = true := by simp [bne, h1]
            have HB := Lib.hid hb
            clear hb h0 h1
            go_wp2_with fail
            go_meet
            exact ⟨by rw [HB.out], rfl⟩
      case rest =>
      obtain ⟨rfl, hcW⟩ := hcut
      replace hcW := hcW.symm
      subst hcW
      go_upto_if 46 with fail
      go_cut [] (fun W => ∃ stc, Tk tkB sta q stc ∧ TkD w.heap.size g l W stc ∧ BoxC W gx 44 #[.int .i64 a, .slice none 0 0, .bool q, .slice none 0 0] ∧ KpG wr.heap.size g wr W)
      case first =>
        obtain ⟨is3, e2, e3, -, -⟩ := hr12.cells
        cases bb with
        | false =>
          have HT0 := Lib.hid (HTB0.out (Classical.byContradiction (fun h => by have := HBB.out; rw [decide_eq_true h] at this; cases this)))
          have HR := Lib.hid hr12
          have HX := Lib.hid hx12
          have HK := Lib.hid hK12
          clear hr12 hx12 hK12 HTB0 HTB1 HBB
          go_wp2_with fail
          go_meet
          exact ⟨stb, HT0.out, HR.out, HX.out, HK.out⟩
        | true =>
          have HT0 := Lib.hid (HTB1.out (of_decide_eq_true HBB.out.symm))
          have HR := Lib.hid hr12.fail
          have HX := Lib.hid (hx12.other n5 2 (.bool false))
          have HK := Lib.hid (hK12.trans (KpG.set _ _ _ 2 (.bool false)))
          clear hr12 hx12 hK12 HTB0 HTB1 HBB
          go_wp2_with fail
          go_meet
          exact ⟨none, HT0.out, HR.out, HX.out, HK.out⟩
      case rest =>
      obtain ⟨stc, htc, hr13, hx13, hK13⟩ := hcut
      have HTB := Lib.hid htc
      have HC := Lib.hid (row_any wc hr13 (by omega))
      clear htc hx12 hK12 hr12 HTB0 HTB1 HBB
      go_wp2_with (go_at_call 25; refine HC.out.mono ?_)
      rintro e w14 ⟨vr, rg, std, rfl, hor, htd, hr14, hk14⟩
      have hx14 := hx13.kp hk14 n5
      have hK14 := hK13.trans (hk14.mono hK13.size)
      have HTD := Lib.hid htd
      have hor2 := own_base (show w14.ownsRow wc.heap.size 3 1 vr rg.length (rg.flatMap nuC) from hor) hK13.size
      obtain ⟨Ar, cr, rfl⟩ := own_slice hor
      have hx15 : BoxC (w14.setCell ⟨gx, 1, none⟩ (.slice Ar rg.length cr)) gx 44 #[.int .i64 a, .slice Ar rg.length cr, .bool q, .slice none 0 0] := hx14.set 1 _
      have hor15 := own_box hor2 hx14 (by decide) 1 (.slice Ar rg.length cr)
      have hK15 := hK14.set2 hlx 1 (.slice Ar rg.length cr)
      have hr15 := hr14.set (i := 1) (v := .slice Ar rg.length cr) hwx n4
      have HR15 := Lib.hid hr15
      have HC := Lib.hid (cnt_any _ hr15)
      have cc := hx14.cell 1 _ rfl
      have ff := hx14.frozen 1
      clear hr13 hx13 hK13 hor htd hr14 hk14 hx14 hK14 hor2 hr15
      go_wp2_with (go_at_call 26; refine HC.out.mono ?_)
      rintro e w16 ⟨n3', ste, rfl, hte, hze, hr16, hk16⟩
      obtain ⟨n3i, hn3i⟩ : ∃ x, x = n3' := ⟨_, rfl⟩
      rw [← hn3i] at hte hze ⊢
      clear hn3i
      obtain ⟨l3, ok3, hst3, hn30, hnl3, hl3, hokz3⟩ := hr16.okn hte hze
      have HTE := Lib.hid (show (ok3 = true → Tk tkC std n3i (some l3)) ∧ (ok3 = false → Tk tkC std n3i none) from
        ⟨fun e => by rw [hst3, e] at hte; exact hte, fun e => by rw [hst3, e] at hte; exact hte⟩)
      have HST := Lib.hid (show OwRel gx g l n3i l3 ok3 a (.slice Ar rg.length cr) rg q w.heap.size wr (.int .i64 0) w16 from
        ⟨0, [], _, ste, Nat.zero_le _, rfl, rfl, hx15.kp hk16 n5, HR15.out.keep hor15 (by decide) hk16, World.ownsRow_nil _ _ _ _, hK15.trans (hk16.mono hK15.size), hr16, fun e => by rw [hst3, e]; exact Tk.zero tkW l3, fun e => by rw [hst3, e]; rfl⟩)
      have hnl8 : n3i.toNat ≤ 100000000 := by omega
      have HOZ3 := Lib.hid hokz3
      clear hx15 hor15 hK15 HR15 HC cc ff hte hze hr16 hk16 hst3 hokz3
      go_wp2
      go_loopw [11] (fun i wx => OwRel gx g l n3i l3 ok3 a (.slice Ar rg.length cr) rg q w.heap.size wr i wx) (fun i _ => n3i.toNat - (intOf i).toNat)
      case atStart => exact HST.out
      case round =>
        clear HST
        obtain ⟨k3, ws, vb, st4, hk3, rfl, hwl, hx4, hvr4, hvb4, hK4, hr4, hF4, hG4⟩ := hrel
        obtain ⟨is3, e2c, e2f, his3, hisn3⟩ := hr4.cells
        have HWL := Lib.hid hwl
        have hwk : ws.length ≤ 100000000 := by omega
        clear hwl
        cases is3 with
        | false =>
          by_cases hlt3 : (k3 : Int) < n3i
          · have d3 : decide ((k3 : Int) < n3i) = true := decide_eq_true hlt3
            have HBF := Lib.hid (show Tk tkBuf std ws st4 from by
              have h1 : Tk (tkCnt tkW) std ws st4 := by
                cases ok3 with
                | true =>
                  have h2 : Tk tkC std n3i (some l3) := HTE.out.1 rfl
                  rcases (show st4 = none ∨ k3 = n3i.toNat from by exact .inl (hisn3.1 rfl)) with h | h
                  · subst h; exact EnM.Tk.cnt2 h2 ((hF4 rfl).over ws hk3)
                  · subst h; exact EnM.Tk.cnt2 h2 (hF4 rfl)
                | false => rw [hG4 rfl]; exact EnM.Tk.cnt0 ws (HTE.out.2 rfl)
              exact h1.congr tkBuf_cnt)
            have HTH := Lib.hid (show Tk tkTh (some r) ⟨a, rg, q, ws⟩ st4 from (Tk.two mkTh (Tk.two Prod.mk HTA.out HTB.out) (Tk.two Prod.mk HTD.out HBF.out)).congr tkTh_two)
            have hof4 := HOF0.out.kp HR0.out n1 n2 hK4
            obtain ⟨ps, hps1, hps2, hps3⟩ := hof4.ot
            have HPS2 := Lib.hid hps2
            have HPS3 := Lib.hid hps3
            have HPS1 := Lib.hid hps1
            have HVR := Lib.hid (own_base hvr4 HWR.out)
            have HVB := Lib.hid (own_base hvb4 HWR.out)
            obtain ⟨Ab, cb, rfl⟩ := own_slice hvb4
            have HOM4 := Lib.hid hof4.om
            have HBS4 := Lib.hid hof4.bs
            have HBR4 := Lib.hid hof4.br
            have HBL4 := Lib.hid hof4.bl
            have HR4 := Lib.hid hr4
            have x0 := hx4.cell 0 _ rfl
            have x1 := hx4.cell 1 _ rfl
            have x2' := hx4.cell 2 _ rfl
            have x3 := hx4.cell 3 _ rfl
            have s1 := hof4.bs.cell 1 _ rfl
            have hsz4 := hof4.bl.size
            have hal4 := below_al (Below.refl wr.heap.size wr) (.cells #[.int .i64 a, .slice Ar rg.length cr, .bool q, .slice Ab ws.length cb] 44)
            have hxk : xs.length ≤ 100000000 := by have := HXL.out; omega
            clear hof4 hps1 hps2 hps3 hvr4 hvb4 hr4 hx4 hK4 hF4 hG4 his3 hisn3
            go_wp2_with (at_builtin; refine wpList_append_own _ rfl _ _ 23 rfl w.heap.size 44 i1 (.agg #[.int .i64 0, .slice none 0 0, .bool false, .slice none 0 0]) 4 64 Tryd.underlying23 hi1 hy0 hy1 hy2 rfl (by decide) _ _ _ rfl (HPS1.out.alloc _) ⟨wr.heap.size, 0, none⟩ 1 1 [.int .i64 a, .slice Ar rg.length cr, .bool q, .slice Ab ws.length cb] rfl rfl (news_new _ _ _) (by simp [Value.oneCell']) (by unfold maxLen; omega) (by omega) (by simp; omega) ?_; intro v9 w9 hown9 hg9 _; have HO9 := Lib.hid hown9; obtain ⟨A9, c9, rfl⟩ := own_slice hown9; have hbs9 := (HBS4.out.alloc (.cells #[.int .i64 a, .slice Ar rg.length cr, .bool q, .slice Ab ws.length cb] 44)).grown (by decide) (HPS1.out.alloc (.cells #[.int .i64 a, .slice Ar rg.length cr, .bool q, .slice Ab ws.length cb] 44)) hg9; have f9 := hbs9.frozen 1; have s9 := hbs9.cell 1 _ rfl)
            have HE := Lib.hid (show OtRel gr gs g l n l0 true (.slice Am m.length cm) m w (.int .i64 ((k : Int) + 1)) (w9.setCell ⟨gs, 1, none⟩ (.slice A9 (xs.length + 1) c9)) from by
              have hgx9 := HPS1.out.alloc (.cells #[.int .i64 a, .slice Ar rg.length cr, .bool q, .slice Ab ws.length cb] 44)
              refine ⟨k + 1, xs ++ [⟨a, rg, q, ws⟩], _, st4, by omega, by go_num, by rw [List.length_append, HXL.out]; rfl, ⟨hbs9.set 1 _, ?_, ?_, ?_, ?_⟩, ?_, fun _ => HFK.out.snoc HTH.out, fun e => by cases e⟩
              · exact ((HBR4.out.alloc (.cells #[.int .i64 a, .slice Ar rg.length cr, .bool q, .slice Ab ws.length cb] 44)).grown (by decide) hgx9 hg9).other (fun e => n3 e.symm) 1 _
              · exact own_box (own_grown (by decide) (own_below HOM4.out hal4) hgx9 hg9) hbs9 (by decide) 1 _
              · refine ⟨ps ++ [⟨⟨a, rg, q, ws⟩, .slice Ar rg.length cr, .slice Ab ws.length cb⟩], ?_, by rw [List.map_append, HPS2.out]; rfl, fun p hp => ?_⟩
                · rw [List.length_append, List.flatMap_append]
                  have h9 : w9.ownsRow w.heap.size 44 4 (.slice A9 (xs.length + 1) c9) (xs.length + 1) (ps.flatMap thC ++ [(⟨⟨a, rg, q, ws⟩, .slice Ar rg.length cr, .slice Ab ws.length cb⟩ : TV)].flatMap thC) := by simpa [thC] using HO9.out
                  exact own_box h9 hbs9 (by decide) 1 _
                · rcases List.mem_append.1 hp with hp | hp
                  · exact ⟨own_box (own_grown (by decide) (own_below (HPS3.out p hp).1 hal4) hgx9 hg9) hbs9 (by decide) 1 _, own_box (own_grown (by decide) (own_below (HPS3.out p hp).2 hal4) hgx9 hg9) hbs9 (by decide) 1 _⟩
                  · obtain rfl := List.mem_singleton.1 hp
                    exact ⟨own_box (own_grown (by decide) (own_below HVR.out hal4) hgx9 hg9) hbs9 (by decide) 1 _, own_box (own_grown (by decide) (own_below HVB.out hal4) hgx9 hg9) hbs9 (by decide) 1 _⟩
              · exact (below_append (HBL4.out.alloc hsz4 (.cells #[.int .i64 a, .slice Ar rg.length cr, .bool q, .slice Ab ws.length cb] 44)) hgx9 (Nat.le_refl _) (by simp; omega) hg9).setCell (p := ⟨gs, 1, none⟩) hls _
              · exact ((HR4.out.al (.cells #[.int .i64 a, .slice Ar rg.length cr, .bool q, .slice Ab ws.length cb] 44)).app hgx9 (Nat.le_refl _) (by decide) hg9).set hls (fun e => n1 e.symm))
            clear hbs9 hg9 hown9 HO9 HR4 HBL4 HPS1 HPS2 HPS3 HVR HVB HOM4 HBS4 HBR4 hal4 x0 x1 x2' x3 s1
            go_wp2
            go_roundw
            case rel => exact HE.out
            case measure => simp [intOf]; omega
          · have d3 : decide ((k3 : Int) < n3i) = false := decide_eq_false hlt3
            have HBF := Lib.hid (show Tk tkBuf std ws st4 from by
              have h1 : Tk (tkCnt tkW) std ws st4 := by
                cases ok3 with
                | true =>
                  have h2 : Tk tkC std n3i (some l3) := HTE.out.1 rfl
                  rcases (show st4 = none ∨ k3 = n3i.toNat from by exact .inl (hisn3.1 rfl)) with h | h
                  · subst h; exact EnM.Tk.cnt2 h2 ((hF4 rfl).over ws hk3)
                  · subst h; exact EnM.Tk.cnt2 h2 (hF4 rfl)
                | false => rw [hG4 rfl]; exact EnM.Tk.cnt0 ws (HTE.out.2 rfl)
              exact h1.congr tkBuf_cnt)
            have HTH := Lib.hid (show Tk tkTh (some r) ⟨a, rg, q, ws⟩ st4 from (Tk.two mkTh (Tk.two Prod.mk HTA.out HTB.out) (Tk.two Prod.mk HTD.out HBF.out)).congr tkTh_two)
            have hof4 := HOF0.out.kp HR0.out n1 n2 hK4
            obtain ⟨ps, hps1, hps2, hps3⟩ := hof4.ot
            have HPS2 := Lib.hid hps2
            have HPS3 := Lib.hid hps3
            have HPS1 := Lib.hid hps1
            have HVR := Lib.hid (own_base hvr4 HWR.out)
            have HVB := Lib.hid (own_base hvb4 HWR.out)
            obtain ⟨Ab, cb, rfl⟩ := own_slice hvb4
            have HOM4 := Lib.hid hof4.om
            have HBS4 := Lib.hid hof4.bs
            have HBR4 := Lib.hid hof4.br
            have HBL4 := Lib.hid hof4.bl
            have HR4 := Lib.hid hr4
            have x0 := hx4.cell 0 _ rfl
            have x1 := hx4.cell 1 _ rfl
            have x2' := hx4.cell 2 _ rfl
            have x3 := hx4.cell 3 _ rfl
            have s1 := hof4.bs.cell 1 _ rfl
            have hsz4 := hof4.bl.size
            have hal4 := below_al (Below.refl wr.heap.size wr) (.cells #[.int .i64 a, .slice Ar rg.length cr, .bool q, .slice Ab ws.length cb] 44)
            have hxk : xs.length ≤ 100000000 := by have := HXL.out; omega
            clear hof4 hps1 hps2 hps3 hvr4 hvb4 hr4 hx4 hK4 hF4 hG4 his3 hisn3
            go_wp2_with (at_builtin; refine wpList_append_own _ rfl _ _ 23 rfl w.heap.size 44 i1 (.agg #[.int .i64 0, .slice none 0 0, .bool false, .slice none 0 0]) 4 64 Tryd.underlying23 hi1 hy0 hy1 hy2 rfl (by decide) _ _ _ rfl (HPS1.out.alloc _) ⟨wr.heap.size, 0, none⟩ 1 1 [.int .i64 a, .slice Ar rg.length cr, .bool q, .slice Ab ws.length cb] rfl rfl (news_new _ _ _) (by simp [Value.oneCell']) (by unfold maxLen; omega) (by omega) (by simp; omega) ?_; intro v9 w9 hown9 hg9 _; have HO9 := Lib.hid hown9; obtain ⟨A9, c9, rfl⟩ := own_slice hown9; have hbs9 := (HBS4.out.alloc (.cells #[.int .i64 a, .slice Ar rg.length cr, .bool q, .slice Ab ws.length cb] 44)).grown (by decide) (HPS1.out.alloc (.cells #[.int .i64 a, .slice Ar rg.length cr, .bool q, .slice Ab ws.length cb] 44)) hg9; have f9 := hbs9.frozen 1; have s9 := hbs9.cell 1 _ rfl)
            have HE := Lib.hid (show OtRel gr gs g l n l0 true (.slice Am m.length cm) m w (.int .i64 ((k : Int) + 1)) (w9.setCell ⟨gs, 1, none⟩ (.slice A9 (xs.length + 1) c9)) from by
              have hgx9 := HPS1.out.alloc (.cells #[.int .i64 a, .slice Ar rg.length cr, .bool q, .slice Ab ws.length cb] 44)
              refine ⟨k + 1, xs ++ [⟨a, rg, q, ws⟩], _, st4, by omega, by go_num, by rw [List.length_append, HXL.out]; rfl, ⟨hbs9.set 1 _, ?_, ?_, ?_, ?_⟩, ?_, fun _ => HFK.out.snoc HTH.out, fun e => by cases e⟩
              · exact ((HBR4.out.alloc (.cells #[.int .i64 a, .slice Ar rg.length cr, .bool q, .slice Ab ws.length cb] 44)).grown (by decide) hgx9 hg9).other (fun e => n3 e.symm) 1 _
              · exact own_box (own_grown (by decide) (own_below HOM4.out hal4) hgx9 hg9) hbs9 (by decide) 1 _
              · refine ⟨ps ++ [⟨⟨a, rg, q, ws⟩, .slice Ar rg.length cr, .slice Ab ws.length cb⟩], ?_, by rw [List.map_append, HPS2.out]; rfl, fun p hp => ?_⟩
                · rw [List.length_append, List.flatMap_append]
                  have h9 : w9.ownsRow w.heap.size 44 4 (.slice A9 (xs.length + 1) c9) (xs.length + 1) (ps.flatMap thC ++ [(⟨⟨a, rg, q, ws⟩, .slice Ar rg.length cr, .slice Ab ws.length cb⟩ : TV)].flatMap thC) := by simpa [thC] using HO9.out
                  exact own_box h9 hbs9 (by decide) 1 _
                · rcases List.mem_append.1 hp with hp | hp
                  · exact ⟨own_box (own_grown (by decide) (own_below (HPS3.out p hp).1 hal4) hgx9 hg9) hbs9 (by decide) 1 _, own_box (own_grown (by decide) (own_below (HPS3.out p hp).2 hal4) hgx9 hg9) hbs9 (by decide) 1 _⟩
                  · obtain rfl := List.mem_singleton.1 hp
                    exact ⟨own_box (own_grown (by decide) (own_below HVR.out hal4) hgx9 hg9) hbs9 (by decide) 1 _, own_box (own_grown (by decide) (own_below HVB.out hal4) hgx9 hg9) hbs9 (by decide) 1 _⟩
              · exact (below_append (HBL4.out.alloc hsz4 (.cells #[.int .i64 a, .slice Ar rg.length cr, .bool q, .slice Ab ws.length cb] 44)) hgx9 (Nat.le_refl _) (by simp; omega) hg9).setCell (p := ⟨gs, 1, none⟩) hls _
              · exact ((HR4.out.al (.cells #[.int .i64 a, .slice Ar rg.length cr, .bool q, .slice Ab ws.length cb] 44)).app hgx9 (Nat.le_refl _) (by decide) hg9).set hls (fun e => n1 e.symm))
            clear hbs9 hg9 hown9 HO9 HR4 HBL4 HPS1 HPS2 HPS3 HVR HVB HOM4 HBS4 HBR4 hal4 x0 x1 x2' x3 s1
            go_wp2
            go_roundw
            case rel => exact HE.out
            case measure => simp [intOf]; omega
        | true =>
        by_cases hlt3 : (k3 : Int) < n3i
        · have d3 : decide ((k3 : Int) < n3i) = true := decide_eq_true hlt3
          obtain ⟨r4, hr40⟩ : ∃ r, st4 = some r := by
            cases st4 with
            | none => exact absurd rfl (his3.1 rfl)
            | some r => exact ⟨r, rfl⟩
          subst hr40
          obtain rfl : ok3 = true := by
            cases ok3 with
            | false => have := hG4 rfl; cases this
            | true => rfl
          have HF4 := Lib.hid (hF4 rfl)
          have HX4 := Lib.hid hx4
          have HVR4 := Lib.hid hvr4
          have HVB4 := Lib.hid hvb4
          have HK4 := Lib.hid hK4
          have HR4 := Lib.hid hr4
          have HC := Lib.hid (one_any wr hr4)
          clear hF4 hG4 hx4 hvr4 hvb4 hK4 hr4 his3 hisn3
          go_wp2_with (go_at_call 27; refine HC.out.mono ?_)
          rintro e wa ⟨y1, sta4, rfl, ht1, -, hra, hka⟩
          have HC2 := Lib.hid (one_any wa hra)
          have HTY := Lib.hid ht1
          have HKA := Lib.hid hka
          clear HC ht1 hra hka e2c e2f
          go_wp2_with (go_at_call 27; refine HC2.out.mono ?_)
          rintro e wb ⟨y2, stb4, rfl, ht2, -, hrb, hkb⟩
          have HTW := Lib.hid (show Tk tkW (some r4) ⟨y1, y2⟩ stb4 from (Tk.two (fun a b => (⟨a, b⟩ : Wr)) HTY.out ht2).congr tkW_two)
          have hkab := HKA.out.trans (hkb.mono HKA.out.size)
          have hxb := HX4.out.kp hkab n5
          have HVRB := Lib.hid (HR4.out.keep HVR4.out (by decide) hkab)
          have hvbb := HR4.out.keep HVB4.out (by decide) hkab
          obtain ⟨Ab, cb, rfl⟩ := own_slice hvbb
          have HVBB := Lib.hid hvbb
          have HKB := Lib.hid (HK4.out.trans (hkab.mono HK4.out.size))
          have HRB := Lib.hid hrb
          have HXB := Lib.hid hxb
          have y3 := hxb.cell 3 _ rfl
          have hszb := HKB.out.size
          clear HC2 HTY HKA ht2 hrb hkb hkab hxb hvbb HX4 HVR4 HVB4 HK4 HR4
          go_wp2_with (at_builtin; refine wpList_append_own _ rfl _ _ 42 rfl _ 41 i0 (.agg #[.int .i64 0, .int .i64 0]) 2 16 Tryd.underlying42 hi hz0 hz1 hz2 rfl (by decide) _ _ _ rfl (HVBB.out.alloc _) ⟨wb.heap.size, 0, none⟩ 1 1 [.int .i64 y1, .int .i64 y2] rfl rfl (news_new _ _ _) (by simp [Value.oneCell']) (by unfold maxLen; omega) (by omega) (by simp; omega) ?_; intro v9 w9 hown9 hg9 _; have HO9 := Lib.hid hown9; obtain ⟨A9, c9, rfl⟩ := own_slice hown9; have hx9 := (HXB.out.alloc (.cells #[.int .i64 y1, .int .i64 y2] 41)).grown (by decide) (HVBB.out.alloc (.cells #[.int .i64 y1, .int .i64 y2] 41)) hg9; have f9 := hx9.frozen 3; have s9 := hx9.cell 3 _ rfl)
          have hgx9 := HVBB.out.alloc (.cells #[.int .i64 y1, .int .i64 y2] 41)
          have P1 := Lib.hid (hx9.set 3 (.slice A9 (ws.length + 1) c9))
          have P2 := Lib.hid (own_box (own_grown (by decide) (HVRB.out.alloc (.cells #[.int .i64 y1, .int .i64 y2] 41)) hgx9 hg9) hx9 (by decide) 3 (.slice A9 (ws.length + 1) c9))
          have P3 := Lib.hid (own_box HO9.out hx9 (by decide) 3 (.slice A9 (ws.length + 1) c9))
          have P4 := Lib.hid (((HKB.out.al (Nat.le_refl _) (.cells #[.int .i64 y1, .int .i64 y2] 41)).app (Nat.le_refl _) hgx9 (Nat.le_refl _) hg9).set2 hlx 3 (.slice A9 (ws.length + 1) c9))
          have P5 := Lib.hid (((HRB.out.al (.cells #[.int .i64 y1, .int .i64 y2] 41)).app hgx9 HWR.out (by decide) hg9).set hwx n4 (i := 3) (v := (.slice A9 (ws.length + 1) c9)))
          clear hgx9 hx9 hg9 hown9 HO9 HRB HKB HVRB HVBB HXB y3
          go_wp2
          go_roundw
          case rel =>
            clear s9 f9
            refine ⟨k3 + 1, ws ++ [⟨y1, y2⟩], _, stb4, by omega, by go_num, by rw [List.length_append, HWL.out]; rfl, P1.out, P2.out, ?_, P4.out, P5.out, fun _ => HF4.out.snoc HTW.out, fun e => by cases e⟩
            unfold OwnW
            rw [List.length_append, List.flatMap_append]
            simpa [wrC] using P3.out
          case measure => simp [intOf]; omega
        · have d3 : decide ((k3 : Int) < n3i) = false := decide_eq_false hlt3
          have HBF := Lib.hid (show Tk tkBuf std ws st4 from by
            have h1 : Tk (tkCnt tkW) std ws st4 := by
              cases ok3 with
              | true =>
                have h2 : Tk tkC std n3i (some l3) := HTE.out.1 rfl
                rcases (show st4 = none ∨ k3 = n3i.toNat from by exact .inr (by omega)) with h | h
                · subst h; exact EnM.Tk.cnt2 h2 ((hF4 rfl).over ws hk3)
                · subst h; exact EnM.Tk.cnt2 h2 (hF4 rfl)
              | false => rw [hG4 rfl]; exact EnM.Tk.cnt0 ws (HTE.out.2 rfl)
            exact h1.congr tkBuf_cnt)
          have HTH := Lib.hid (show Tk tkTh (some r) ⟨a, rg, q, ws⟩ st4 from (Tk.two mkTh (Tk.two Prod.mk HTA.out HTB.out) (Tk.two Prod.mk HTD.out HBF.out)).congr tkTh_two)
          have hof4 := HOF0.out.kp HR0.out n1 n2 hK4
          obtain ⟨ps, hps1, hps2, hps3⟩ := hof4.ot
          have HPS2 := Lib.hid hps2
          have HPS3 := Lib.hid hps3
          have HPS1 := Lib.hid hps1
          have HVR := Lib.hid (own_base hvr4 HWR.out)
          have HVB := Lib.hid (own_base hvb4 HWR.out)
          obtain ⟨Ab, cb, rfl⟩ := own_slice hvb4
          have HOM4 := Lib.hid hof4.om
          have HBS4 := Lib.hid hof4.bs
          have HBR4 := Lib.hid hof4.br
          have HBL4 := Lib.hid hof4.bl
          have HR4 := Lib.hid hr4
          have x0 := hx4.cell 0 _ rfl
          have x1 := hx4.cell 1 _ rfl
          have x2' := hx4.cell 2 _ rfl
          have x3 := hx4.cell 3 _ rfl
          have s1 := hof4.bs.cell 1 _ rfl
          have hsz4 := hof4.bl.size
          have hal4 := below_al (Below.refl wr.heap.size wr) (.cells #[.int .i64 a, .slice Ar rg.length cr, .bool q, .slice Ab ws.length cb] 44)
          have hxk : xs.length ≤ 100000000 := by have := HXL.out; omega
          clear hof4 hps1 hps2 hps3 hvr4 hvb4 hr4 hx4 hK4 hF4 hG4 his3 hisn3
          go_wp2_with (at_builtin; refine wpList_append_own _ rfl _ _ 23 rfl w.heap.size 44 i1 (.agg #[.int .i64 0, .slice none 0 0, .bool false, .slice none 0 0]) 4 64 Tryd.underlying23 hi1 hy0 hy1 hy2 rfl (by decide) _ _ _ rfl (HPS1.out.alloc _) ⟨wr.heap.size, 0, none⟩ 1 1 [.int .i64 a, .slice Ar rg.length cr, .bool q, .slice Ab ws.length cb] rfl rfl (news_new _ _ _) (by simp [Value.oneCell']) (by unfold maxLen; omega) (by omega) (by simp; omega) ?_; intro v9 w9 hown9 hg9 _; have HO9 := Lib.hid hown9; obtain ⟨A9, c9, rfl⟩ := own_slice hown9; have hbs9 := (HBS4.out.alloc (.cells #[.int .i64 a, .slice Ar rg.length cr, .bool q, .slice Ab ws.length cb] 44)).grown (by decide) (HPS1.out.alloc (.cells #[.int .i64 a, .slice Ar rg.length cr, .bool q, .slice Ab ws.length cb] 44)) hg9; have f9 := hbs9.frozen 1; have s9 := hbs9.cell 1 _ rfl)
          have HE := Lib.hid (show OtRel gr gs g l n l0 true (.slice Am m.length cm) m w (.int .i64 ((k : Int) + 1)) (w9.setCell ⟨gs, 1, none⟩ (.slice A9 (xs.length + 1) c9)) from by
            have hgx9 := HPS1.out.alloc (.cells #[.int .i64 a, .slice Ar rg.length cr, .bool q, .slice Ab ws.length cb] 44)
            refine ⟨k + 1, xs ++ [⟨a, rg, q, ws⟩], _, st4, by omega, by go_num, by rw [List.length_append, HXL.out]; rfl, ⟨hbs9.set 1 _, ?_, ?_, ?_, ?_⟩, ?_, fun _ => HFK.out.snoc HTH.out, fun e => by cases e⟩
            · exact ((HBR4.out.alloc (.cells #[.int .i64 a, .slice Ar rg.length cr, .bool q, .slice Ab ws.length cb] 44)).grown (by decide) hgx9 hg9).other (fun e => n3 e.symm) 1 _
            · exact own_box (own_grown (by decide) (own_below HOM4.out hal4) hgx9 hg9) hbs9 (by decide) 1 _
            · refine ⟨ps ++ [⟨⟨a, rg, q, ws⟩, .slice Ar rg.length cr, .slice Ab ws.length cb⟩], ?_, by rw [List.map_append, HPS2.out]; rfl, fun p hp => ?_⟩
              · rw [List.length_append, List.flatMap_append]
                have h9 : w9.ownsRow w.heap.size 44 4 (.slice A9 (xs.length + 1) c9) (xs.length + 1) (ps.flatMap thC ++ [(⟨⟨a, rg, q, ws⟩, .slice Ar rg.length cr, .slice Ab ws.length cb⟩ : TV)].flatMap thC) := by simpa [thC] using HO9.out
                exact own_box h9 hbs9 (by decide) 1 _
              · rcases List.mem_append.1 hp with hp | hp
                · exact ⟨own_box (own_grown (by decide) (own_below (HPS3.out p hp).1 hal4) hgx9 hg9) hbs9 (by decide) 1 _, own_box (own_grown (by decide) (own_below (HPS3.out p hp).2 hal4) hgx9 hg9) hbs9 (by decide) 1 _⟩
                · obtain rfl := List.mem_singleton.1 hp
                  exact ⟨own_box (own_grown (by decide) (own_below HVR.out hal4) hgx9 hg9) hbs9 (by decide) 1 _, own_box (own_grown (by decide) (own_below HVB.out hal4) hgx9 hg9) hbs9 (by decide) 1 _⟩
            · exact (below_append (HBL4.out.alloc hsz4 (.cells #[.int .i64 a, .slice Ar rg.length cr, .bool q, .slice Ab ws.length cb] 44)) hgx9 (Nat.le_refl _) (by simp; omega) hg9).setCell (p := ⟨gs, 1, none⟩) hls _
            · exact ((HR4.out.al (.cells #[.int .i64 a, .slice Ar rg.length cr, .bool q, .slice Ab ws.length cb] 44)).app hgx9 (Nat.le_refl _) (by decide) hg9).set hls (fun e => n1 e.symm))
          clear hbs9 hg9 hown9 HO9 HR4 HBL4 HPS1 HPS2 HPS3 HVR HVB HOM4 HBS4 HBR4 hal4 x0 x1 x2' x3 s1
          go_wp2
          go_roundw
          case rel => exact HE.out
          case measure => simp [intOf]; omega
    · have d1 : decide ((k : Int) < n) = false := decide_eq_false hlt
      have HFI := Lib.hid (HFIN.out (.inr (by omega)))
      obtain ⟨_, vl, p, is, hbt, hil, hp, hst0⟩ := id hr
      obtain ⟨rfl, hst⟩ : is = true ∧ st' = some (l.drop p) := by
        rcases hst0 with h | ⟨_, h⟩
        · exact h
        · exact absurd h (his.1 rfl)
      have c1 := hbt.cell 1 _ rfl
      by_cases hpl : p = l.length
      · have HOF := Lib.hid (show ofN l = some ⟨m, xs⟩ from by
          rcases HFI.out.ofN with ⟨_, h⟩ | ⟨h, _⟩
          · exact h
          · rw [hst, hpl, List.drop_length] at h; exact absurd rfl h)
        have HNS := Lib.hid (show numsS ⟨m, xs⟩ = l from (ofN_inv HOF.out).symm)
        have hsv : StaV wr.heap.size wr (.agg #[.slice Am m.length cm, .slice Avt xs.length cvt]) ⟨m, xs⟩ := ⟨_, _, rfl, Rw.own hof.om (Nat.le_refl _), hof.ot.read (Nat.le_refl _)⟩
        have HNU := Lib.hid (rnums_any wr hsv (Nat.le_refl _) (by rw [HNS.out]; omega))
        rw [HNS.out] at HNU
        have HIL := Lib.hid (fun W (hW : Below w.heap.size w W) => Rw.more (HV.out.below hW) hW.size)
        have HOFK := Lib.hid hof
        have q1 : ((p : Int) != (l.length : Int)) = false := by rw [hpl]; simp
        have s0 := hof.bs.cell 0 _ rfl
        have s1 := hof.bs.cell 1 _ rfl
        subst hpl
        clear hof hr hF hG his hisn hbt hil hst hst0 HFIN HFI hsv HV
        go_wp2_with (go_at_call 17; refine HNU.out.mono ?_)
        rintro e w5 u rfl hu hb
        have hof5 := HOFK.out.below hb
        have HSI := Lib.hid (nsame_any w5 (Rw.own (one := nuC) (B := w5.heap.size) hu (Nat.le_refl _)) (HIL.out w5 hof5.bl) (Nat.le_refl _))
        obtain ⟨Au, cu, rfl⟩ := own_slice hu
        have HO5 := Lib.hid hof5
        clear HNU hu hb hof5 s0 s1 HOFK c1 c2 f2
        go_wp2_with (go_at_call 15; refine HSI.out.mono ?_)
        rintro e w6 ⟨rfl, hb⟩
        have hof := HO5.out.below hb
        obtain ⟨W9, hW9⟩ : ∃ W, W = (w6.setCell ⟨gr, 0, none⟩ (.slice Am m.length cm)).setCell ⟨gr, 1, none⟩ (.slice Avt xs.length cvt) := ⟨_, rfl⟩
        have HB9 := Lib.hid (show BoxC W9 gr 25 #[.slice Am m.length cm, .slice Avt xs.length cvt] from by rw [hW9]; exact (hof.br.set 0 _).set 1 _)
        have HK9 := Lib.hid (show Below w.heap.size w W9 from by rw [hW9]; exact (hof.bl.setCell (p := ⟨gr, 0, none⟩) hlr _).setCell (p := ⟨gr, 1, none⟩) hlr _)
        have HS9 := Lib.hid (show repS w.heap.size W9 (.agg #[.slice Am m.length cm, .slice Avt xs.length cvt]) ((some (⟨m, xs⟩ : Sta)).getD ⟨[], []⟩) from by
          rw [hW9]; exact (repS.box (⟨_, _, rfl, hof.om, hof.ot⟩ : repS w.heap.size w6 _ ⟨m, xs⟩) hof.br (by decide) (by decide) (by decide) 0 _).box (hof.br.set 0 _) (by decide) (by decide) (by decide) 1 _)
        have HW9 := Lib.hid hW9
        have s0 := hof.bs.cell 0 _ rfl
        have s1 := hof.bs.cell 1 _ rfl
        have z0 := hof.br.cell 0 _ rfl
        have z1 := hof.br.cell 1 _ rfl
        have g0 := hof.br.frozen 0
        have g1' := hof.br.frozen 1
        clear hW9 hof hb HSI HO5 HIL
        go_wp2_with fail
        rw [← HW9.out]
        clear z0 z1 g0 g1' s0 s1
        have r0 := HB9.out.cell 0 _ rfl
        have r1 := HB9.out.cell 1 _ rfl
        refine bodyPost_ret (v := .tuple #[.agg #[.slice Am m.length cm, .slice Avt xs.length cvt], .bool true]) (by simp [results, Tryd.results12, go_sem, r0, r1, hz]) rfl ?_
        rw [HOF.out]
        exact ⟨_, rfl, HS9.out, HK9.out⟩
      · have HOF := Lib.hid (show ofN l = none from by
          rcases HFI.out.ofN with ⟨h, _⟩ | ⟨_, h⟩
          · rw [hst] at h
            injection h with h
            have := congrArg List.length h
            rw [List.length_drop] at this
            simp at this
            omega
          · exact h)
        have q1 : ((p : Int) != (l.length : Int)) = true := by rw [bne, beq_eq_false_iff_ne.2 (by omega)]; rfl
        clear hst hst0 hpl hbt hil HFI
        obtain ⟨W9, hW9⟩ : ∃ W, W = (wr.setCell ⟨gr, 0, none⟩ (.slice none 0 0)).setCell ⟨gr, 1, none⟩ (.slice none 0 0) := ⟨_, rfl⟩
        have HB9 := Lib.hid (show BoxC W9 gr 25 #[.slice none 0 0, .slice none 0 0] from by rw [hW9]; exact (hof.br.set 0 _).set 1 _)
        have HK9 := Lib.hid (show Below w.heap.size w W9 from by rw [hW9]; exact (hof.bl.setCell (p := ⟨gr, 0, none⟩) hlr _).setCell (p := ⟨gr, 1, none⟩) hlr _)
        have HW9 := Lib.hid hW9
        have z0 := hof.br.cell 0 _ rfl
        have z1 := hof.br.cell 1 _ rfl
        have g0 := hof.br.frozen 0
        have g1' := hof.br.frozen 1
        clear hW9 hof hr hF hG his hisn HFIN
        go_wp2_with fail
        rw [← HW9.out]
        clear z0 z1 g0 g1' c2 f2
        have r0 := HB9.out.cell 0 _ rfl
        have r1 := HB9.out.cell 1 _ rfl
        refine bodyPost_ret (v := .tuple #[.agg #[.slice none 0 0, .slice none 0 0], .bool false]) (by simp [results, Tryd.results12, go_sem, r0, r1, hz]) rfl ?_
        rw [HOF.out]
        exact ⟨_, rfl, reps_zero _ _, HK9.out⟩
end Go.Proofs.YtmpjcfehabnhgaaDoor
