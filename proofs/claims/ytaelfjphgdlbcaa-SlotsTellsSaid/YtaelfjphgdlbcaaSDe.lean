/-
  THE DOCUMENT's Erase of layer 8.
-/
import Derived.Test.YtaelfjphgdlbcaaSDw
namespace Go.Proofs.Ytaelfjphgdlbcaa
open Go.RowKit
set_option linter.unusedVariables false
set_option linter.unusedSimpArgs false
open WordM (L)
open VM
open CodM (hasS)
open SlM

theorem dra_iff (F : Fl) (g : List Int) : fenF (draF F g) g = F ↔ eraB F g = true := by
  constructor
  · intro h
    exact doc_era F g (withT_inj h)
  · intro h
    have h1 := era_doc F g h
    rw [h1]
    unfold eraB at h
    have h := of_decide_eq_true h
    exact withT_same (F := F) h
theorem dN_le {g : List Int} {ths : List (List OpsM.Ln)} (hll : ∀ ss ∈ ths, ss.length ≤ 1000000) : ∀ k, k ≤ ths.length → dN hasS g ths k ≤ k * 1000000
  | 0, _ => by rw [dN]; exact Nat.zero_le _
  | k + 1, h => by
    have h1 := dN_le hll k (by omega) (g := g)
    have h2 := hll _ (List.getElem_mem (show k < ths.length by omega))
    have h3 := (dT_len hasS g (dN hasS g ths k) ths[k] ths[k].length).1
    rw [dN_next hasS g ths (show k < ths.length by omega)]; omega
theorem small_d {F : Fl} (g : List Int) (h : SmallA F) : SmallA (draF F g) := ⟨by show (dras hasS g F.ths).length ≤ _; rw [dras_len]; exact h.l, fun ss hs => by
  have hs' : ss ∈ dras hasS g F.ths := hs
  obtain ⟨j, hj, rfl⟩ := List.mem_iff_getElem.1 hs'
  rw [dras_len] at hj
  rw [dras_at hasS g F.ths hj]
  exact Nat.le_trans (dT_len hasS g _ _ _).2 (h.s _ (List.getElem_mem hj)), h.i, h.c⟩
set_option maxHeartbeats 8000000 in
set_option maxRecDepth 100000 in
theorem rerase_any {B : Nat} {v vg : Value} {F : Fl} {g : List Int} (w : World) (hv : FlV B w v F) (hg : Ints B w vg g) (hBB : B ≤ w.heap.size) (hs : SmallA F) :
    Calls Try.prog 16 #[v, vg] w fun e w' => ∃ u, e = .returned (.tuple #[u, .bool (eraB F g)]) ∧ FlV w'.heap.size w' u (eraR F g) ∧ Below w.heap.size w w' := by
  obtain ⟨vi, vt, vc, rfl, hm⟩ := hv
  have HGI := Lib.hid (fun W (hW : Below w.heap.size w W) => (hg.below (hW.mono hBB)).more (Nat.le_trans hBB hW.size))
  have HMI := Lib.hid (fun W (hW : Below w.heap.size w W) => And.intro ((hm.1.below (hW.mono hBB)).more (Nat.le_trans hBB hW.size)) (And.intro ((hm.2.1.below (hW.mono hBB)).more (Nat.le_trans hBB hW.size)) ((hm.2.2.below (hW.mono hBB)).more (Nat.le_trans hBB hW.size))))
  obtain ⟨AG, cg, rfl, -⟩ := hg
  obtain ⟨⟨A0, c0, rfl, -⟩, ⟨A2, c2, rfl, j1, j2, j3⟩, ⟨A1, c1, rfl, -⟩⟩ := hm
  unfold flv maxLen at *
  have HJ3 := Lib.hid j3
  have HS := Lib.hid hs
  have hl := hs.l
  have HAL := Lib.hid (fun k h => dN_le (g := g) hs.s k h)
  clear j3 hs
  have HZ := Lib.hid (show Try.prog.cellsOf 30 = 5 by kernel_rfl)
  have HB1 := Lib.hid (below_al (Below.refl w.heap.size w) (.cells #[.string ⟨F.name.toArray⟩, .slice A0 F.init.length c0, .slice A2 F.ths.length c2, .bool F.all, .slice A1 F.cond.length c1] 30))
  have HBx := Lib.hid (BoxC.new w 30 #[.string ⟨F.name.toArray⟩, .slice A0 F.init.length c0, .slice A2 F.ths.length c2, .bool F.all, .slice A1 F.cond.length c1])
  go_enter Try.func16, Try.ntmps16
  go_upto_region 3 with fail
  obtain ⟨w3, hw3⟩ : ∃ W, W = ((w.alloc (.cells #[.string ⟨F.name.toArray⟩, .slice A0 F.init.length c0, .slice A2 F.ths.length c2, .bool F.all, .slice A1 F.cond.length c1] 30)).alloc (.cells #[.string ⟨#[]⟩, .slice none 0 0, .slice none 0 0, .bool false, .slice none 0 0] 30)).alloc (.cells #[.string ⟨F.name.toArray⟩, .slice A0 F.init.length c0, .slice none 0 0, .bool F.all, .slice A1 F.cond.length c1] 30) := ⟨_, rfl⟩
  have hsz3 : w3.heap.size = w.heap.size + 1 + 1 + 1 := by rw [hw3]; simp
  have HBF := Lib.hid (show BoxC w3 w.heap.size 30 #[.string ⟨F.name.toArray⟩, .slice A0 F.init.length c0, .slice A2 F.ths.length c2, .bool F.all, .slice A1 F.cond.length c1] from by rw [hw3]; exact (HBx.out.alloc _).alloc _)
  have HBR := Lib.hid (show BoxC w3 (w.heap.size + 1) 30 #[.string ⟨#[]⟩, .slice none 0 0, .slice none 0 0, .bool false, .slice none 0 0] from by
    rw [hw3]; have := (BoxC.new (w.alloc (.cells #[.string ⟨F.name.toArray⟩, .slice A0 F.init.length c0, .slice A2 F.ths.length c2, .bool F.all, .slice A1 F.cond.length c1] 30)) 30 #[.string ⟨#[]⟩, .slice none 0 0, .slice none 0 0, .bool false, .slice none 0 0]).alloc (.cells #[.string ⟨F.name.toArray⟩, .slice A0 F.init.length c0, .slice none 0 0, .bool F.all, .slice A1 F.cond.length c1] 30)
    rw [World.size_alloc] at this; exact this)
  have HBQ0 := Lib.hid (show BoxC w3 (w.heap.size + 1 + 1) 30 #[.string ⟨F.name.toArray⟩, .slice A0 F.init.length c0, .slice none 0 0, .bool F.all, .slice A1 F.cond.length c1] from by
    rw [hw3]; have := BoxC.new ((w.alloc (.cells #[.string ⟨F.name.toArray⟩, .slice A0 F.init.length c0, .slice A2 F.ths.length c2, .bool F.all, .slice A1 F.cond.length c1] 30)).alloc (.cells #[.string ⟨#[]⟩, .slice none 0 0, .slice none 0 0, .bool false, .slice none 0 0] 30)) 30 #[.string ⟨F.name.toArray⟩, .slice A0 F.init.length c0, .slice none 0 0, .bool F.all, .slice A1 F.cond.length c1]
    rw [World.size_alloc, World.size_alloc] at this; exact this)
  have HB3 := Lib.hid (show Below w.heap.size w w3 from by rw [hw3]; exact below_al (below_al (below_al (Below.refl _ _) _) _) _)
  rw [← hw3]
  clear hw3 HB1 HBx
  obtain ⟨gr, hgr⟩ : ∃ x, x = w.heap.size + 1 := ⟨_, rfl⟩
  obtain ⟨gq, hgq⟩ : ∃ x, x = w.heap.size + 1 + 1 := ⟨_, rfl⟩
  rw [← hgq] at HBQ0 ⊢
  rw [← hgr] at HBR ⊢
  have hq1 : w.heap.size < gq := by omega
  have hq2 : gr < gq := by omega
  have hq3 : gq < w3.heap.size := by omega
  have hq4 : w.heap.size ≤ gr := by omega
  have hq5 : w.heap.size ≠ gr := by omega
  clear hsz3 hgr hgq
  obtain ⟨i1', hi1', hz1, hz2, hz3⟩ := info_parts info_thr
  have HFL := Lib.hid (dras_len hasS g F.ths)
  have HMT := Lib.hid (fun (k : Nat) (h : k < F.ths.length) => show (dras hasS g F.ths).take (k + 1) = (dras hasS g F.ths).take k ++ [(dT hasS g (dN hasS g F.ths k) F.ths[k] F.ths[k].length).2.2] from by
    rw [List.take_succ_eq_append_getElem (by rw [dras_len]; exact h), dras_at hasS g F.ths h])
  have HTF := Lib.hid (show (dras hasS g F.ths).take F.ths.length = dras hasS g F.ths from List.take_of_length_le (by rw [dras_len]; exact Nat.le_refl _))
  have HDN := Lib.hid (fun k (h : k < F.ths.length) => dN_next hasS g F.ths h)
  have HDT := Lib.hid (fun n0 l k => (dT_len hasS g n0 l k).1)
  have HLL := Lib.hid HS.out.s
  have HDI := Lib.hid (dra_iff F g)
  go_wp2
  go_loopw [7, 8] (fun nv i wr => (∃ (k n : Nat) (vth : Value) (us : List Value), k ≤ F.ths.length ∧ i = .int .i64 k ∧ nv = .int .i64 n ∧ n = dN hasS g F.ths k ∧ n ≤ k * 1000000 ∧ BoxC wr gq 30 #[.string ⟨F.name.toArray⟩, .slice A0 F.init.length c0, vth, .bool F.all, .slice A1 F.cond.length c1] ∧ wr.ownsRow w3.heap.size 58 1 vth k us ∧ LnsA wr w3.heap.size us ((dras hasS g F.ths).take k) ∧ Below gq w3 wr)) (fun _ i _ => F.ths.length - (intOf i).toNat)
  case atStart => exact ⟨0, 0, .slice none 0 0, [], Nat.zero_le _, rfl, rfl, rfl, Nat.le_refl _, HBQ0.out, World.ownsRow_nil _ _ _ _, ⟨by simp, fun j hj => absurd hj (by simp)⟩, (Below.refl _ _)⟩
  case round =>
    obtain ⟨k, n, vth, us, hk, rfl, rfl, hn, hnk, hbq, hot, hst, hB6⟩ := hrel
    have HNN := Lib.hid hn
    have HBQ := Lib.hid hbq
    have HOT := Lib.hid hot
    have HST := Lib.hid hst
    have HB6 := Lib.hid hB6
    obtain ⟨Avt, cvt, rfl⟩ := own_slice hot
    have hsz6 := hB6.size
    have t2 := (HBF.out.below hB6 hq1).cell 2 _ rfl
    clear hn hbq hot hst hB6
    by_cases hlt : k < F.ths.length
    · obtain ⟨b1, f1, rfl, hb1, hcl⟩ := HJ3.out (by omega)
      obtain ⟨u, zw, hLw⟩ := hcl k hlt
      have hw6 := (HB3.out.trans (HB6.out.mono (by omega)))
      have z0 := (hw6.cell (p := ⟨b1, f1 + k, none⟩) (Nat.lt_of_lt_of_le hb1 hBB)).trans zw
      have hL := hLw.below (hw6.mono hBB)
      have hmt := HMT.out k hlt
      have hll := HLL.out _ (List.getElem_mem hlt)
      have hdn := HDN.out k hlt
      have hal := HAL.out (k + 1) hlt
      rw [← HNN.out] at hmt hdn
      have HDk := Lib.hid (HDT.out n F.ths[k] F.ths[k].length)
      have HWI := Lib.hid (rwithout_any (g := g) n wr (hL.more (Nat.le_trans hBB hw6.size)) (HGI.out _ hw6) (Nat.le_refl _) hll (by omega))
      obtain ⟨ls, hx⟩ : ∃ x, x = F.ths[k] := ⟨_, rfl⟩
      rw [← hx] at hL hmt hll hdn HWI HDk
      generalize (dT hasS g n ls ls.length).1 = dm at *
      generalize (dT hasS g n ls ls.length).2.2 = tl at *
      obtain ⟨A3, c3, rfl, e1, e2, e3⟩ := hL
      unfold maxLen at e2
      have HMK := Lib.hid hmt
      have HDN2 := Lib.hid hdn
      have hdm := HDk.out
      clear hx hmt hLw zw hcl e3 hw6 hdn hal
      go_wp2_with fail
      refine HWI.out.mono ?_
      rintro e wy ⟨Al, cl, rfl, how, hby⟩
      have hot1 := own_below HOT.out hby
      have hst1 := HST.out.below hby
      have hbq1 := HBQ.out.below hby HBQ.out.lt
      have hB7 := HB6.out.trans (hby.mono (show gq ≤ wr.heap.size by omega))
      have hb8 := below_al (Below.refl wy.heap.size wy) (.cells #[.slice Al tl.length cl] 58)
      have HO8 := Lib.hid (own_below how hb8)
      have HS8 := Lib.hid (hst1.below hb8)
      have HT8 := Lib.hid (own_below hot1 hb8)
      have HQ8 := Lib.hid (hbq1.below hb8 hbq1.lt)
      have HB8 := Lib.hid (hB7.trans (hb8.mono (show gq ≤ wy.heap.size by have := hby.size; omega)))
      have hle8 : w3.heap.size ≤ (wy.alloc (.cells #[.slice Al tl.length cl] 58)).heap.size := HB8.out.size
      have HQC := Lib.hid (hbq1.cell 2 _ rfl)
      have hlt8 : gq < wy.heap.size := hbq1.lt
      have qc := HQC.out
      have hszy := hby.size
      clear how hot1 hst1 hbq1 hB7 hb8 HST t2 z0 hby HWI
      go_wp2_with (at_builtin; refine wpList_append_own _ rfl _ _ 27 rfl w3.heap.size 58 i1' (.agg #[.slice none 0 0]) 1 24 Try.underlying27 hi1' hz1 hz2 hz3 rfl (by decide) _ _ _ rfl HT8.out ⟨wy.heap.size, 0, none⟩ 1 1 [.slice Al tl.length cl] rfl rfl (cell_one_new _ _ _) (by simp [Value.oneCell']) (by unfold maxLen; omega) (by omega) hle8 ?_; intro v1 wz hown1 hg1 _; obtain ⟨Av, cv, rfl⟩ := own_slice hown1; have hqz := HQ8.out.kept hg1 (fun c => by have := (HT8.out.lt _ c).1; omega); have zc := hqz.cell 2 _ rfl; have zf := hqz.frozen 2)
      have hB9 := below_append HB8.out HT8.out (by omega) (show gq ≤ (wy.alloc (.cells #[.slice Al tl.length cl] 58)).heap.size by omega) hg1
      have hO9 := own_grown (by decide) HO8.out HT8.out hg1
      have hS9 := (HS8.out.grown (by decide) HT8.out hg1).snoc (own_base hO9 (by omega))
      go_roundw
      case rel =>
        exact ⟨k + 1, n + dm, _, _, by omega, by go_num, by go_num, HDN2.out.symm, by omega, hqz.set 2 (.slice Av (k + 1) cv), own_st (b := gq) (i := 2) hown1 hq3 _, by rw [HMK.out]; exact hS9.set (b := gq) (i := 2) hq3 _, hB9.setCell (p := ⟨gq, 2, none⟩) (by show gq ≤ gq; omega) _⟩
      case measure => simp [intOf]; omega
    · obtain rfl : F.ths.length = k := by omega
      have HST' := HST.out
      rw [HTF.out] at HST'
      rename World => wE
      have hbw := HB3.out.trans (HB6.out.mono (show w.heap.size ≤ gq by omega))
      have hot2 : wE.ownsRow w3.heap.size 58 1 (.slice Avt F.ths.length cvt) (dras hasS g F.ths).length us := by rw [HFL.out]; exact HOT.out
      have hTH := HST'.ths hot2 (Nat.le_refl _)
      rw [HFL.out] at hot2
      have HQF := Lib.hid (fun W (hW : Below wE.heap.size wE W) => show FlV W.heap.size W (.agg #[.string ⟨F.name.toArray⟩, .slice A0 F.init.length c0, .slice Avt F.ths.length cvt, .bool F.all, .slice A1 F.cond.length c1]) (draF F g) from ⟨_, _, _, rfl, (HMI.out _ (chain hbw hW)).1, (hTH.below hW).more hW.size, (HMI.out _ (chain hbw hW)).2.2⟩)
      have HFF := Lib.hid (fun W (hW : Below wE.heap.size wE W) => show FlV W.heap.size W (.agg #[.string ⟨F.name.toArray⟩, .slice A0 F.init.length c0, .slice A2 F.ths.length c2, .bool F.all, .slice A1 F.cond.length c1]) F from ⟨_, _, _, rfl, (HMI.out _ (chain hbw hW)).1, (HMI.out _ (chain hbw hW)).2.1, (HMI.out _ (chain hbw hW)).2.2⟩)
      have HGW := Lib.hid (fun W (hW : Below wE.heap.size wE W) => HGI.out _ (chain hbw hW))
      have HBW := Lib.hid hbw
      have HQB := Lib.hid (fun W (hW : Below wE.heap.size wE W) => HBQ.out.below hW HBQ.out.lt)
      have HFB := Lib.hid (fun W (hW : Below wE.heap.size wE W) => (HBF.out.below HB6.out hq1).below hW (by have := HB6.out.size; omega))
      have HRB := Lib.hid (fun W (hW : Below wE.heap.size wE W) => (HBR.out.below HB6.out hq2).below hW (by have := HB6.out.size; omega))
      have HTW := Lib.hid (And.intro HST' hot2)
      have HSD := Lib.hid (show SmallA (draF F g) from small_d g HS.out)
      have hqE := HBQ.out.lt
      clear HST' hbw hot2 hTH HOT HST HBQ
      go_upto_region 10 with fail
      have y0 := (HQB.out _ (Below.refl _ _)).cell 0 _ rfl
      have y1 := (HQB.out _ (Below.refl _ _)).cell 1 _ rfl
      have y2 := (HQB.out _ (Below.refl _ _)).cell 2 _ rfl
      have y3 := (HQB.out _ (Below.refl _ _)).cell 3 _ rfl
      have y4 := (HQB.out _ (Below.refl _ _)).cell 4 _ rfl
      have f0 := (HFB.out _ (Below.refl _ _)).cell 0 _ rfl
      have f1' := (HFB.out _ (Below.refl _ _)).cell 1 _ rfl
      have f2 := (HFB.out _ (Below.refl _ _)).cell 2 _ rfl
      have f3 := (HFB.out _ (Below.refl _ _)).cell 3 _ rfl
      have f4 := (HFB.out _ (Below.refl _ _)).cell 4 _ rfl
      refine wp_region_held_drew (S := (fun w' => (w'.cell? ⟨gq, 0, none⟩ = some (.string ⟨F.name.toArray⟩) ∧ w'.cell? ⟨gq, 1, none⟩ = some (.slice A0 F.init.length c0) ∧ w'.cell? ⟨gq, 2, none⟩ = some (.slice Avt F.ths.length cvt) ∧ w'.cell? ⟨gq, 3, none⟩ = some (.bool F.all) ∧ w'.cell? ⟨gq, 4, none⟩ = some (.slice A1 F.cond.length c1) ∧ w'.cell? ⟨w.heap.size, 0, none⟩ = some (.string ⟨F.name.toArray⟩) ∧ w'.cell? ⟨w.heap.size, 1, none⟩ = some (.slice A0 F.init.length c0) ∧ w'.cell? ⟨w.heap.size, 2, none⟩ = some (.slice A2 F.ths.length c2) ∧ w'.cell? ⟨w.heap.size, 3, none⟩ = some (.bool F.all) ∧ w'.cell? ⟨w.heap.size, 4, none⟩ = some (.slice A1 F.cond.length c1)) ∧ Below wE.heap.size wE w')) (by kernel_rfl) ⟨⟨y0, y1, y2, y3, y4, f0, f1', f2, f3, f4⟩, below_drewN (Below.refl _ _) 1⟩ (fun hHeld => ?_)
      refine wpAnyH_take (i := 0) (v := ?_) rfl (by kernel_rfl) (by kernel_rfl) (by kernel_rfl) (fun _ _ _ h => h) (Or.inl ⟨by rfl, ?_⟩) (by assumption) ?_
      rotate_left
      · intro w hSw; (try dsimp only at hSw); go_simp; (try with_reducible rfl)
      (try simp only [Act.put, List.getElem_toArray, List.getElem_cons_zero, List.getElem_cons_succ, Array.getInternal_eq_getElem, List.setIfInBounds_toArray, List.set_cons_zero, List.set_cons_succ])
      refine wpAnyH_take (i := 1) (v := ?_) rfl (by kernel_rfl) (by kernel_rfl) (by kernel_rfl) (fun _ _ _ h => h) (Or.inl ⟨by rfl, ?_⟩) (by assumption) ?_
      rotate_left
      · intro w hSw; (try dsimp only at hSw); go_simp; (try with_reducible rfl)
      (try simp only [Act.put, List.getElem_toArray, List.getElem_cons_zero, List.getElem_cons_succ, Array.getInternal_eq_getElem, List.setIfInBounds_toArray, List.set_cons_zero, List.set_cons_succ])
      refine wpAnyH_take (i := 3) (v := ?_) rfl (by kernel_rfl) (by kernel_rfl) (by kernel_rfl) (fun _ _ _ h => h) (Or.inl ⟨by rfl, ?_⟩) (by assumption) ?_
      rotate_left
      · intro w hSw; (try dsimp only at hSw); go_simp; (try with_reducible rfl)
      (try simp only [Act.put, List.getElem_toArray, List.getElem_cons_zero, List.getElem_cons_succ, Array.getInternal_eq_getElem, List.setIfInBounds_toArray, List.set_cons_zero, List.set_cons_succ])
      refine wpAnyH_ready (rs := [2]) (by kernel_rfl) (by simp) ?_
      refine AllReadyH.cons rfl (fun K hK => ?_) AllReadyH.nil
      go_simp
      refine (rfence_any (F := draF F g) (g := g) _ (HQF.out _ hHeld.2) (HGW.out _ hHeld.2) (Nat.le_refl _) HSD.out).mono ?_
      rintro e wa ⟨u, rfl, hF5, hba⟩
      have HF5 := Lib.hid hF5
      clear hF5
      obtain ⟨q0, q1, q2, q3, q4, q5, q6, q7, q8, q9⟩ := hHeld.1
      refine hK.out _ _ ⟨⟨kc hba q0, kc hba q1, kc hba q2, kc hba q3, kc hba q4, kc hba q5, kc hba q6, kc hba q7, kc hba q8, kc hba q9⟩, chain hHeld.2 hba⟩ (fun hHeld => ?_)
      clear hba q0 q1 q2 q3 q4 q5 q6 q7 q8 q9
      clear hK K
      (try simp only [Act.put, List.getElem_toArray, List.getElem_cons_zero, List.getElem_cons_succ, Array.getInternal_eq_getElem, List.setIfInBounds_toArray, List.set_cons_zero, List.set_cons_succ])
      refine wpAnyH_ready (rs := [4]) (by kernel_rfl) (by simp) ?_
      refine AllReadyH.cons rfl (fun K hK => ?_) AllReadyH.nil
      go_simp
      refine (csame_any _ HF5.out (HFF.out _ hHeld.2) (Nat.le_refl _)).mono ?_
      rintro e wb ⟨⟨cb, rfl, hcb⟩, hba⟩
      have HCB := Lib.hid hcb
      clear hcb
      obtain ⟨q0, q1, q2, q3, q4, q5, q6, q7, q8, q9⟩ := hHeld.1
      refine hK.out _ _ ⟨⟨kc hba q0, kc hba q1, kc hba q2, kc hba q3, kc hba q4, kc hba q5, kc hba q6, kc hba q7, kc hba q8, kc hba q9⟩, chain hHeld.2 hba⟩ (fun hHeld => ?_)
      clear hba q0 q1 q2 q3 q4 q5 q6 q7 q8 q9
      clear hK K
      (try simp only [Act.put, List.getElem_toArray, List.getElem_cons_zero, List.getElem_cons_succ, Array.getInternal_eq_getElem, List.setIfInBounds_toArray, List.set_cons_zero, List.set_cons_succ])
      refine wpAnyH_take (i := 5) (v := ?_) rfl (by kernel_rfl) (by kernel_rfl) (by kernel_rfl) (fun _ _ _ h => h) (Or.inl ⟨by rfl, ?_⟩) (by assumption) ?_
      rotate_left
      · intro w hSw; (try dsimp only at hSw); go_simp; (try with_reducible rfl)
      (try simp only [Act.put, List.getElem_toArray, List.getElem_cons_zero, List.getElem_cons_succ, Array.getInternal_eq_getElem, List.setIfInBounds_toArray, List.set_cons_zero, List.set_cons_succ])
      refine wpAnyH_done (by kernel_rfl) ?_ _
      have HWF := Lib.hid hHeld.2
      clear hHeld y0 y1 y2 y3 y4 f0 f1' f2 f3 f4 t2 hk hnk hlt
      clear hHeld
      clear hHeld
      rename World => wL
      cases hbb : eraB F g
      case false =>
        have HNB := Lib.hid hbb
        obtain rfl : cb = false := by
          cases hcb' : cb
          · rfl
          · have := HDI.out.1 (HCB.out.1 hcb'); rw [this] at hbb; cases hbb
        clear hbb
        go_upto_region 11 with fail
        have hHB := HWF.out
        have hz := HZ.out
        have hre := HRB.out _ hHB
        have z0 := hre.cell 0 _ rfl
        have z1 := hre.cell 1 _ rfl
        have z2 := hre.cell 2 _ rfl
        have z3 := hre.cell 3 _ rfl
        have z4 := hre.cell 4 _ rfl
        have g0 := hre.frozen 0
        have g1 := hre.frozen 1
        have g2 := hre.frozen 2
        have g3 := hre.frozen 3
        have g4 := hre.frozen 4
        have hbL := chain HBW.out hHB
        have f0 := (HFB.out _ hHB).cell 0 _ rfl
        have f1' := (HFB.out _ hHB).cell 1 _ rfl
        have f2 := (HFB.out _ hHB).cell 2 _ rfl
        have f3 := (HFB.out _ hHB).cell 3 _ rfl
        have f4 := (HFB.out _ hHB).cell 4 _ rfl
        have HRX := Lib.hid (hre.set5 (.string ⟨F.name.toArray⟩) (.slice A0 F.init.length c0) (.slice A2 F.ths.length c2) (.bool F.all) (.slice A1 F.cond.length c1))
        have HBX := Lib.hid (below5 (g := gr) hbL hq4 (.string ⟨F.name.toArray⟩) (.slice A0 F.init.length c0) (.slice A2 F.ths.length c2) (.bool F.all) (.slice A1 F.cond.length c1))
        clear hre hbL hHB
        go_wp2
        have r0 := HRX.out.cell 0 _ rfl
        have r1 := HRX.out.cell 1 _ rfl
        have r2 := HRX.out.cell 2 _ rfl
        have r3 := HRX.out.cell 3 _ rfl
        have r4 := HRX.out.cell 4 _ rfl
        refine bodyPost_ret (v := .tuple #[.agg #[.string ⟨F.name.toArray⟩, .slice A0 F.init.length c0, .slice A2 F.ths.length c2, .bool F.all, .slice A1 F.cond.length c1], .bool false]) (by simp [results, Try.results16, go_sem, r0, r1, r2, r3, r4, hz]) rfl ⟨_, by rw [HNB.out], by unfold eraR; rw [HNB.out]; exact ⟨_, _, _, rfl, (HMI.out _ HBX.out).1, (HMI.out _ HBX.out).2.1, (HMI.out _ HBX.out).2.2⟩, HBX.out⟩
      case true =>
        have HNB := Lib.hid hbb
        obtain rfl : cb = true := HCB.out.2 (HDI.out.2 hbb)
        have HDE := Lib.hid (era_doc F g hbb)
        clear hbb
        go_upto_region 12 with fail
        have hHB := HWF.out
        have hz := HZ.out
        have hre := HRB.out _ hHB
        have z0 := hre.cell 0 _ rfl
        have z1 := hre.cell 1 _ rfl
        have z2 := hre.cell 2 _ rfl
        have z3 := hre.cell 3 _ rfl
        have z4 := hre.cell 4 _ rfl
        have g0 := hre.frozen 0
        have g1 := hre.frozen 1
        have g2 := hre.frozen 2
        have g3 := hre.frozen 3
        have g4 := hre.frozen 4
        have hbL := chain HBW.out hHB
        have y0 := (HQB.out _ hHB).cell 0 _ rfl
        have y1 := (HQB.out _ hHB).cell 1 _ rfl
        have y2 := (HQB.out _ hHB).cell 2 _ rfl
        have y3 := (HQB.out _ hHB).cell 3 _ rfl
        have y4 := (HQB.out _ hHB).cell 4 _ rfl
        have HRX := Lib.hid (hre.set5 (.string ⟨F.name.toArray⟩) (.slice A0 F.init.length c0) (.slice Avt F.ths.length cvt) (.bool F.all) (.slice A1 F.cond.length c1))
        have HBX := Lib.hid (below5 (g := gr) hbL hq4 (.string ⟨F.name.toArray⟩) (.slice A0 F.init.length c0) (.slice Avt F.ths.length cvt) (.bool F.all) (.slice A1 F.cond.length c1))
        have hgr3 : gr < w3.heap.size := by omega
        have hot3 : wL.ownsRow w3.heap.size 58 1 (.slice Avt F.ths.length cvt) (dras hasS g F.ths).length us := by rw [HFL.out]; exact own_below HTW.out.2 hHB
        have HTH := Lib.hid (((((((HTW.out.1.below hHB).set (b := gr) (i := 0) hgr3 (.string ⟨F.name.toArray⟩)).set (b := gr) (i := 1) hgr3 (.slice A0 F.init.length c0)).set (b := gr) (i := 2) hgr3 (.slice Avt F.ths.length cvt)).set (b := gr) (i := 3) hgr3 (.bool F.all)).set (b := gr) (i := 4) hgr3 (.slice A1 F.cond.length c1)).ths (own_st (b := gr) (i := 4) (own_st (b := gr) (i := 3) (own_st (b := gr) (i := 2) (own_st (b := gr) (i := 1) (own_st (b := gr) (i := 0) hot3 hgr3 (.string ⟨F.name.toArray⟩)) hgr3 (.slice A0 F.init.length c0)) hgr3 (.slice Avt F.ths.length cvt)) hgr3 (.bool F.all)) hgr3 (.slice A1 F.cond.length c1)) (Nat.le_refl _))
        clear hre hbL hHB hot3
        go_wp2
        have r0 := HRX.out.cell 0 _ rfl
        have r1 := HRX.out.cell 1 _ rfl
        have r2 := HRX.out.cell 2 _ rfl
        have r3 := HRX.out.cell 3 _ rfl
        have r4 := HRX.out.cell 4 _ rfl
        refine bodyPost_ret (v := .tuple #[.agg #[.string ⟨F.name.toArray⟩, .slice A0 F.init.length c0, .slice Avt F.ths.length cvt, .bool F.all, .slice A1 F.cond.length c1], .bool true]) (by simp [results, Try.results16, go_sem, r0, r1, r2, r3, r4, hz]) rfl ⟨_, by rw [HNB.out], by unfold eraR; rw [HNB.out, if_pos rfl, ← HDE.out]; exact ⟨_, _, _, rfl, (HMI.out _ HBX.out).1, HTH.out, (HMI.out _ HBX.out).2.2⟩, HBX.out⟩
end Go.Proofs.Ytaelfjphgdlbcaa
