/-
  slots.Erase.
-/
import Derived.Test.YtaelfjphgdlbcaaM09
import Derived.Test.YtaelfjphgdlbcaaM06
import Derived.Test.YtaelfjphgdlbcaaSlZ
import Derived.Deep.RegionHeld3
import Derived.Deep.DeepCutAuto
namespace Go.Proofs.Ytaelfjphgdlbcaa
open Go.RowKit
set_option linter.unusedVariables false
set_option linter.unusedSimpArgs false
open CodM (St Pg hasS)
open VM (Fl)
open SlM

theorem witN_none {A : Type} (l : List A) : ∀ n, n ≤ l.length → witN (fun _ => false) l n = l.take n
  | 0, _ => rfl
  | n + 1, h => by rw [witN_next _ l n (by omega), witN_none l n (by omega), List.take_succ_eq_append_getElem (show n < l.length by omega)]; rfl
theorem rows_era {ths : List (List OpsM.Ln)} {g : List Int} {f : Int → Int → Bool} (hf : ∀ t k (ht : t < ths.length), k < ths[t].length → f (t : Nat) (k : Nat) = lc hasS g ths t k) :
    (List.range ths.length).map (fun (t : Nat) => witN (fun q => f (t : Int) (q : Int)) (ths.getD t []) (ths.getD t []).length) = eras hasS g ths := by
  unfold eras
  refine List.map_congr_left (fun t ht => ?_)
  have ht := List.mem_range.1 ht
  rw [SlM.getD_at ht, witN_congr (c' := lc hasS g ths t) ths[t] _ (fun k hk => hf t k ht hk), eK_wit hasS g ths ht _ (Nat.le_refl _)]
theorem rows_non {ths : List (List OpsM.Ln)} : (List.range ths.length).map (fun (t : Nat) => witN (fun q => (fun (_ _ : Int) => false) (t : Int) ((q : Nat) : Int)) (ths.getD t []) (ths.getD t []).length) = ths := by
  refine List.ext_getElem (by simp) (fun t h1 h2 => ?_)
  rw [List.getElem_map, List.getElem_range, SlM.getD_at h2, witN_none _ _ (Nat.le_refl _), List.take_length]
theorem Off.mono {H H' : Nat → Prop} {W W' : World} (h : Off H W W') (hH : ∀ k, H k → H' k) : Off H' W W' := ⟨h.size, fun k hk hn => h.block k hk (fun c => hn (hH k c))⟩
theorem Off.new {H : Nat → Prop} {W W' : World} (h : Off H W W') {g : Nat} (hg : W.heap.size ≤ g) (i : Nat) (v : Value) : Off H W (W'.setCell ⟨g, i, none⟩ v) :=
  ⟨Nat.le_trans h.size (grown_set W' g i v).size, fun k hk hn => ((grown_set W' g i v).block k (Nat.lt_of_lt_of_le hk h.size) (fun e => by injection e with e; omega)).trans (h.block k hk hn)⟩
theorem Off.new5 {H : Nat → Prop} {W W' : World} (h : Off H W W') {g : Nat} (hg : W.heap.size ≤ g) (v0 v1 v2 v3 v4 : Value) :
    Off H W (((((W'.setCell ⟨g, 0, none⟩ v0).setCell ⟨g, 1, none⟩ v1).setCell ⟨g, 2, none⟩ v2).setCell ⟨g, 3, none⟩ v3).setCell ⟨g, 4, none⟩ v4) := ((((h.new hg 0 v0).new hg 1 v1).new hg 2 v2).new hg 3 v3).new hg 4 v4
theorem own_off2 {H : Nat → Prop} {W W' : World} {base sz n : Nat} {T : TypeId} {v : Value} {xs : List Value} (h : W.ownsRow base T sz v n xs) (hO : Off H W W') (hH : ∀ k, H k → k < base ∨ W.heap.size ≤ k) : W'.ownsRow base T sz v n xs := by
  refine ⟨h.1, ?_⟩
  rcases h.2 with ⟨h1, h2⟩ | ⟨g, cap, cur, h1, hbg, hg, h4⟩
  · exact .inl ⟨h1, h2⟩
  · have hl := (Array.getElem?_eq_some_iff.1 hg).1
    exact .inr ⟨g, cap, cur, h1, hbg, (hO.block g hl (fun c => by have := hH g c; omega)).trans hg, h4⟩
theorem rows_off2 {H : Nat → Prop} {W Wc : World} {base b n : Nat} {vs : List Value} {ts : List (List OpsM.Ln)} (ho : W.ownsRow base 56 1 (.slice (some ⟨b, 0, none⟩) n n) n vs) (hr : RowsA W base 60 lnsCs vs ts) (hn : ts.length = n) (hb : Below W.heap.size W Wc) (hH : ∀ k, H k → k < base ∨ W.heap.size ≤ k) :
    ∀ (b' f : Nat) (c : Nat) (q : Nat) (hq : q < ts.length) (u : Value), Value.slice (some ⟨b, 0, none⟩) n n = .slice (some ⟨b', f, none⟩) ts.length c → Wc.cell? ⟨b', f + q, none⟩ = some u → ∀ W', Off H Wc W' → Lns W'.heap.size W' u ts[q] := by
  intro b' f c q hq u e hc W' hO
  injection e with e1 e2 e3
  injection e1 with e1
  injection e1 with e1 e4
  subst e1; subst e4
  rw [Nat.zero_add, (own_below ho hb).cellAt q (by omega)] at hc
  obtain ⟨hq', h2⟩ := hr.of hc
  exact lns_of_own (own_off2 h2 ((Off.below hb).trans hO) hH) (Nat.le_refl _)
theorem witN_sub {A : Type} (l : List A) (p : A → Bool) (g : List Int) : True := trivial
theorem eras_small {M : Nat} (g : List Int) (ths : List (List OpsM.Ln)) (h : ∀ ss ∈ ths, ss.length ≤ M) : ∀ ss ∈ eras hasS g ths, ss.length ≤ M := by
  intro ss hs
  obtain ⟨t, ht, rfl⟩ := List.mem_iff_getElem.1 hs
  have ht' : t < ths.length := by rw [eras_len] at ht; exact ht
  rw [eras_at hasS g ths ht', ← eK_wit hasS g ths ht' _ (Nat.le_refl _)]
  exact Nat.le_trans (witN_len _ _ _) (h _ (List.getElem_mem ht'))
set_option maxHeartbeats 8000000 in
set_option maxRecDepth 100000 in
theorem erase_any {B : Nat} {v vg : Value} {F : Fl} {g : List Int} (w : World) (hv : FlV B w v F) (hg : Ints B w vg g) (hBB : B ≤ w.heap.size) (hl : F.ths.length ≤ 1000000) (hll : ∀ ss ∈ F.ths, ss.length ≤ 1000000) (hgl : g.length ≤ 1000000) (hl1 : F.init.length ≤ 1000000) (hl2 : F.cond.length ≤ 1000000) :
    Calls Try.prog 15 #[v, vg] w fun e w' => ∃ u, e = .returned (.tuple #[u, .bool (eraB F g)]) ∧ FlV w'.heap.size w' u (eraR F g) ∧ Below w.heap.size w w' := by
  obtain ⟨vi, vt, vc, rfl, hm⟩ := hv
  have HM := Lib.hid hm
  have HG := Lib.hid hg
  have HN0 := Lib.hid hl
  have HN1 := Lib.hid hl1
  have HN2 := Lib.hid hl2
  have HLL := Lib.hid hll
  have HNG := Lib.hid hgl
  obtain ⟨⟨P0, d0, rfl, -⟩, ⟨P1, d1, rfl, -⟩, ⟨P2, d2, rfl, -⟩⟩ := hm
  obtain ⟨PG, cg, rfl, -⟩ := hg
  obtain ⟨W1, hW1⟩ : ∃ W, W = (w.alloc (.cells #[.string ⟨F.name.toArray⟩, .slice P0 F.init.length d0, .slice P1 F.ths.length d1, .bool F.all, .slice P2 F.cond.length d2] 30)).alloc (.cells #[.string ⟨#[]⟩, .slice none 0 0, .slice none 0 0, .bool false, .slice none 0 0] 30) := ⟨_, rfl⟩
  have HB1 := Lib.hid (show Below w.heap.size w W1 from by rw [hW1]; exact below_al (below_al (Below.refl _ w) _) _)
  have HY1 := Lib.hid (show BoxC W1 w.heap.size 30 #[.string ⟨F.name.toArray⟩, .slice P0 F.init.length d0, .slice P1 F.ths.length d1, .bool F.all, .slice P2 F.cond.length d2] from by rw [hW1]; exact (BoxC.new w _ _).alloc _)
  have HZ1 := Lib.hid (show BoxC W1 (w.heap.size + 1) 30 #[.string ⟨#[]⟩, .slice none 0 0, .slice none 0 0, .bool false, .slice none 0 0] from by
    rw [hW1]; have := BoxC.new (w.alloc (.cells #[.string ⟨F.name.toArray⟩, .slice P0 F.init.length d0, .slice P1 F.ths.length d1, .bool F.all, .slice P2 F.cond.length d2] 30)) 30 #[.string ⟨#[]⟩, .slice none 0 0, .slice none 0 0, .bool false, .slice none 0 0]
    rw [World.size_alloc] at this; exact this)
  have HLO := Lib.hid (linesof_any (B := B) (F := F) (v := .agg #[.string ⟨F.name.toArray⟩, .slice P0 F.init.length d0, .slice P1 F.ths.length d1, .bool F.all, .slice P2 F.cond.length d2]) W1 ⟨_, _, _, rfl, HM.out.below (HB1.out.mono hBB)⟩ (Nat.le_trans hBB HB1.out.size) hl)
  rw [hW1] at HLO
  unfold flv
  clear hl hll hgl hl1 hl2
  go_enter Try.func15, Try.ntmps15
  go_wp2_with fail
  refine HLO.out.mono ?_
  rintro e WW ⟨gm, vs, rfl, hown, hall, hba⟩
  rw [← hW1] at hown hba hall
  have HBA := Lib.hid (hba.mono (Nat.le_trans hBB HB1.out.size))
  have HYW := Lib.hid (HY1.out.below hba HY1.out.lt)
  have HZW := Lib.hid (HZ1.out.below hba HZ1.out.lt)
  have HBW := Lib.hid (chain HB1.out hba)
  have hBWW : B ≤ WW.heap.size := Nat.le_trans hBB HBW.out.size
  have HOW := Lib.hid hown
  have HAL := Lib.hid hall
  have HTH := Lib.hid (fun X (hX : Below WW.heap.size WW X) => show Ths X.heap.size X (.slice (some ⟨gm, 0, none⟩) F.ths.length F.ths.length) F.ths from ths_of_own (own_below HOW.out hX) (Nat.le_refl _) (fun j hj => by
    obtain ⟨u, h1, h2⟩ := HAL.out j hj
    exact ⟨u, h1, ((h2.below HBA.out).below (hX.mono hBWW)).more (Nat.le_trans hBWW hX.size)⟩))
  have HGX := Lib.hid (fun X (hX : Below WW.heap.size WW X) => show Ints X.heap.size X (.slice PG g.length cg) g from ((HG.out.below (HBW.out.mono hBB)).below (hX.mono hBWW)).more (Nat.le_trans hBWW hX.size))
  have HFX := Lib.hid (fun X (hX : Below WW.heap.size WW X) => show FlV X.heap.size X (.agg #[.string ⟨F.name.toArray⟩, .slice P0 F.init.length d0, .slice P1 F.ths.length d1, .bool F.all, .slice P2 F.cond.length d2]) F from ⟨_, _, _, rfl, ((HM.out.below (HBW.out.mono hBB)).below (hX.mono hBWW)).more (Nat.le_trans hBWW hX.size)⟩)
  have HS := Lib.hid (fun X (hX : Below WW.heap.size WW X) => (show X.cell? ⟨w.heap.size, 0, none⟩ = some (.string ⟨F.name.toArray⟩) ∧ X.cell? ⟨w.heap.size, 1, none⟩ = some (.slice P0 F.init.length d0) ∧ X.cell? ⟨w.heap.size, 2, none⟩ = some (.slice P1 F.ths.length d1) ∧ X.cell? ⟨w.heap.size, 3, none⟩ = some (.bool F.all) ∧ X.cell? ⟨w.heap.size, 4, none⟩ = some (.slice P2 F.cond.length d2) from ⟨(HYW.out.below hX HYW.out.lt).cell 0 _ rfl, (HYW.out.below hX HYW.out.lt).cell 1 _ rfl, (HYW.out.below hX HYW.out.lt).cell 2 _ rfl, (HYW.out.below hX HYW.out.lt).cell 3 _ rfl, (HYW.out.below hX HYW.out.lt).cell 4 _ rfl⟩))
  have HW0 := Lib.hid (show 0 < WW.heap.size from Nat.lt_of_le_of_lt (Nat.zero_le _) HZW.out.lt)
  clear hown hall hba HLO hW1
  go_upto_region 2 with fail
  go_cut [7] (fun s7 wx => ∃ gq E A3 c3 A4 c4 A5 c5, s7 = .pointer (some ⟨gq, 0, none⟩) ∧ E = eraF F g ∧ WW.heap.size ≤ gq ∧ BoxC wx gq 30 #[.string ⟨E.name.toArray⟩, .slice A3 E.init.length c3, .slice A4 E.ths.length c4, .bool E.all, .slice A5 E.cond.length c5] ∧ (∀ W', Off (fun k => k = w.heap.size + 1) wx W' → FlV W'.heap.size W' (.agg #[.string ⟨E.name.toArray⟩, .slice A3 E.init.length c3, .slice A4 E.ths.length c4, .bool E.all, .slice A5 E.cond.length c5]) E) ∧ Below WW.heap.size WW wx)
  case first =>
    refine wp_region_held_drew (S := (fun w' => w'.cell? ⟨w.heap.size, 0, none⟩ = some (.string ⟨F.name.toArray⟩) ∧ w'.cell? ⟨w.heap.size, 1, none⟩ = some (.slice P0 F.init.length d0) ∧ w'.cell? ⟨w.heap.size, 2, none⟩ = some (.slice P1 F.ths.length d1) ∧ w'.cell? ⟨w.heap.size, 3, none⟩ = some (.bool F.all) ∧ w'.cell? ⟨w.heap.size, 4, none⟩ = some (.slice P2 F.cond.length d2))) (by kernel_rfl) (HS.out _ (below_drewN (Below.refl _ _) 1)) (fun hHeld => ?_)
    obtain ⟨X0, hX0⟩ : ∃ W, W = WW.drew := ⟨_, rfl⟩
    have HLX0 := Lib.hid (show Below WW.heap.size WW X0 from by rw [hX0]; exact below_drewN (Below.refl _ _) 1)
    rw [← hX0] at hHeld ⊢
    clear hX0
    refine wpAnyH_take (i := 0) (v := ?_) rfl (by kernel_rfl) (by kernel_rfl) (by kernel_rfl) (fun _ _ _ h => h) (Or.inl ⟨by rfl, ?_⟩) (by assumption) ?_
    rotate_left
    · intro w hSw; (try dsimp only at hSw); go_simp; (try with_reducible rfl)
    (try simp only [Act.put, List.getElem_toArray, List.getElem_cons_zero, List.getElem_cons_succ, Array.getInternal_eq_getElem, List.setIfInBounds_toArray, List.set_cons_zero, List.set_cons_succ])
    refine wpAnyH_take (i := 1) (v := ?_) rfl (by kernel_rfl) (by kernel_rfl) (by kernel_rfl) (fun _ _ _ h => h) (Or.inl ⟨by rfl, ?_⟩) (by assumption) ?_
    rotate_left
    · intro w hSw; (try dsimp only at hSw); go_simp; (try with_reducible rfl)
    (try simp only [Act.put, List.getElem_toArray, List.getElem_cons_zero, List.getElem_cons_succ, Array.getInternal_eq_getElem, List.setIfInBounds_toArray, List.set_cons_zero, List.set_cons_succ])
    refine wpAnyH_take (i := 2) (v := ?_) rfl (by kernel_rfl) (by kernel_rfl) (by kernel_rfl) (fun _ _ _ h => h) (Or.inl ⟨by rfl, ?_⟩) (by assumption) ?_
    rotate_left
    · intro w hSw; (try dsimp only at hSw); go_simp; (try with_reducible rfl)
    (try simp only [Act.put, List.getElem_toArray, List.getElem_cons_zero, List.getElem_cons_succ, Array.getInternal_eq_getElem, List.setIfInBounds_toArray, List.set_cons_zero, List.set_cons_succ])
    refine wpAnyH_take (i := 3) (v := ?_) rfl (by kernel_rfl) (by kernel_rfl) (by kernel_rfl) (fun _ _ _ h => h) (Or.inl ⟨by rfl, ?_⟩) (by assumption) ?_
    rotate_left
    · intro w hSw; (try dsimp only at hSw); go_simp; (try with_reducible rfl)
    (try simp only [Act.put, List.getElem_toArray, List.getElem_cons_zero, List.getElem_cons_succ, Array.getInternal_eq_getElem, List.setIfInBounds_toArray, List.set_cons_zero, List.set_cons_succ])
    refine wpAnyH_ready (rs := [4, 7]) (by kernel_rfl) (by simp) ?_
    refine AllReadyH.cons rfl (fun K hK => ?_) (AllReadyH.cons rfl (fun K hK => ?_) (AllReadyH.nil))
    · -- 4 first
      go_simp
      refine (callsIn_wide.1 (laidl_in Fence.wide 10 trivial trivial trivial trivial trivial trivial rfl (by omega) (g := g) X0 (HTH.out _ HLX0.out) (HGX.out _ HLX0.out) (Nat.le_refl _) HN0.out HLL.out HNG.out)).mono ?_
      rintro e wa ⟨bp, f, rfl, hbp1, hbp2, hmp, hf, hba⟩
      have HLwa := Lib.hid (chain HLX0.out hba)
      have HF := Lib.hid hf
      have HMP := Lib.hid (LookP.of hmp)
      clear hba hf hmp hbp1 hbp2
      refine hK.out _ _ (HS.out _ HLwa.out) (fun hHeld => ?_)
      clear hK K
      (try simp only [Act.put, List.getElem_toArray, List.getElem_cons_zero, List.getElem_cons_succ, Array.getInternal_eq_getElem, List.setIfInBounds_toArray, List.set_cons_zero, List.set_cons_succ])
      refine wpAnyH_ready (rs := [5, 7]) (by kernel_rfl) (by simp) ?_
      refine AllReadyH.cons rfl (fun K hK => ?_) (AllReadyH.cons rfl (fun K hK => ?_) (AllReadyH.nil))
      · -- 5 first
        go_simp
        refine (without_any wa (HTH.out _ HLwa.out) (Nat.le_refl _) HMP.out (Nat.lt_of_lt_of_le HW0.out HLwa.out.size) HN0.out HLL.out).mono ?_
        rintro e wb ⟨gb, vb, rfl, hob, hrb, hba⟩
        rw [rows_era HF.out] at hrb
        have HLwb := Lib.hid (chain HLwa.out hba)
        replace HMP := Lib.hid (HMP.out.below hba)
        have HOB := Lib.hid hob
        have HRB := Lib.hid hrb
        have hszb : w.heap.size + 1 < wa.heap.size := Nat.lt_of_lt_of_le HZW.out.lt HLwa.out.size
        have HBC := Lib.hid (Below.refl wb.heap.size wb)
        clear hba hob hrb HF HMP
        refine hK.out _ _ (HS.out _ HLwb.out) (fun hHeld => ?_)
        clear hK K
        (try simp only [Act.put, List.getElem_toArray, List.getElem_cons_zero, List.getElem_cons_succ, Array.getInternal_eq_getElem, List.setIfInBounds_toArray, List.set_cons_zero, List.set_cons_succ])
        refine wpAnyH_ready (rs := [6, 7]) (by kernel_rfl) (by simp) ?_
        refine AllReadyH.cons rfl (fun K hK => ?_) (AllReadyH.cons rfl (fun K hK => ?_) (AllReadyH.nil))
        · -- 6 first
          go_simp
          refine (having_any (H := fun k => k = w.heap.size + 1) (F := F) (ts := eras hasS g F.ths) wb (HFX.out _ HLwb.out) (ths_rows (own_below HOB.out HBC.out) (HRB.out.below HBC.out) (eras_len hasS g F.ths)) (Nat.le_refl _) (by rw [eras_len]; exact HN0.out) HN1.out HN2.out (fun k hk => by subst hk; exact Nat.lt_of_lt_of_le HZW.out.lt HLwb.out.size) (rows_off2 HOB.out HRB.out (eras_len hasS g F.ths) HBC.out (fun k hk => by subst hk; exact .inl hszb))).mono ?_
          rintro e wc ⟨uc, rfl, hfu, hba⟩
          have HLwc := Lib.hid (chain HLwb.out hba)
          have HFU := Lib.hid hfu
          clear hba hfu hszb
          refine hK.out _ _ (HS.out _ HLwc.out) (fun hHeld => ?_)
          clear hK K
          (try simp only [Act.put, List.getElem_toArray, List.getElem_cons_zero, List.getElem_cons_succ, Array.getInternal_eq_getElem, List.setIfInBounds_toArray, List.set_cons_zero, List.set_cons_succ])
          refine wpAnyH_ready (rs := [7]) (by kernel_rfl) (by simp) ?_
          refine AllReadyH.cons rfl (fun K hK => ?_) AllReadyH.nil
          go_simp
          refine hK.out _ _ (HS.out _ (below_al HLwc.out (.cells #[.string ⟨#[]⟩, .slice none 0 0, .slice none 0 0, .bool false, .slice none 0 0] 30))) (fun hHeld => ?_)
          clear hK K
          (try simp only [Act.put, List.getElem_toArray, List.getElem_cons_zero, List.getElem_cons_succ, Array.getInternal_eq_getElem, List.setIfInBounds_toArray, List.set_cons_zero, List.set_cons_succ])
          obtain ⟨gq, hgq⟩ : ∃ g, g = wc.heap.size := ⟨_, rfl⟩
          obtain ⟨xq, hxq⟩ : ∃ W, W = wc.alloc (.cells #[.string ⟨#[]⟩, .slice none 0 0, .slice none 0 0, .bool false, .slice none 0 0] 30) := ⟨_, rfl⟩
          have hba := Lib.hid (show Below wc.heap.size wc xq from by rw [hxq]; exact below_al (Below.refl _ _) _)
          have HLxq := Lib.hid (chain HLwc.out hba.out)
          have HQ := Lib.hid (show BoxC xq gq 30 #[.string ⟨#[]⟩, .slice none 0 0, .slice none 0 0, .bool false, .slice none 0 0] from by rw [hxq, hgq]; exact BoxC.new _ _ _)
          have HGQ := Lib.hid (show WW.heap.size ≤ gq from by rw [hgq]; exact HLwc.out.size)
          have HBQ := Lib.hid (show Below wc.heap.size wc xq from hba.out)
          have HGC := Lib.hid (show wc.heap.size ≤ gq from by rw [hgq]; exact Nat.le_refl _)
          rw [← hxq] at hHeld ⊢
          rw [← hgq]
          clear hxq hgq hba
          refine wpAnyH_ready (rs := [8]) (by kernel_rfl) (by simp) ?_
          refine AllReadyH.cons rfl (fun K hK => ?_) AllReadyH.nil
          obtain ⟨E, hE⟩ : ∃ E, E = withT F (eras hasS g F.ths) := ⟨_, rfl⟩
          rw [← hE] at HFU
          have HE := Lib.hid (show E = eraF F g from hE)
          clear hE
          obtain ⟨vi3, vt3, vc3, rfl, ⟨A3, c3, rfl, -⟩, ⟨A4, c4, rfl, -⟩, ⟨A5, c5, rfl, -⟩⟩ := HFU.out _ (Off.refl _ _)
          unfold flv
          have z0 := HQ.out.cell 0 _ rfl
          have z1 := HQ.out.cell 1 _ rfl
          have z2 := HQ.out.cell 2 _ rfl
          have z3 := HQ.out.cell 3 _ rfl
          have z4 := HQ.out.cell 4 _ rfl
          have g0 := HQ.out.frozen 0
          have g1 := HQ.out.frozen 1
          have g2 := HQ.out.frozen 2
          have g3 := HQ.out.frozen 3
          have g4 := HQ.out.frozen 4
          go_simp
          have HQ9 := Lib.hid (HQ.out.set5 (.string ⟨E.name.toArray⟩) (.slice A3 E.init.length c3) (.slice A4 E.ths.length c4) (.bool E.all) (.slice A5 E.cond.length c5))
          have HB9 := Lib.hid (below5 (g := gq) HLxq.out HGQ.out (.string ⟨E.name.toArray⟩) (.slice A3 E.init.length c3) (.slice A4 E.ths.length c4) (.bool E.all) (.slice A5 E.cond.length c5))
          have HO9 := Lib.hid (Off.new5 (H := fun k => k = w.heap.size + 1) (Off.below HBQ.out) (g := gq) HGC.out (.string ⟨E.name.toArray⟩) (.slice A3 E.init.length c3) (.slice A4 E.ths.length c4) (.bool E.all) (.slice A5 E.cond.length c5))
          have HF9 := Lib.hid (fun W' (hO : Off (fun k => k = w.heap.size + 1) _ W') => HFU.out W' (HO9.out.trans hO))
          refine hK.out _ _ (HS.out _ HB9.out) (fun hHeld => ?_)
          clear hK K
          (try simp only [Act.put, List.getElem_toArray, List.getElem_cons_zero, List.getElem_cons_succ, Array.getInternal_eq_getElem, List.setIfInBounds_toArray, List.set_cons_zero, List.set_cons_succ])
          clear z0 z1 z2 z3 z4 g0 g1 g2 g3 g4
          refine wpAnyH_done (by kernel_rfl) ?_ _
          clear hHeld
          go_wp2_with fail
          go_meet
          exact ⟨gq, E, A3, c3, A4, c4, A5, c5, rfl, HE.out, HGQ.out, HQ9.out, HF9.out, HB9.out⟩
        · -- 7 first
          go_simp
          refine hK.out _ _ (HS.out _ (below_al HLwb.out (.cells #[.string ⟨#[]⟩, .slice none 0 0, .slice none 0 0, .bool false, .slice none 0 0] 30))) (fun hHeld => ?_)
          clear hK K
          (try simp only [Act.put, List.getElem_toArray, List.getElem_cons_zero, List.getElem_cons_succ, Array.getInternal_eq_getElem, List.setIfInBounds_toArray, List.set_cons_zero, List.set_cons_succ])
          obtain ⟨gq, hgq⟩ : ∃ g, g = wb.heap.size := ⟨_, rfl⟩
          obtain ⟨xq, hxq⟩ : ∃ W, W = wb.alloc (.cells #[.string ⟨#[]⟩, .slice none 0 0, .slice none 0 0, .bool false, .slice none 0 0] 30) := ⟨_, rfl⟩
          have hba := Lib.hid (show Below wb.heap.size wb xq from by rw [hxq]; exact below_al (Below.refl _ _) _)
          have HLxq := Lib.hid (chain HLwb.out hba.out)
          replace HBC := Lib.hid (chain HBC.out hba.out)
          have HQ := Lib.hid (show BoxC xq gq 30 #[.string ⟨#[]⟩, .slice none 0 0, .slice none 0 0, .bool false, .slice none 0 0] from by rw [hxq, hgq]; exact BoxC.new _ _ _)
          have HGQ := Lib.hid (show WW.heap.size ≤ gq from by rw [hgq]; exact HLwb.out.size)
          have HGB := Lib.hid (show wb.heap.size ≤ gq from by rw [hgq]; exact Nat.le_refl _)
          rw [← hxq] at hHeld ⊢
          rw [← hgq]
          clear hxq hgq hba
          refine wpAnyH_ready (rs := [6]) (by kernel_rfl) (by simp) ?_
          refine AllReadyH.cons rfl (fun K hK => ?_) AllReadyH.nil
          go_simp
          refine (having_any (H := fun k => k = w.heap.size + 1 ∨ k = gq) (F := F) (ts := eras hasS g F.ths) xq (HFX.out _ HLxq.out) (ths_rows (own_below HOB.out HBC.out) (HRB.out.below HBC.out) (eras_len hasS g F.ths)) (Nat.le_refl _) (by rw [eras_len]; exact HN0.out) HN1.out HN2.out (fun k hk => by rcases hk with rfl | rfl; exact Nat.lt_of_lt_of_le HZW.out.lt HLxq.out.size; exact HQ.out.lt) (rows_off2 HOB.out HRB.out (eras_len hasS g F.ths) HBC.out (fun k hk => by rcases hk with rfl | rfl; exact .inl hszb; exact .inr HGB.out))).mono ?_
          rintro e wc ⟨uc, rfl, hfu, hba⟩
          have HLwc := Lib.hid (chain HLxq.out hba)
          replace HQ := Lib.hid (HQ.out.below hba HQ.out.lt)
          have HFU := Lib.hid hfu
          clear hba hfu hszb
          refine hK.out _ _ (HS.out _ HLwc.out) (fun hHeld => ?_)
          clear hK K
          (try simp only [Act.put, List.getElem_toArray, List.getElem_cons_zero, List.getElem_cons_succ, Array.getInternal_eq_getElem, List.setIfInBounds_toArray, List.set_cons_zero, List.set_cons_succ])
          refine wpAnyH_ready (rs := [8]) (by kernel_rfl) (by simp) ?_
          refine AllReadyH.cons rfl (fun K hK => ?_) AllReadyH.nil
          obtain ⟨E, hE⟩ : ∃ E, E = withT F (eras hasS g F.ths) := ⟨_, rfl⟩
          rw [← hE] at HFU
          have HE := Lib.hid (show E = eraF F g from hE)
          clear hE
          obtain ⟨vi3, vt3, vc3, rfl, ⟨A3, c3, rfl, -⟩, ⟨A4, c4, rfl, -⟩, ⟨A5, c5, rfl, -⟩⟩ := HFU.out _ (Off.refl _ _)
          unfold flv
          have z0 := HQ.out.cell 0 _ rfl
          have z1 := HQ.out.cell 1 _ rfl
          have z2 := HQ.out.cell 2 _ rfl
          have z3 := HQ.out.cell 3 _ rfl
          have z4 := HQ.out.cell 4 _ rfl
          have g0 := HQ.out.frozen 0
          have g1 := HQ.out.frozen 1
          have g2 := HQ.out.frozen 2
          have g3 := HQ.out.frozen 3
          have g4 := HQ.out.frozen 4
          go_simp
          have HQ9 := Lib.hid (HQ.out.set5 (.string ⟨E.name.toArray⟩) (.slice A3 E.init.length c3) (.slice A4 E.ths.length c4) (.bool E.all) (.slice A5 E.cond.length c5))
          have HB9 := Lib.hid (below5 (g := gq) HLwc.out HGQ.out (.string ⟨E.name.toArray⟩) (.slice A3 E.init.length c3) (.slice A4 E.ths.length c4) (.bool E.all) (.slice A5 E.cond.length c5))
          have HO9 := Lib.hid (Off.set5 (H := fun k => k = w.heap.size + 1 ∨ k = gq) (Off.refl _ wc) (g := gq) (.inr rfl) (.string ⟨E.name.toArray⟩) (.slice A3 E.init.length c3) (.slice A4 E.ths.length c4) (.bool E.all) (.slice A5 E.cond.length c5))
          have HF9 := Lib.hid (fun W' (hO : Off (fun k => k = w.heap.size + 1) _ W') => HFU.out W' (HO9.out.trans (hO.mono (fun k hk => .inl hk))))
          refine hK.out _ _ (HS.out _ HB9.out) (fun hHeld => ?_)
          clear hK K
          (try simp only [Act.put, List.getElem_toArray, List.getElem_cons_zero, List.getElem_cons_succ, Array.getInternal_eq_getElem, List.setIfInBounds_toArray, List.set_cons_zero, List.set_cons_succ])
          clear z0 z1 z2 z3 z4 g0 g1 g2 g3 g4
          refine wpAnyH_done (by kernel_rfl) ?_ _
          clear hHeld
          go_wp2_with fail
          go_meet
          exact ⟨gq, E, A3, c3, A4, c4, A5, c5, rfl, HE.out, HGQ.out, HQ9.out, HF9.out, HB9.out⟩
      · -- 7 first
        go_simp
        refine hK.out _ _ (HS.out _ (below_al HLwa.out (.cells #[.string ⟨#[]⟩, .slice none 0 0, .slice none 0 0, .bool false, .slice none 0 0] 30))) (fun hHeld => ?_)
        clear hK K
        (try simp only [Act.put, List.getElem_toArray, List.getElem_cons_zero, List.getElem_cons_succ, Array.getInternal_eq_getElem, List.setIfInBounds_toArray, List.set_cons_zero, List.set_cons_succ])
        obtain ⟨gq, hgq⟩ : ∃ g, g = wa.heap.size := ⟨_, rfl⟩
        obtain ⟨xq, hxq⟩ : ∃ W, W = wa.alloc (.cells #[.string ⟨#[]⟩, .slice none 0 0, .slice none 0 0, .bool false, .slice none 0 0] 30) := ⟨_, rfl⟩
        have hba := Lib.hid (show Below wa.heap.size wa xq from by rw [hxq]; exact below_al (Below.refl _ _) _)
        have HLxq := Lib.hid (chain HLwa.out hba.out)
        replace HMP := Lib.hid (HMP.out.below hba.out)
        have HQ := Lib.hid (show BoxC xq gq 30 #[.string ⟨#[]⟩, .slice none 0 0, .slice none 0 0, .bool false, .slice none 0 0] from by rw [hxq, hgq]; exact BoxC.new _ _ _)
        have HGQ := Lib.hid (show WW.heap.size ≤ gq from by rw [hgq]; exact HLwa.out.size)
        rw [← hxq] at hHeld ⊢
        rw [← hgq]
        clear hxq hgq hba
        refine wpAnyH_ready (rs := [5]) (by kernel_rfl) (by simp) ?_
        refine AllReadyH.cons rfl (fun K hK => ?_) AllReadyH.nil
        go_simp
        have HGB := Lib.hid (show gq < xq.heap.size from HQ.out.lt)
        refine (without_any xq (HTH.out _ HLxq.out) (Nat.le_refl _) HMP.out (Nat.lt_of_lt_of_le HW0.out HLxq.out.size) HN0.out HLL.out).mono ?_
        rintro e wb ⟨gb, vb, rfl, hob, hrb, hba⟩
        rw [rows_era HF.out] at hrb
        have HLwb := Lib.hid (chain HLxq.out hba)
        replace HQ := Lib.hid (HQ.out.below hba HQ.out.lt)
        replace HMP := Lib.hid (HMP.out.below hba)
        have HOB := Lib.hid hob
        have HRB := Lib.hid hrb
        have hszb : w.heap.size + 1 < xq.heap.size := Nat.lt_of_lt_of_le HZW.out.lt HLxq.out.size
        have HBC := Lib.hid (Below.refl wb.heap.size wb)
        clear hba hob hrb HF HMP
        refine hK.out _ _ (HS.out _ HLwb.out) (fun hHeld => ?_)
        clear hK K
        (try simp only [Act.put, List.getElem_toArray, List.getElem_cons_zero, List.getElem_cons_succ, Array.getInternal_eq_getElem, List.setIfInBounds_toArray, List.set_cons_zero, List.set_cons_succ])
        refine wpAnyH_ready (rs := [6]) (by kernel_rfl) (by simp) ?_
        refine AllReadyH.cons rfl (fun K hK => ?_) AllReadyH.nil
        go_simp
        refine (having_any (H := fun k => k = w.heap.size + 1 ∨ k = gq) (F := F) (ts := eras hasS g F.ths) wb (HFX.out _ HLwb.out) (ths_rows (own_below HOB.out HBC.out) (HRB.out.below HBC.out) (eras_len hasS g F.ths)) (Nat.le_refl _) (by rw [eras_len]; exact HN0.out) HN1.out HN2.out (fun k hk => by rcases hk with rfl | rfl; exact Nat.lt_of_lt_of_le HZW.out.lt HLwb.out.size; exact HQ.out.lt) (rows_off2 HOB.out HRB.out (eras_len hasS g F.ths) HBC.out (fun k hk => by rcases hk with rfl | rfl; exact .inl hszb; exact .inl HGB.out))).mono ?_
        rintro e wc ⟨uc, rfl, hfu, hba⟩
        have HLwc := Lib.hid (chain HLwb.out hba)
        replace HQ := Lib.hid (HQ.out.below hba HQ.out.lt)
        have HFU := Lib.hid hfu
        clear hba hfu hszb
        refine hK.out _ _ (HS.out _ HLwc.out) (fun hHeld => ?_)
        clear hK K
        (try simp only [Act.put, List.getElem_toArray, List.getElem_cons_zero, List.getElem_cons_succ, Array.getInternal_eq_getElem, List.setIfInBounds_toArray, List.set_cons_zero, List.set_cons_succ])
        refine wpAnyH_ready (rs := [8]) (by kernel_rfl) (by simp) ?_
        refine AllReadyH.cons rfl (fun K hK => ?_) AllReadyH.nil
        obtain ⟨E, hE⟩ : ∃ E, E = withT F (eras hasS g F.ths) := ⟨_, rfl⟩
        rw [← hE] at HFU
        have HE := Lib.hid (show E = eraF F g from hE)
        clear hE
        obtain ⟨vi3, vt3, vc3, rfl, ⟨A3, c3, rfl, -⟩, ⟨A4, c4, rfl, -⟩, ⟨A5, c5, rfl, -⟩⟩ := HFU.out _ (Off.refl _ _)
        unfold flv
        have z0 := HQ.out.cell 0 _ rfl
        have z1 := HQ.out.cell 1 _ rfl
        have z2 := HQ.out.cell 2 _ rfl
        have z3 := HQ.out.cell 3 _ rfl
        have z4 := HQ.out.cell 4 _ rfl
        have g0 := HQ.out.frozen 0
        have g1 := HQ.out.frozen 1
        have g2 := HQ.out.frozen 2
        have g3 := HQ.out.frozen 3
        have g4 := HQ.out.frozen 4
        go_simp
        have HQ9 := Lib.hid (HQ.out.set5 (.string ⟨E.name.toArray⟩) (.slice A3 E.init.length c3) (.slice A4 E.ths.length c4) (.bool E.all) (.slice A5 E.cond.length c5))
        have HB9 := Lib.hid (below5 (g := gq) HLwc.out HGQ.out (.string ⟨E.name.toArray⟩) (.slice A3 E.init.length c3) (.slice A4 E.ths.length c4) (.bool E.all) (.slice A5 E.cond.length c5))
        have HO9 := Lib.hid (Off.set5 (H := fun k => k = w.heap.size + 1 ∨ k = gq) (Off.refl _ wc) (g := gq) (.inr rfl) (.string ⟨E.name.toArray⟩) (.slice A3 E.init.length c3) (.slice A4 E.ths.length c4) (.bool E.all) (.slice A5 E.cond.length c5))
        have HF9 := Lib.hid (fun W' (hO : Off (fun k => k = w.heap.size + 1) _ W') => HFU.out W' (HO9.out.trans (hO.mono (fun k hk => .inl hk))))
        refine hK.out _ _ (HS.out _ HB9.out) (fun hHeld => ?_)
        clear hK K
        (try simp only [Act.put, List.getElem_toArray, List.getElem_cons_zero, List.getElem_cons_succ, Array.getInternal_eq_getElem, List.setIfInBounds_toArray, List.set_cons_zero, List.set_cons_succ])
        clear z0 z1 z2 z3 z4 g0 g1 g2 g3 g4
        refine wpAnyH_done (by kernel_rfl) ?_ _
        clear hHeld
        go_wp2_with fail
        go_meet
        exact ⟨gq, E, A3, c3, A4, c4, A5, c5, rfl, HE.out, HGQ.out, HQ9.out, HF9.out, HB9.out⟩
    · -- 7 first
      go_simp
      refine hK.out _ _ (HS.out _ (below_al HLX0.out (.cells #[.string ⟨#[]⟩, .slice none 0 0, .slice none 0 0, .bool false, .slice none 0 0] 30))) (fun hHeld => ?_)
      clear hK K
      (try simp only [Act.put, List.getElem_toArray, List.getElem_cons_zero, List.getElem_cons_succ, Array.getInternal_eq_getElem, List.setIfInBounds_toArray, List.set_cons_zero, List.set_cons_succ])
      obtain ⟨gq, hgq⟩ : ∃ g, g = X0.heap.size := ⟨_, rfl⟩
      obtain ⟨xq, hxq⟩ : ∃ W, W = X0.alloc (.cells #[.string ⟨#[]⟩, .slice none 0 0, .slice none 0 0, .bool false, .slice none 0 0] 30) := ⟨_, rfl⟩
      have hba := Lib.hid (show Below X0.heap.size X0 xq from by rw [hxq]; exact below_al (Below.refl _ _) _)
      have HLxq := Lib.hid (chain HLX0.out hba.out)
      have HQ := Lib.hid (show BoxC xq gq 30 #[.string ⟨#[]⟩, .slice none 0 0, .slice none 0 0, .bool false, .slice none 0 0] from by rw [hxq, hgq]; exact BoxC.new _ _ _)
      have HGQ := Lib.hid (show WW.heap.size ≤ gq from by rw [hgq]; exact HLX0.out.size)
      rw [← hxq] at hHeld ⊢
      rw [← hgq]
      clear hxq hgq hba
      refine wpAnyH_ready (rs := [4]) (by kernel_rfl) (by simp) ?_
      refine AllReadyH.cons rfl (fun K hK => ?_) AllReadyH.nil
      go_simp
      refine (callsIn_wide.1 (laidl_in Fence.wide 10 trivial trivial trivial trivial trivial trivial rfl (by omega) (g := g) xq (HTH.out _ HLxq.out) (HGX.out _ HLxq.out) (Nat.le_refl _) HN0.out HLL.out HNG.out)).mono ?_
      rintro e wa ⟨bp, f, rfl, hbp1, hbp2, hmp, hf, hba⟩
      have HLwa := Lib.hid (chain HLxq.out hba)
      replace HQ := Lib.hid (HQ.out.below hba HQ.out.lt)
      have HF := Lib.hid hf
      have HMP := Lib.hid (LookP.of hmp)
      clear hba hf hmp hbp1 hbp2
      refine hK.out _ _ (HS.out _ HLwa.out) (fun hHeld => ?_)
      clear hK K
      (try simp only [Act.put, List.getElem_toArray, List.getElem_cons_zero, List.getElem_cons_succ, Array.getInternal_eq_getElem, List.setIfInBounds_toArray, List.set_cons_zero, List.set_cons_succ])
      refine wpAnyH_ready (rs := [5]) (by kernel_rfl) (by simp) ?_
      refine AllReadyH.cons rfl (fun K hK => ?_) AllReadyH.nil
      go_simp
      have HGB := Lib.hid (show gq < wa.heap.size from HQ.out.lt)
      refine (without_any wa (HTH.out _ HLwa.out) (Nat.le_refl _) HMP.out (Nat.lt_of_lt_of_le HW0.out HLwa.out.size) HN0.out HLL.out).mono ?_
      rintro e wb ⟨gb, vb, rfl, hob, hrb, hba⟩
      rw [rows_era HF.out] at hrb
      have HLwb := Lib.hid (chain HLwa.out hba)
      replace HQ := Lib.hid (HQ.out.below hba HQ.out.lt)
      replace HMP := Lib.hid (HMP.out.below hba)
      have HOB := Lib.hid hob
      have HRB := Lib.hid hrb
      have hszb : w.heap.size + 1 < wa.heap.size := Nat.lt_of_lt_of_le HZW.out.lt HLwa.out.size
      have HBC := Lib.hid (Below.refl wb.heap.size wb)
      clear hba hob hrb HF HMP
      refine hK.out _ _ (HS.out _ HLwb.out) (fun hHeld => ?_)
      clear hK K
      (try simp only [Act.put, List.getElem_toArray, List.getElem_cons_zero, List.getElem_cons_succ, Array.getInternal_eq_getElem, List.setIfInBounds_toArray, List.set_cons_zero, List.set_cons_succ])
      refine wpAnyH_ready (rs := [6]) (by kernel_rfl) (by simp) ?_
      refine AllReadyH.cons rfl (fun K hK => ?_) AllReadyH.nil
      go_simp
      refine (having_any (H := fun k => k = w.heap.size + 1 ∨ k = gq) (F := F) (ts := eras hasS g F.ths) wb (HFX.out _ HLwb.out) (ths_rows (own_below HOB.out HBC.out) (HRB.out.below HBC.out) (eras_len hasS g F.ths)) (Nat.le_refl _) (by rw [eras_len]; exact HN0.out) HN1.out HN2.out (fun k hk => by rcases hk with rfl | rfl; exact Nat.lt_of_lt_of_le HZW.out.lt HLwb.out.size; exact HQ.out.lt) (rows_off2 HOB.out HRB.out (eras_len hasS g F.ths) HBC.out (fun k hk => by rcases hk with rfl | rfl; exact .inl hszb; exact .inl HGB.out))).mono ?_
      rintro e wc ⟨uc, rfl, hfu, hba⟩
      have HLwc := Lib.hid (chain HLwb.out hba)
      replace HQ := Lib.hid (HQ.out.below hba HQ.out.lt)
      have HFU := Lib.hid hfu
      clear hba hfu hszb
      refine hK.out _ _ (HS.out _ HLwc.out) (fun hHeld => ?_)
      clear hK K
      (try simp only [Act.put, List.getElem_toArray, List.getElem_cons_zero, List.getElem_cons_succ, Array.getInternal_eq_getElem, List.setIfInBounds_toArray, List.set_cons_zero, List.set_cons_succ])
      refine wpAnyH_ready (rs := [8]) (by kernel_rfl) (by simp) ?_
      refine AllReadyH.cons rfl (fun K hK => ?_) AllReadyH.nil
      obtain ⟨E, hE⟩ : ∃ E, E = withT F (eras hasS g F.ths) := ⟨_, rfl⟩
      rw [← hE] at HFU
      have HE := Lib.hid (show E = eraF F g from hE)
      clear hE
      obtain ⟨vi3, vt3, vc3, rfl, ⟨A3, c3, rfl, -⟩, ⟨A4, c4, rfl, -⟩, ⟨A5, c5, rfl, -⟩⟩ := HFU.out _ (Off.refl _ _)
      unfold flv
      have z0 := HQ.out.cell 0 _ rfl
      have z1 := HQ.out.cell 1 _ rfl
      have z2 := HQ.out.cell 2 _ rfl
      have z3 := HQ.out.cell 3 _ rfl
      have z4 := HQ.out.cell 4 _ rfl
      have g0 := HQ.out.frozen 0
      have g1 := HQ.out.frozen 1
      have g2 := HQ.out.frozen 2
      have g3 := HQ.out.frozen 3
      have g4 := HQ.out.frozen 4
      go_simp
      have HQ9 := Lib.hid (HQ.out.set5 (.string ⟨E.name.toArray⟩) (.slice A3 E.init.length c3) (.slice A4 E.ths.length c4) (.bool E.all) (.slice A5 E.cond.length c5))
      have HB9 := Lib.hid (below5 (g := gq) HLwc.out HGQ.out (.string ⟨E.name.toArray⟩) (.slice A3 E.init.length c3) (.slice A4 E.ths.length c4) (.bool E.all) (.slice A5 E.cond.length c5))
      have HO9 := Lib.hid (Off.set5 (H := fun k => k = w.heap.size + 1 ∨ k = gq) (Off.refl _ wc) (g := gq) (.inr rfl) (.string ⟨E.name.toArray⟩) (.slice A3 E.init.length c3) (.slice A4 E.ths.length c4) (.bool E.all) (.slice A5 E.cond.length c5))
      have HF9 := Lib.hid (fun W' (hO : Off (fun k => k = w.heap.size + 1) _ W') => HFU.out W' (HO9.out.trans (hO.mono (fun k hk => .inl hk))))
      refine hK.out _ _ (HS.out _ HB9.out) (fun hHeld => ?_)
      clear hK K
      (try simp only [Act.put, List.getElem_toArray, List.getElem_cons_zero, List.getElem_cons_succ, Array.getInternal_eq_getElem, List.setIfInBounds_toArray, List.set_cons_zero, List.set_cons_succ])
      clear z0 z1 z2 z3 z4 g0 g1 g2 g3 g4
      refine wpAnyH_done (by kernel_rfl) ?_ _
      clear hHeld
      go_wp2_with fail
      go_meet
      exact ⟨gq, E, A3, c3, A4, c4, A5, c5, rfl, HE.out, HGQ.out, HQ9.out, HF9.out, HB9.out⟩
  case rest =>
    obtain ⟨gq, E, A3, c3, A4, c4, A5, c5, rfl, hE, hgq, hQ, hF9, hBc⟩ := hcut
    have HE := Lib.hid hE
    have HQ := Lib.hid hQ
    have HF9 := Lib.hid hF9
    have HBc := Lib.hid hBc
    have HGQ := Lib.hid hgq
    have HEL := Lib.hid (show E.ths.length ≤ 1000000 ∧ (∀ ss ∈ E.ths, ss.length ≤ 1000000) ∧ E.init.length ≤ 1000000 ∧ E.cond.length ≤ 1000000 from by
      rw [hE]; exact ⟨by show (eras hasS g F.ths).length ≤ _; rw [eras_len]; exact HN0.out, eras_small g F.ths HLL.out, HN1.out, HN2.out⟩)
    have HFE := Lib.hid (fence_any (F := E) (g := g) (vg := .slice PG g.length cg) (v := .agg #[.string ⟨E.name.toArray⟩, .slice A3 E.init.length c3, .slice A4 E.ths.length c4, .bool E.all, .slice A5 E.cond.length c5]) wc (HF9.out _ (Off.refl _ _)) (HGX.out _ hBc) (Nat.le_refl _) HEL.out.1 HEL.out.2.1 HNG.out HEL.out.2.2.1 HEL.out.2.2.2)
    have y0 := hQ.cell 0 _ rfl
    have y1 := hQ.cell 1 _ rfl
    have y2 := hQ.cell 2 _ rfl
    have y3 := hQ.cell 3 _ rfl
    have y4 := hQ.cell 4 _ rfl
    clear hE hQ hF9 hBc hgq
    go_wp2_with fail
    refine HFE.out.mono ?_
    rintro e wd ⟨u3, rfl, hu3, hbd⟩
    have HBd := Lib.hid (HBc.out.trans (hbd.mono HBc.out.size))
    have HBd1 := Lib.hid hbd
    have HLO2 := Lib.hid (linesof_any (B := wd.heap.size) (F := fenF E g) wd hu3 (Nat.le_refl _) (by show (fzs hasS fenL g E.ths).length ≤ _; rw [fzs_len]; exact HEL.out.1))
    obtain ⟨vi4, vt4, vc4, rfl, ⟨A9, c9, rfl, -⟩, ⟨A10, c10, rfl, -⟩, ⟨A11, c11, rfl, -⟩⟩ := hu3
    unfold flv at HLO2 ⊢
    clear y0 y1 y2 y3 y4 hbd HFE
    go_wp2_with fail
    refine HLO2.out.mono ?_
    rintro e we ⟨gn, ve, rfl, hoe, hae, hbe⟩
    have HBe := Lib.hid (HBd.out.trans (hbe.mono HBd.out.size))
    have HBe1 := Lib.hid (chain HBd1.out hbe)
    have HEQ := Lib.hid (equalfunc_any (ts := fzs hasS fenL g E.ths) (us := F.ths) (B := we.heap.size) we (show Ths we.heap.size we (.slice (some ⟨gn, 0, none⟩) (fenF E g).ths.length (fenF E g).ths.length) (fzs hasS fenL g E.ths) from ths_of_own hoe (Nat.le_refl _) (fun j hj => by
      obtain ⟨u, h1, h2⟩ := hae j hj
      exact ⟨u, h1, (h2.below hbe).more hbe.size⟩)) (HTH.out _ HBe.out) (Nat.le_refl _))
    clear hoe hae hbe HLO2
    rw [show decide (fzs hasS fenL g E.ths = F.ths) = eraB F g by rw [HE.out]; rfl] at HEQ
    cases hbb : eraB F g
    · rw [hbb] at HEQ
      have HNB := Lib.hid hbb
      clear hbb
      go_wp2_with fail
      refine HEQ.out.mono ?_
      rintro e W4 ⟨rfl, hb4⟩
      have HC4 := Lib.hid (HBe.out.trans (hb4.mono HBe.out.size))
      clear hb4 HEQ
      go_upto_region 4 with fail
      refine wp_region_held_drew (S := (fun w' => w'.cell? ⟨w.heap.size, 0, none⟩ = some (.string ⟨F.name.toArray⟩) ∧ w'.cell? ⟨w.heap.size, 1, none⟩ = some (.slice P0 F.init.length d0) ∧ w'.cell? ⟨w.heap.size, 2, none⟩ = some (.slice P1 F.ths.length d1) ∧ w'.cell? ⟨w.heap.size, 3, none⟩ = some (.bool F.all) ∧ w'.cell? ⟨w.heap.size, 4, none⟩ = some (.slice P2 F.cond.length d2))) (by kernel_rfl) (HS.out _ (HC4.out.drew)) (fun hHeld => ?_)
      obtain ⟨X4, hX4⟩ : ∃ W, W = W4.drew := ⟨_, rfl⟩
      have HLX4 := Lib.hid (show Below W4.heap.size W4 X4 from by rw [hX4]; exact below_drewN (Below.refl _ _) 1)
      rw [← hX4] at hHeld ⊢
      clear hX4
      refine wpAnyH_take (i := 0) (v := ?_) rfl (by kernel_rfl) (by kernel_rfl) (by kernel_rfl) (fun _ _ _ h => h) (Or.inl ⟨by rfl, ?_⟩) (by assumption) ?_
      rotate_left
      · intro w hSw; (try dsimp only at hSw); go_simp; (try with_reducible rfl)
      (try simp only [Act.put, List.getElem_toArray, List.getElem_cons_zero, List.getElem_cons_succ, Array.getInternal_eq_getElem, List.setIfInBounds_toArray, List.set_cons_zero, List.set_cons_succ])
      refine wpAnyH_take (i := 1) (v := ?_) rfl (by kernel_rfl) (by kernel_rfl) (by kernel_rfl) (fun _ _ _ h => h) (Or.inl ⟨by rfl, ?_⟩) (by assumption) ?_
      rotate_left
      · intro w hSw; (try dsimp only at hSw); go_simp; (try with_reducible rfl)
      (try simp only [Act.put, List.getElem_toArray, List.getElem_cons_zero, List.getElem_cons_succ, Array.getInternal_eq_getElem, List.setIfInBounds_toArray, List.set_cons_zero, List.set_cons_succ])
      refine wpAnyH_ready (rs := [2]) (by kernel_rfl) (by simp) ?_
      refine AllReadyH.cons rfl (fun K hK => ?_) AllReadyH.nil
      go_simp
      refine (without_any X4 (HTH.out _ (HC4.out.trans (Below.mono HLX4.out HC4.out.size))) (Nat.le_refl _) (LookP.none X4) (Nat.lt_of_lt_of_le HW0.out (HC4.out.trans (Below.mono HLX4.out HC4.out.size)).size) HN0.out HLL.out).mono ?_
      rintro e wf ⟨gf, vf, rfl, hof, hrf, hba⟩
      rw [rows_non] at hrf
      have hszf : w.heap.size + 1 < X4.heap.size := Nat.lt_of_lt_of_le HZW.out.lt (HC4.out.trans (Below.mono HLX4.out HC4.out.size)).size
      have HLwf := Lib.hid (chain HLX4.out hba)
      have HOF := Lib.hid hof
      have HRF := Lib.hid hrf
      clear hba hof hrf
      have HCF := Lib.hid (HC4.out.trans (Below.mono HLwf.out HC4.out.size))
      refine hK.out _ _ (HS.out _ HCF.out) (fun hHeld => ?_)
      clear hK K
      (try simp only [Act.put, List.getElem_toArray, List.getElem_cons_zero, List.getElem_cons_succ, Array.getInternal_eq_getElem, List.setIfInBounds_toArray, List.set_cons_zero, List.set_cons_succ])
      refine wpAnyH_ready (rs := [3]) (by kernel_rfl) (by simp) ?_
      refine AllReadyH.cons rfl (fun K hK => ?_) AllReadyH.nil
      go_simp
      refine (having_any (H := fun k => k = w.heap.size + 1) (F := F) (ts := F.ths) wf (HFX.out _ HCF.out) (ths_rows HOF.out HRF.out rfl) (Nat.le_refl _) HN0.out HN1.out HN2.out (fun k hk => by subst hk; exact Nat.lt_of_lt_of_le HZW.out.lt HCF.out.size) (rows_off HOF.out HRF.out rfl (fun k hk => by subst hk; exact hszf))).mono ?_
      rintro e wg ⟨uc, rfl, hfu, hba⟩
      have HLwg := Lib.hid (chain HLwf.out hba)
      have HCG := Lib.hid (HC4.out.trans (Below.mono HLwg.out HC4.out.size))
      have HFU := Lib.hid hfu
      clear hba hfu hszf
      refine hK.out _ _ (HS.out _ HCG.out) (fun hHeld => ?_)
      clear hK K
      (try simp only [Act.put, List.getElem_toArray, List.getElem_cons_zero, List.getElem_cons_succ, Array.getInternal_eq_getElem, List.setIfInBounds_toArray, List.set_cons_zero, List.set_cons_succ])
      refine wpAnyH_ready (rs := [4]) (by kernel_rfl) (by simp) ?_
      refine AllReadyH.cons rfl (fun K hK => ?_) AllReadyH.nil
      obtain ⟨E2, hE2⟩ : ∃ E, E = withT F F.ths := ⟨_, rfl⟩
      rw [← hE2] at HFU
      have HE2 := Lib.hid (show E2 = F from hE2.trans (withT_same rfl))
      clear hE2
      obtain ⟨vi3, vt3, vc3, rfl, ⟨A6, c6, rfl, -⟩, ⟨A7, c7, rfl, -⟩, ⟨A8, c8, rfl, -⟩⟩ := HFU.out _ (Off.refl _ _)
      unfold flv
      have z0 := (HZW.out.below HCG.out HZW.out.lt).cell 0 _ rfl
      have z1 := (HZW.out.below HCG.out HZW.out.lt).cell 1 _ rfl
      have z2 := (HZW.out.below HCG.out HZW.out.lt).cell 2 _ rfl
      have z3 := (HZW.out.below HCG.out HZW.out.lt).cell 3 _ rfl
      have z4 := (HZW.out.below HCG.out HZW.out.lt).cell 4 _ rfl
      have g0 := (HZW.out.below HCG.out HZW.out.lt).frozen 0
      have g1 := (HZW.out.below HCG.out HZW.out.lt).frozen 1
      have g2 := (HZW.out.below HCG.out HZW.out.lt).frozen 2
      have g3 := (HZW.out.below HCG.out HZW.out.lt).frozen 3
      have g4 := (HZW.out.below HCG.out HZW.out.lt).frozen 4
      go_simp
      have HY9 := Lib.hid ((HYW.out.below HCG.out HYW.out.lt).other5 (g := w.heap.size + 1) (by omega) (.string ⟨E2.name.toArray⟩) (.slice A6 E2.init.length c6) (.slice A7 E2.ths.length c7) (.bool E2.all) (.slice A8 E2.cond.length c8))
      have HZ9 := Lib.hid ((HZW.out.below HCG.out HZW.out.lt).set5 (.string ⟨E2.name.toArray⟩) (.slice A6 E2.init.length c6) (.slice A7 E2.ths.length c7) (.bool E2.all) (.slice A8 E2.cond.length c8))
      have HB9 := Lib.hid (below5 (g := w.heap.size + 1) (chain HBW.out HCG.out) (by omega) (.string ⟨E2.name.toArray⟩) (.slice A6 E2.init.length c6) (.slice A7 E2.ths.length c7) (.bool E2.all) (.slice A8 E2.cond.length c8))
      have HF9 := Lib.hid (HFU.out _ (Off.set5 (H := fun k => k = w.heap.size + 1) (Off.refl _ wg) (g := w.heap.size + 1) rfl (.string ⟨E2.name.toArray⟩) (.slice A6 E2.init.length c6) (.slice A7 E2.ths.length c7) (.bool E2.all) (.slice A8 E2.cond.length c8)))
      refine hK.out _ _ ⟨HY9.out.cell 0 _ rfl, HY9.out.cell 1 _ rfl, HY9.out.cell 2 _ rfl, HY9.out.cell 3 _ rfl, HY9.out.cell 4 _ rfl⟩ (fun hHeld => ?_)
      clear hK K
      (try simp only [Act.put, List.getElem_toArray, List.getElem_cons_zero, List.getElem_cons_succ, Array.getInternal_eq_getElem, List.setIfInBounds_toArray, List.set_cons_zero, List.set_cons_succ])
      clear z0 z1 z2 z3 z4 g0 g1 g2 g3 g4
      refine wpAnyH_take (i := 5) (v := ?_) rfl (by kernel_rfl) (by kernel_rfl) (by kernel_rfl) (fun _ _ _ h => h) (Or.inl ⟨by rfl, ?_⟩) (by assumption) ?_
      rotate_left
      · intro w hSw; (try dsimp only at hSw); go_simp; (try with_reducible rfl)
      (try simp only [Act.put, List.getElem_toArray, List.getElem_cons_zero, List.getElem_cons_succ, Array.getInternal_eq_getElem, List.setIfInBounds_toArray, List.set_cons_zero, List.set_cons_succ])
      refine wpAnyH_done (by kernel_rfl) ?_ _
      have hz : Try.prog.cellsOf 30 = 5 := by kernel_rfl
      have e0 := HZ9.out.cell 0 _ rfl
      have e1 := HZ9.out.cell 1 _ rfl
      have e2 := HZ9.out.cell 2 _ rfl
      have e3 := HZ9.out.cell 3 _ rfl
      have e4 := HZ9.out.cell 4 _ rfl
      clear hHeld
      go_wp2_with fail
      refine bodyPost_ret (v := .tuple #[.agg #[.string ⟨E2.name.toArray⟩, .slice A6 E2.init.length c6, .slice A7 E2.ths.length c7, .bool E2.all, .slice A8 E2.cond.length c8], .bool false]) (by simp [results, Try.results15, go_sem, e0, e1, e2, e3, e4, hz]) rfl ?_
      exact ⟨_, by rw [HNB.out], by have := HF9.out; rw [HE2.out] at this ⊢; unfold eraR; rw [HNB.out]; exact this, HB9.out⟩
    · rw [hbb] at HEQ
      have HNB := Lib.hid hbb
      clear hbb
      go_wp2_with fail
      refine HEQ.out.mono ?_
      rintro e W4 ⟨rfl, hb4⟩
      have HC4 := Lib.hid (chain HBe1.out hb4)
      have HC5 := Lib.hid (HBe.out.trans (hb4.mono HBe.out.size))
      have hQ4 := HQ.out.below HC4.out HQ.out.lt
      have hZ4 := HZW.out.below HC5.out HZW.out.lt
      obtain rfl : E = eraF F g := HE.out
      have y0 := hQ4.cell 0 _ rfl
      have y1 := hQ4.cell 1 _ rfl
      have y2 := hQ4.cell 2 _ rfl
      have y3 := hQ4.cell 3 _ rfl
      have y4 := hQ4.cell 4 _ rfl
      have z0 := hZ4.cell 0 _ rfl
      have z1 := hZ4.cell 1 _ rfl
      have z2 := hZ4.cell 2 _ rfl
      have z3 := hZ4.cell 3 _ rfl
      have z4 := hZ4.cell 4 _ rfl
      have q0 := hZ4.frozen 0
      have q1 := hZ4.frozen 1
      have q2 := hZ4.frozen 2
      have q3 := hZ4.frozen 3
      have q4 := hZ4.frozen 4
      have HZ9 := Lib.hid (hZ4.set5 (.string ⟨(eraF F g).name.toArray⟩) (.slice A3 (eraF F g).init.length c3) (.slice A4 (eraF F g).ths.length c4) (.bool (eraF F g).all) (.slice A5 (eraF F g).cond.length c5))
      have HB9 := Lib.hid (below5 (g := w.heap.size + 1) (chain HBW.out HC5.out) (by omega) (.string ⟨(eraF F g).name.toArray⟩) (.slice A3 (eraF F g).init.length c3) (.slice A4 (eraF F g).ths.length c4) (.bool (eraF F g).all) (.slice A5 (eraF F g).cond.length c5))
      have HF10 := Lib.hid (HF9.out _ ((Off.below HC4.out).trans (Off.set5 (H := fun k => k = w.heap.size + 1) (Off.refl _ W4) (g := w.heap.size + 1) rfl (.string ⟨(eraF F g).name.toArray⟩) (.slice A3 (eraF F g).init.length c3) (.slice A4 (eraF F g).ths.length c4) (.bool (eraF F g).all) (.slice A5 (eraF F g).cond.length c5))))
      have hz : Try.prog.cellsOf 30 = 5 := by kernel_rfl
      have e0 := HZ9.out.cell 0 _ rfl
      have e1 := HZ9.out.cell 1 _ rfl
      have e2 := HZ9.out.cell 2 _ rfl
      have e3 := HZ9.out.cell 3 _ rfl
      have e4 := HZ9.out.cell 4 _ rfl
      clear hQ4 hZ4 HEQ
      go_wp2_with fail
      refine bodyPost_ret (v := .tuple #[.agg #[.string ⟨(eraF F g).name.toArray⟩, .slice A3 (eraF F g).init.length c3, .slice A4 (eraF F g).ths.length c4, .bool (eraF F g).all, .slice A5 (eraF F g).cond.length c5], .bool true]) (by simp [results, Try.results15, go_sem, e0, e1, e2, e3, e4, hz]) rfl ?_
      exact ⟨_, by rw [HNB.out], by have := HF10.out; unfold eraR; rw [HNB.out]; exact this, HB9.out⟩
end Go.Proofs.Ytaelfjphgdlbcaa
