/-
  THE DOCUMENT's Fence of layer 8.
-/
import Derived.Test.YtaelfjphgdlbcaaSBk
import Derived.Test.YtaelfjphgdlbcaaSDi
import Derived.Deep.RegionHeld3
import Derived.Deep.AppendLies
import Derived.Deep.DeepCutAuto
namespace Go.Proofs.Ytaelfjphgdlbcaa
open Go.RowKit
set_option linter.unusedVariables false
set_option linter.unusedSimpArgs false
open WordM (L)
open VM
open CodM (hasS)
open SlM

/-- Rows of lines of the call's own. -/
def LnsA (W : World) (base : Nat) (vs : List Value) (tss : List (List OpsM.Ln)) : Prop :=
  vs.length = tss.length ∧ ∀ j (hj : j < tss.length), ∃ u, vs[j]? = some u ∧ W.ownsRow base 60 5 u tss[j].length (lnsCs tss[j])
theorem LnsA.below {W W' : World} {base : Nat} {vs : List Value} {tss : List (List OpsM.Ln)} (h : LnsA W base vs tss) (hb : Below W.heap.size W W') : LnsA W' base vs tss := by
  refine ⟨h.1, fun j hj => ?_⟩
  obtain ⟨u, h1, h2⟩ := h.2 j hj
  exact ⟨u, h1, own_below h2 hb⟩
theorem LnsA.grown {W W' : World} {base b n : Nat} {T : TypeId} {v : Value} {vs xs : List Value} {tss : List (List OpsM.Ln)} (h : LnsA W base vs tss) (hT : 60 ≠ T) (ho : W.ownsRow b T 1 v n xs) (hg : W.grownBy W' v.ownBlock) : LnsA W' base vs tss := by
  refine ⟨h.1, fun j hj => ?_⟩
  obtain ⟨u, h1, h2⟩ := h.2 j hj
  exact ⟨u, h1, own_grown hT h2 ho hg⟩
theorem LnsA.snoc {W : World} {base : Nat} {vs : List Value} {tss : List (List OpsM.Ln)} {u : Value} {ss : List OpsM.Ln} (h : LnsA W base vs tss) (ho : W.ownsRow base 60 5 u ss.length (lnsCs ss)) : LnsA W base (vs ++ [u]) (tss ++ [ss]) := by
  refine ⟨by rw [List.length_append, List.length_append, h.1]; rfl, fun j hj => ?_⟩
  by_cases e : j < tss.length
  · obtain ⟨u', h1, h2⟩ := h.2 j e
    rw [List.getElem_append_left e]
    exact ⟨u', by rw [List.getElem?_append_left (by rw [h.1]; exact e)]; exact h1, h2⟩
  · have hj' : j = tss.length := by rw [List.length_append] at hj; simp at hj; omega
    subst hj'
    rw [List.getElem_append_right (Nat.le_refl _)]
    refine ⟨u, ?_, by simpa using ho⟩
    rw [List.getElem?_append_right (by rw [h.1]; exact Nat.le_refl _), h.1, Nat.sub_self]; rfl
theorem LnsA.set {W : World} {base b i : Nat} {vs : List Value} {tss : List (List OpsM.Ln)} (h : LnsA W base vs tss) (hb : b < base) (x : Value) : LnsA (W.setCell ⟨b, i, none⟩ x) base vs tss := by
  refine ⟨h.1, fun j hj => ?_⟩
  obtain ⟨u, h1, h2⟩ := h.2 j hj
  exact ⟨u, h1, own_st h2 hb x⟩
theorem LnsA.ths {W : World} {b1 base B : Nat} {T : TypeId} {v : Value} {vs : List Value} {tss : List (List OpsM.Ln)} (h : LnsA W base vs tss) (ho : W.ownsRow b1 T 1 v tss.length vs) (hB : W.heap.size ≤ B) : Ths B W v tss :=
  ths_of_own ho hB (fun j hj => by
    obtain ⟨u, h1, h2⟩ := h.2 j hj
    exact ⟨u, h1, lns_of_own h2 hB⟩)
theorem lnAt_fr {W W' : World} {b f : Nat} {s : OpsM.Ln} (hW : Below W.heap.size W W') (hb : b < W.heap.size) (h : LnAt W b f s) : LnAt W' b f s :=
  ⟨(hW.cell (p := ⟨b, f, none⟩) hb).trans h.1, (hW.cell (p := ⟨b, f + 1, none⟩) hb).trans h.2.1, (hW.cell (p := ⟨b, f + 2, none⟩) hb).trans h.2.2.1, (hW.cell (p := ⟨b, f + 3, none⟩) hb).trans h.2.2.2.1, (hW.cell (p := ⟨b, f + 4, none⟩) hb).trans h.2.2.2.2⟩
theorem ahl_le {ths : List (List OpsM.Ln)} (hll : ∀ ss ∈ ths, ss.length ≤ 1000000) : ∀ k, k ≤ ths.length → ahd hasS ths k ≤ k * 1000000
  | 0, _ => by rw [ahd_zero]; exact Nat.zero_le _
  | k + 1, h => by
    have h1 := ahl_le hll k (by omega)
    have h2 := hll _ (List.getElem_mem (show k < ths.length by omega))
    have h3 := pc_len hasS ths[k]
    rw [ahd_next hasS ths k (by omega)]; omega
set_option maxHeartbeats 8000000 in
set_option maxRecDepth 100000 in
theorem rfence_any {B : Nat} {v vg : Value} {F : Fl} {g : List Int} (w : World) (hv : FlV B w v F) (hg : Ints B w vg g) (hBB : B ≤ w.heap.size) (hs : SmallA F) :
    Calls Try.prog 26 #[v, vg] w fun e w' => ∃ u, e = .returned u ∧ FlV w'.heap.size w' u (fenF F g) ∧ Below w.heap.size w w' := by
  obtain ⟨vi, vt, vc, rfl, hm⟩ := hv
  have HHs := Lib.hid (fun n W (hW : Below w.heap.size w W) => rhas_any n W (hg.below (hW.mono hBB)) (Nat.le_trans hBB hW.size))
  have HMI := Lib.hid (fun W (hW : Below w.heap.size w W) => And.intro ((hm.1.below (hW.mono hBB)).more (Nat.le_trans hBB hW.size)) ((hm.2.2.below (hW.mono hBB)).more (Nat.le_trans hBB hW.size)))
  obtain ⟨AG, cg, rfl, -⟩ := hg
  obtain ⟨⟨A0, c0, rfl, -⟩, ⟨A2, c2, rfl, j1, j2, j3⟩, ⟨A1, c1, rfl, -⟩⟩ := hm
  unfold flv maxLen at *
  have HJ3 := Lib.hid j3
  have HS := Lib.hid hs
  have hl := hs.l
  have HAL := Lib.hid (ahl_le hs.s)
  clear j3 hs
  have HZ := Lib.hid (show Try.prog.cellsOf 30 = 5 by kernel_rfl)
  have HB1 := Lib.hid (below_al (Below.refl w.heap.size w) (.cells #[.string ⟨F.name.toArray⟩, .slice A0 F.init.length c0, .slice A2 F.ths.length c2, .bool F.all, .slice A1 F.cond.length c1] 30))
  have HBx := Lib.hid (BoxC.new w 30 #[.string ⟨F.name.toArray⟩, .slice A0 F.init.length c0, .slice A2 F.ths.length c2, .bool F.all, .slice A1 F.cond.length c1])
  go_enter Try.func26, Try.ntmps26
  go_upto_region 3 with fail
  obtain ⟨w3, hw3⟩ : ∃ W, W = ((w.alloc (.cells #[.string ⟨F.name.toArray⟩, .slice A0 F.init.length c0, .slice A2 F.ths.length c2, .bool F.all, .slice A1 F.cond.length c1] 30)).alloc (.cells #[.string ⟨#[]⟩, .slice none 0 0, .slice none 0 0, .bool false, .slice none 0 0] 30)).alloc (.cells #[.string ⟨F.name.toArray⟩, .slice A0 F.init.length c0, .slice none 0 0, .bool F.all, .slice A1 F.cond.length c1] 30) := ⟨_, rfl⟩
  have hsz3 : w3.heap.size = w.heap.size + 1 + 1 + 1 := by rw [hw3]; simp
  have HBF := Lib.hid (show BoxC w3 w.heap.size 30 #[.string ⟨F.name.toArray⟩, .slice A0 F.init.length c0, .slice A2 F.ths.length c2, .bool F.all, .slice A1 F.cond.length c1] from by rw [hw3]; exact (HBx.out.alloc _).alloc _)
  have HBR := Lib.hid (show BoxC w3 (w.heap.size + 1) 30 #[.string ⟨#[]⟩, .slice none 0 0, .slice none 0 0, .bool false, .slice none 0 0] from by
    rw [hw3]; have := (BoxC.new (w.alloc (.cells #[.string ⟨F.name.toArray⟩, .slice A0 F.init.length c0, .slice A2 F.ths.length c2, .bool F.all, .slice A1 F.cond.length c1] 30)) 30 #[.string ⟨#[]⟩, .slice none 0 0, .slice none 0 0, .bool false, .slice none 0 0]).alloc (.cells #[.string ⟨F.name.toArray⟩, .slice A0 F.init.length c0, .slice none 0 0, .bool F.all, .slice A1 F.cond.length c1] 30)
    rw [World.size_alloc] at this; exact this)
  have HBQ0 := Lib.hid (show BoxC w3 (w.heap.size + 1 + 1) 30 #[.string ⟨F.name.toArray⟩, .slice A0 F.init.length c0, .slice none 0 0, .bool F.all, .slice A1 F.cond.length c1] from by
    rw [hw3]; have := BoxC.new ((w.alloc (.cells #[.string ⟨F.name.toArray⟩, .slice A0 F.init.length c0, .slice A2 F.ths.length c2, .bool F.all, .slice A1 F.cond.length c1] 30)).alloc (.cells #[.string ⟨#[]⟩, .slice none 0 0, .slice none 0 0, .bool false, .slice none 0 0] 30)) 30 #[.string ⟨F.name.toArray⟩, .slice A0 F.init.length c0, .slice none 0 0, .bool F.all, .slice A1 F.cond.length c1]
    rw [World.size_alloc, World.size_alloc] at this; exact this)
  have HB3 := Lib.hid (show Below w.heap.size w w3 from by rw [hw3]; exact below_al (below_al (below_al (Below.refl _ _) _) _) _)
  rw [← hw3]
  clear hw3 HB1 HBx
  obtain ⟨gr, hgr⟩ : ∃ x, x = w.heap.size + 1 := ⟨_, rfl⟩
  obtain ⟨gq, hgq⟩ : ∃ x, x = w.heap.size + 1 + 1 := ⟨_, rfl⟩
  rw [← hgq] at HBQ0 ⊢
  rw [← hgr] at HBR ⊢
  have hq1 : w.heap.size < gq := by omega
  have hq2 : gr < gq := by omega
  have hq3 : gq < w3.heap.size := by omega
  have hq4 : w.heap.size ≤ gr := by omega
  have hq5 : w.heap.size ≠ gr := by omega
  clear hsz3 hgr hgq
  obtain ⟨i1', hi1', hz1, hz2, hz3⟩ := info_parts info_thr
  obtain ⟨i2', hi2', hx1, hx2, hx3⟩ := info_parts info_lne
  have HFL := Lib.hid (fzs_len hasS fenL g F.ths)
  have HMT := Lib.hid (fun (k : Nat) (h : k < F.ths.length) => show (fzs hasS fenL g F.ths).take (k + 1) = (fzs hasS fenL g F.ths).take k ++ [wthN (ch hasS F.ths g k) fenL F.ths[k] F.ths[k].length] from by
    rw [List.take_succ_eq_append_getElem (by rw [fzs_len]; exact h), fzs_at hasS fenL g F.ths h, wth_fz hasS fenL g F.ths h _ (Nat.le_refl _), List.take_length])
  have HTF := Lib.hid (show (fzs hasS fenL g F.ths).take F.ths.length = fzs hasS fenL g F.ths from List.take_of_length_le (by rw [fzs_len]; exact Nat.le_refl _))
  have HCH := Lib.hid (fun t k (ht : t < F.ths.length) (hk : k < F.ths[t].length) => show ch hasS F.ths g t k = (hasS F.ths[t][k] && has g ((sl hasS F.ths t k : Nat) : Int)) from by unfold ch; rw [isS_at hasS F.ths ht hk])
  have HSL := Lib.hid (fun t k (ht : t < F.ths.length) (hk : k < F.ths[t].length) => sl_next hasS F.ths ht hk)
  have HS0 := Lib.hid (fun t => sl_zero hasS F.ths t)
  have HSE := Lib.hid (fun t (ht : t < F.ths.length) => sl_end hasS F.ths ht)
  have HLL := Lib.hid HS.out.s
  go_wp2
  go_loopw [6, 7] (fun nv i wr => (∃ (k n : Nat) (vth : Value) (us : List Value), k ≤ F.ths.length ∧ i = .int .i64 k ∧ nv = .int .i64 n ∧ n = ahd hasS F.ths k ∧ n ≤ k * 1000000 ∧ BoxC wr gq 30 #[.string ⟨F.name.toArray⟩, .slice A0 F.init.length c0, vth, .bool F.all, .slice A1 F.cond.length c1] ∧ wr.ownsRow w3.heap.size 58 1 vth k us ∧ LnsA wr w3.heap.size us ((fzs hasS fenL g F.ths).take k) ∧ Below gq w3 wr)) (fun _ i _ => F.ths.length - (intOf i).toNat)
  case atStart => exact ⟨0, 0, .slice none 0 0, [], Nat.zero_le _, rfl, rfl, rfl, Nat.le_refl _, HBQ0.out, World.ownsRow_nil _ _ _ _, ⟨by simp, fun j hj => absurd hj (by simp)⟩, (Below.refl _ _)⟩
  case round =>
    obtain ⟨k, n, vth, us, hk, rfl, rfl, hn, hnk, hbq, hot, hst, hB6⟩ := hrel
    have HNN := Lib.hid hn
    have HBQ := Lib.hid hbq
    have HOT := Lib.hid hot
    have HST := Lib.hid hst
    have HB6 := Lib.hid hB6
    obtain ⟨Avt, cvt, rfl⟩ := own_slice hot
    have hsz6 := hB6.size
    have t2 := (HBF.out.below hB6 hq1).cell 2 _ rfl
    clear hn hbq hot hst hB6
    by_cases hlt : k < F.ths.length
    · obtain ⟨b1, f1, rfl, hb1, hcl⟩ := HJ3.out (by omega)
      obtain ⟨u, zw, hLw⟩ := hcl k hlt
      have hw6 := (HB3.out.trans (HB6.out.mono (by omega)))
      have z0 := (hw6.cell (p := ⟨b1, f1 + k, none⟩) (Nat.lt_of_lt_of_le hb1 hBB)).trans zw
      have hL := hLw.below (hw6.mono hBB)
      have hmt := HMT.out k hlt
      have hll := HLL.out _ (List.getElem_mem hlt)
      have HNX := Lib.hid (show ahd hasS F.ths (k + 1) = sl hasS F.ths k F.ths[k].length from (HSE.out k hlt).symm)
      have HCk := Lib.hid (fun q (hq : q < F.ths[k].length) => HCH.out k q hlt hq)
      have HSk := Lib.hid (fun q (hq : q < F.ths[k].length) => HSL.out k q hlt hq)
      have HSk0 := Lib.hid (show n = sl hasS F.ths k 0 from by rw [HS0.out, HNN.out])
      obtain ⟨ls, hx⟩ : ∃ x, x = F.ths[k] := ⟨_, rfl⟩
      rw [← hx] at hL hmt hll HNX HCk HSk
      generalize ch hasS F.ths g k = cf at *
      generalize sl hasS F.ths k = sf at *
      have HKS := Lib.hid (fun m (h : m < ls.length) => wthN_next cf fenL ls m h)
      have HKL := Lib.hid (fun m => wthN_len cf fenL ls m)
      have HK0 := Lib.hid (show wthN cf fenL ls 0 = [] from rfl)
      generalize wthN cf fenL ls = tk at *
      have HL := Lib.hid hL
      obtain ⟨A3, c3, rfl, e1, e2, e3⟩ := hL
      unfold maxLen at e2
      have HMK := Lib.hid hmt
      have HE3 := Lib.hid e3
      have HPZ := Lib.hid (fun W (hW : Below gq w3 W) => And.intro ((HBF.out.below hW hq1).cell 2 _ rfl) (((HB3.out.trans (hW.mono (by omega))).cell (p := ⟨b1, f1 + k, none⟩) (Nat.lt_of_lt_of_le hb1 hBB)).trans zw))
      rename World => w6
      have HPX := Lib.hid (fun W (hW : Below w6.heap.size w6 W) => And.intro (kc hW t2) (kc hW z0))
      have hwsz : w.heap.size ≤ w6.heap.size := hw6.size
      clear hx hmt hLw zw hcl e3 hw6
      go_wp2
      clear t2 z0
      go_loopw [6, 8, 9] (fun nv v i wq => (∃ (q n' m : Nat), q ≤ ls.length ∧ i = .int .i64 q ∧ nv = .int .i64 n' ∧ n' = sf q ∧ n' ≤ n + q ∧ m = (tk q).length ∧ m ≤ q * 2 ∧ wq.ownsRow w6.heap.size 60 5 v m (lnsCs (tk q)) ∧ Below w6.heap.size w6 wq)) (fun _ _ i _ => ls.length - (intOf i).toNat)
      case atStart => exact ⟨0, n, 0, Nat.zero_le _, rfl, rfl, HSk0.out, Nat.le_refl _, by rw [HK0.out]; rfl, Nat.le_refl _, by rw [HK0.out]; exact World.ownsRow_nil _ _ _ _, Below.refl _ _⟩
      case round =>
        obtain ⟨q, n', m, hq, rfl, rfl, hn', hnq, hm, hm2, how, hBQ⟩ := hrel
        have HNq := Lib.hid hn'
        have HMm := Lib.hid hm
        obtain ⟨Au, cu, rfl⟩ := own_slice how
        obtain ⟨t2, z0⟩ := HPX.out _ hBQ
        have HOW := Lib.hid how
        have HBQq := Lib.hid hBQ
        have hszq := hBQ.size
        clear hn' hm how hBQ
        by_cases hlq : q < ls.length
        · obtain ⟨b3, f3, rfl, hb3, hc3⟩ := HE3.out (by omega)
          have HSC := Lib.hid (lnAt_fr HBQq.out (by omega) (hc3 q hlq))
          have hks := HKS.out q hlq
          have hck := HCk.out q hlq
          have hsk := HSk.out q hlq
          obtain ⟨x, hx⟩ : ∃ x, x = ls[q] := ⟨_, rfl⟩
          rw [← hx] at hks hck hsk
          simp only [← hx] at HSC
          rw [← HNq.out] at hck hsk
          have HKq := Lib.hid hks
          have HCq := Lib.hid hck
          have HSq := Lib.hid hsk
          obtain ⟨x0, x1, x2, x3, x4⟩ := HSC.out
          have HB8 := Lib.hid (below_al HBQq.out (.cells #[.int .i64 x.op, .string ⟨x.reg.toArray⟩, .string ⟨x.loc.toArray⟩, .string ⟨x.label.toArray⟩, .int .i64 x.n] 60))
          have HX8 := Lib.hid (BoxC.new wr 60 #[.int .i64 x.op, .string ⟨x.reg.toArray⟩, .string ⟨x.loc.toArray⟩, .string ⟨x.label.toArray⟩, .int .i64 x.n])
          have HO8 := Lib.hid (HOW.out.alloc (.cells #[.int .i64 x.op, .string ⟨x.reg.toArray⟩, .string ⟨x.loc.toArray⟩, .string ⟨x.label.toArray⟩, .int .i64 x.n] 60))
          clear hks hck hsk hx hc3
          go_upto_region 12 with fail
          generalize wr.alloc (.cells #[.int .i64 x.op, .string ⟨x.reg.toArray⟩, .string ⟨x.loc.toArray⟩, .string ⟨x.label.toArray⟩, .int .i64 x.n] 60) = W8 at *
          obtain ⟨g8, hg8⟩ : ∃ y, y = wr.heap.size := ⟨_, rfl⟩
          rw [← hg8] at HX8 ⊢
          have HG8 := Lib.hid (show w6.heap.size ≤ g8 by omega)
          have hsz8 := HB8.out.size
          have hOg := Lib.hid (fun (c : (Value.slice Au m cu).ownBlock = some g8) => show False from by have := (HOW.out.lt _ c).2; omega)
          clear hg8 x0 x1 x2 x3 x4 t2 z0 HSC
          have y0 := HX8.out.cell 0 _ rfl
          have y1 := HX8.out.cell 1 _ rfl
          have y2 := HX8.out.cell 2 _ rfl
          have y3 := HX8.out.cell 3 _ rfl
          have y4 := HX8.out.cell 4 _ rfl
          by_cases ho : x.op = 11
          · have q12 : (x.op != 11) = false := by simp [ho]
            have hsx : hasS x = false := by unfold CodM.hasS; simp [ho]
            have HE := Lib.hid (show tk (q + 1) = tk q ++ [x] from by rw [HKq.out, HCq.out, hsx]; rfl)
            have HSN := Lib.hid (show n' = sf (q + 1) from by rw [HSq.out, hsx]; rfl)
            clear ho hsx HKq HCq HSq
            go_upto_region 16 with fail
            have HV2 := Lib.hid (HO8.out.alloc (.cells #[.int .i64 x.op, .string ⟨x.reg.toArray⟩, .string ⟨x.loc.toArray⟩, .string ⟨x.label.toArray⟩, .int .i64 x.n] 60))
            have HN2 := Lib.hid (World.news_of_block (heap_alloc_new W8 (.cells #[.int .i64 x.op, .string ⟨x.reg.toArray⟩, .string ⟨x.loc.toArray⟩, .string ⟨x.label.toArray⟩, .int .i64 x.n] 60)))
            go_wp2_with (at_builtin; refine wpList_append_own _ rfl _ _ 56 rfl w6.heap.size 60 i2' _ 5 64 Try.underlying56 hi2' hx1 hx2 hx3 rfl (by decide) (.slice Au (m) cu) (m) (lnsCs (tk q)) rfl HV2.out ⟨W8.heap.size, 0, none⟩ 1 1 [.int .i64 x.op, .string ⟨x.reg.toArray⟩, .string ⟨x.loc.toArray⟩, .string ⟨x.label.toArray⟩, .int .i64 x.n] rfl rfl HN2.out (by simp [Value.oneCell']) (by unfold maxLen; omega) (by omega) (by simp; omega) ?_; intro v2 wy hown3 hg3 _)
            have hBy := below_append (below_al HB8.out (.cells #[.int .i64 x.op, .string ⟨x.reg.toArray⟩, .string ⟨x.loc.toArray⟩, .string ⟨x.label.toArray⟩, .int .i64 x.n] 60)) HV2.out (Nat.le_refl _) (by simp; omega) hg3
            go_roundw
            case rel => exact ⟨q + 1, n', m + 1, by omega, by go_num, by go_num, HSN.out, by omega, by rw [HE.out, List.length_append, ← HMm.out]; rfl, by omega, by rw [HE.out, lnsCs_app]; exact hown3, hBy⟩
            case measure => simp [intOf]; omega
          · have q12 : (x.op != 11) = true := by simpa using ho
            have hsx : hasS x = true := by unfold CodM.hasS; simp [ho]
            have HSN := Lib.hid (show n' + 1 = sf (q + 1) from by rw [HSq.out, hsx]; rfl)
            have HCb := Lib.hid (show cf q = has g (n' : Int) from by rw [HCq.out, hsx]; rfl)
            clear ho hsx HSq HCq
            go_wp2_with fail
            refine (HHs.out (n' : Int) _ (HB3.out.trans ((HB6.out.trans (HB8.out.mono (by omega))).mono (by omega)))).mono ?_
            rintro e w7 ⟨rfl, rfl⟩
            rw [← HCb.out]
            cases hcq : cf q
            case false =>
              have HE := Lib.hid (show tk (q + 1) = tk q ++ [x] from by rw [HKq.out, hcq]; rfl)
              clear hcq HKq HCb
              go_upto_region 16 with fail
              have HV2 := Lib.hid (HO8.out.alloc (.cells #[.int .i64 x.op, .string ⟨x.reg.toArray⟩, .string ⟨x.loc.toArray⟩, .string ⟨x.label.toArray⟩, .int .i64 x.n] 60))
              have HN2 := Lib.hid (World.news_of_block (heap_alloc_new W8 (.cells #[.int .i64 x.op, .string ⟨x.reg.toArray⟩, .string ⟨x.loc.toArray⟩, .string ⟨x.label.toArray⟩, .int .i64 x.n] 60)))
              go_wp2_with (at_builtin; refine wpList_append_own _ rfl _ _ 56 rfl w6.heap.size 60 i2' _ 5 64 Try.underlying56 hi2' hx1 hx2 hx3 rfl (by decide) (.slice Au (m) cu) (m) (lnsCs (tk q)) rfl HV2.out ⟨W8.heap.size, 0, none⟩ 1 1 [.int .i64 x.op, .string ⟨x.reg.toArray⟩, .string ⟨x.loc.toArray⟩, .string ⟨x.label.toArray⟩, .int .i64 x.n] rfl rfl HN2.out (by simp [Value.oneCell']) (by unfold maxLen; omega) (by omega) (by simp; omega) ?_; intro v2 wy hown3 hg3 _)
              have hBy := below_append (below_al HB8.out (.cells #[.int .i64 x.op, .string ⟨x.reg.toArray⟩, .string ⟨x.loc.toArray⟩, .string ⟨x.label.toArray⟩, .int .i64 x.n] 60)) HV2.out (Nat.le_refl _) (by simp; omega) hg3
              go_roundw
              case rel => exact ⟨q + 1, n' + 1, m + 1, by omega, by go_num, by go_num, HSN.out, by omega, by rw [HE.out, List.length_append, ← HMm.out]; rfl, by omega, by rw [HE.out, lnsCs_app]; exact hown3, hBy⟩
              case measure => simp [intOf]; omega
            case true =>
              have HE := Lib.hid (show tk (q + 1) = (tk q ++ [fenL]) ++ [x] from by rw [HKq.out, hcq, List.append_assoc]; rfl)
              have HVC := Lib.hid (HO8.out.alloc (.cells #[.int .i64 6, .string ⟨#[]⟩, .string ⟨#[]⟩, .string ⟨#[]⟩, .int .i64 0] 60))
              have HNW := Lib.hid (World.news_of_block (heap_alloc_new W8 (.cells #[.int .i64 6, .string ⟨#[]⟩, .string ⟨#[]⟩, .string ⟨#[]⟩, .int .i64 0] 60)))
              clear hcq HKq HCb
              go_upto_region 15 with (at_builtin; refine wpList_append_own _ rfl _ _ 56 rfl w6.heap.size 60 i2' _ 5 64 Try.underlying56 hi2' hx1 hx2 hx3 rfl (by decide) (.slice Au m cu) m (lnsCs (tk q)) rfl HVC.out ⟨W8.heap.size, 0, none⟩ 1 1 [.int .i64 6, .string ⟨#[]⟩, .string ⟨#[]⟩, .string ⟨#[]⟩, .int .i64 0] rfl rfl HNW.out (by simp [Value.oneCell']) (by unfold maxLen; omega) (by omega) (by simp; omega) ?_; intro v1 wz hown1 hg1 _)
              obtain ⟨Av, cv, rfl⟩ := own_slice hown1
              have hown2 : wz.ownsRow w6.heap.size 60 5 (.slice Av (m + 1) cv) (m + 1) (lnsCs (tk q ++ [fenL])) := by rw [lnsCs_app]; exact hown1
              have HBZ := Lib.hid (below_append (below_al HB8.out (.cells #[.int .i64 6, .string ⟨#[]⟩, .string ⟨#[]⟩, .string ⟨#[]⟩, .int .i64 0] 60)) HVC.out (Nat.le_refl _) (by simp; omega) hg1)
              have HXZ := Lib.hid (show BoxC wz g8 60 #[.int .i64 x.op, .string ⟨x.reg.toArray⟩, .string ⟨x.loc.toArray⟩, .string ⟨x.label.toArray⟩, .int .i64 x.n] from (HX8.out.alloc _).kept hg1 (fun c => hOg.out c))
              have HOZ := Lib.hid hown2
              have hszz := HBZ.out.size
              clear hown1 hown2 hg1 HVC HNW y0 y1 y2 y3 y4
              have y0 := HXZ.out.cell 0 _ rfl
              have y1 := HXZ.out.cell 1 _ rfl
              have y2 := HXZ.out.cell 2 _ rfl
              have y3 := HXZ.out.cell 3 _ rfl
              have y4 := HXZ.out.cell 4 _ rfl
              go_upto_region 16 with fail
              have HV2 := Lib.hid (HOZ.out.alloc (.cells #[.int .i64 x.op, .string ⟨x.reg.toArray⟩, .string ⟨x.loc.toArray⟩, .string ⟨x.label.toArray⟩, .int .i64 x.n] 60))
              have HN2 := Lib.hid (World.news_of_block (heap_alloc_new wz (.cells #[.int .i64 x.op, .string ⟨x.reg.toArray⟩, .string ⟨x.loc.toArray⟩, .string ⟨x.label.toArray⟩, .int .i64 x.n] 60)))
              go_wp2_with (at_builtin; refine wpList_append_own _ rfl _ _ 56 rfl w6.heap.size 60 i2' _ 5 64 Try.underlying56 hi2' hx1 hx2 hx3 rfl (by decide) (.slice Av (m + 1) cv) (m + 1) (lnsCs (tk q ++ [fenL])) rfl HV2.out ⟨wz.heap.size, 0, none⟩ 1 1 [.int .i64 x.op, .string ⟨x.reg.toArray⟩, .string ⟨x.loc.toArray⟩, .string ⟨x.label.toArray⟩, .int .i64 x.n] rfl rfl HN2.out (by simp [Value.oneCell']) (by unfold maxLen; omega) (by omega) (by simp; omega) ?_; intro v2 wy hown3 hg3 _)
              have hBy := below_append (below_al HBZ.out (.cells #[.int .i64 x.op, .string ⟨x.reg.toArray⟩, .string ⟨x.loc.toArray⟩, .string ⟨x.label.toArray⟩, .int .i64 x.n] 60)) HV2.out (Nat.le_refl _) (by simp; omega) hg3
              go_roundw
              case rel => exact ⟨q + 1, n' + 1, m + 1 + 1, by omega, by go_num, by go_num, HSN.out, by omega, by rw [HE.out, List.length_append, List.length_append, ← HMm.out]; rfl, by omega, by rw [HE.out, lnsCs_app]; exact hown3, hBy⟩
              case measure => simp [intOf]; omega
        · obtain rfl : ls.length = q := by omega
          obtain rfl : m = (tk ls.length).length := HMm.out
          have how := HOW.out
          have hot1 := own_below HOT.out HBQq.out
          have hst1 := HST.out.below HBQq.out
          have hbq1 := HBQ.out.below HBQq.out HBQ.out.lt
          have hB7 := HB6.out.trans (HBQq.out.mono (show gq ≤ w6.heap.size by omega))
          have hb8 := below_al (Below.refl wr.heap.size wr) (.cells #[.slice Au (tk ls.length).length cu] 58)
          have HO8 := Lib.hid (own_below how hb8)
          have HS8 := Lib.hid (hst1.below hb8)
          have HT8 := Lib.hid (own_below hot1 hb8)
          have HQ8 := Lib.hid (hbq1.below hb8 hbq1.lt)
          have HB8 := Lib.hid (hB7.trans (hb8.mono (show gq ≤ wr.heap.size by omega)))
          have hle8 : w3.heap.size ≤ (wr.alloc (.cells #[.slice Au (tk ls.length).length cu] 58)).heap.size := HB8.out.size
          have HNE := Lib.hid (show n' = ahd hasS F.ths (k + 1) from by rw [HNX.out]; exact HNq.out)
          have HQC := Lib.hid (hbq1.cell 2 _ rfl)
          have hltq := hbq1.lt
          have hlt8 : gq < wr.heap.size := by omega
          have qc := HQC.out
          have HSZ := Lib.hid hb8.size
          clear how hot1 hst1 hbq1 hB7 hb8 HST HKS HKL HOW hq hm2 hlq HCk HSk HK0 HE3
          go_wp2_with (at_builtin; refine wpList_append_own _ rfl _ _ 27 rfl w3.heap.size 58 i1' (.agg #[.slice none 0 0]) 1 24 Try.underlying27 hi1' hz1 hz2 hz3 rfl (by decide) _ _ _ rfl HT8.out ⟨wr.heap.size, 0, none⟩ 1 1 [.slice Au (tk ls.length).length cu] rfl rfl (cell_one_new _ _ _) (by simp [Value.oneCell']) (by unfold maxLen; omega) (by omega) hle8 ?_; intro v1 wz hown1 hg1 _; obtain ⟨Av, cv, rfl⟩ := own_slice hown1; have hqz := HQ8.out.kept hg1 (fun c => by have := (HT8.out.lt _ c).1; omega); have zc := hqz.cell 2 _ rfl; have zf := hqz.frozen 2)
          have hB9 := below_append HB8.out HT8.out (by omega) (show gq ≤ (wr.alloc (.cells #[.slice Au (tk ls.length).length cu] 58)).heap.size by omega) hg1
          have hO9 := own_grown (by decide) HO8.out HT8.out hg1
          have hS9 := (HS8.out.grown (by decide) HT8.out hg1).snoc (own_base hO9 (by omega))
          go_roundw
          case rel =>
            exact ⟨k + 1, n', _, _, by omega, by go_num, rfl, HNE.out, by omega, hqz.set 2 (.slice Av (k + 1) cv), own_st (b := gq) (i := 2) hown1 hq3 _, by rw [HMK.out]; exact hS9.set (b := gq) (i := 2) hq3 _, hB9.setCell (p := ⟨gq, 2, none⟩) (by show gq ≤ gq; omega) _⟩
          case measure => simp [intOf]; omega
    · obtain rfl : F.ths.length = k := by omega
      have HST' := HST.out
      rw [HTF.out] at HST'
      have hrb := HBR.out.below HB6.out hq2
      have y0 := HBQ.out.cell 0 _ rfl
      have y1 := HBQ.out.cell 1 _ rfl
      have y2 := HBQ.out.cell 2 _ rfl
      have y3 := HBQ.out.cell 3 _ rfl
      have y4 := HBQ.out.cell 4 _ rfl
      have z0 := hrb.cell 0 _ rfl
      have z1 := hrb.cell 1 _ rfl
      have z2 := hrb.cell 2 _ rfl
      have z3 := hrb.cell 3 _ rfl
      have z4 := hrb.cell 4 _ rfl
      have g0 := hrb.frozen 0
      have g1 := hrb.frozen 1
      have g2 := hrb.frozen 2
      have g3 := hrb.frozen 3
      have g4 := hrb.frozen 4
      have HRX := Lib.hid (hrb.set5 (.string ⟨F.name.toArray⟩) (.slice A0 F.init.length c0) (.slice Avt F.ths.length cvt) (.bool F.all) (.slice A1 F.cond.length c1))
      have hbw := HB3.out.trans (HB6.out.mono (show w.heap.size ≤ gq by omega))
      have HBW := Lib.hid (below5 (g := gr) hbw hq4 (.string ⟨F.name.toArray⟩) (.slice A0 F.init.length c0) (.slice Avt F.ths.length cvt) (.bool F.all) (.slice A1 F.cond.length c1))
      have hgr3 : gr < w3.heap.size := by omega
      have hot2 : wr.ownsRow w3.heap.size 58 1 (.slice Avt F.ths.length cvt) (fzs hasS fenL g F.ths).length us := by rw [HFL.out]; exact HOT.out
      have HTH := Lib.hid (((((HST'.set (b := gr) (i := 0) hgr3 (.string ⟨F.name.toArray⟩)).set (b := gr) (i := 1) hgr3 (.slice A0 F.init.length c0)).set (b := gr) (i := 2) hgr3 (.slice Avt F.ths.length cvt)).set (b := gr) (i := 3) hgr3 (.bool F.all)).set (b := gr) (i := 4) hgr3 (.slice A1 F.cond.length c1) |>.ths (own_st (b := gr) (i := 4) (own_st (b := gr) (i := 3) (own_st (b := gr) (i := 2) (own_st (b := gr) (i := 1) (own_st (b := gr) (i := 0) hot2 hgr3 (.string ⟨F.name.toArray⟩)) hgr3 (.slice A0 F.init.length c0)) hgr3 (.slice Avt F.ths.length cvt)) hgr3 (.bool F.all)) hgr3 (.slice A1 F.cond.length c1)) (Nat.le_refl _))
      rw [HFL.out] at hot2
      have hz := HZ.out
      have r0 := HRX.out.cell 0 _ rfl
      have r1 := HRX.out.cell 1 _ rfl
      have r2 := HRX.out.cell 2 _ rfl
      have r3 := HRX.out.cell 3 _ rfl
      have r4 := HRX.out.cell 4 _ rfl
      clear HST' hrb hbw hot2
      go_wp2
      refine bodyPost_ret (v := .agg #[.string ⟨F.name.toArray⟩, .slice A0 F.init.length c0, .slice Avt F.ths.length cvt, .bool F.all, .slice A1 F.cond.length c1]) (by simp [results, Try.results26, go_sem, r0, r1, r2, r3, r4, hz]) rfl ⟨_, rfl, ⟨_, _, _, rfl, (HMI.out _ HBW.out).1, HTH.out, (HMI.out _ HBW.out).2⟩, HBW.out⟩
end Go.Proofs.Ytaelfjphgdlbcaa
