/-
  LAYER 16: the walk of ExplAlone.
-/
import Derived.Test.YtbffjhdocicfoaaEh0
import Derived.Test.YtbffjhdocicfoaaRuU
namespace Go.Proofs.Ytbffjhdocicfoaa
open Go.RowKit Go.WideMaps
set_option linter.unusedVariables false
set_option linter.unusedSimpArgs false
open CodM (St Pg rightP hReg hLoc)
open BfM (Wr plc)
open ScM EnM ExM ExN ExP EyP EyM ExR

theorem sss_one {B : Nat} {w : World} {A : Option Addr} {n c : Nat} {xs : List (List St)} (h : Sss B w (.slice A n c) xs) (h1 : 1 ≤ xs.length) : Sss B w (.slice A 1 c) (xs.take 1) := by
  obtain ⟨A', c', e, h2, h3, h4⟩ := h
  injection e with e1 e0 e2
  subst e1 e2
  refine ⟨A, c, by rw [List.length_take, Nat.min_eq_left h1], by rw [List.length_take]; omega, h3, fun h0 => ?_⟩
  obtain ⟨b, f, e, hb, hs⟩ := h4 (by omega)
  refine ⟨b, f, e, hb, fun j hj => ?_⟩
  rw [List.length_take] at hj
  rw [List.getElem_take]
  exact hs j (by omega)
theorem right_one {P : Pg} (h : rightP P = true) : rightP ⟨P.init, P.ths.take 1⟩ = true := by
  unfold rightP at h ⊢
  simp only [Bool.and_eq_true, decide_eq_true_eq, List.all_eq_true] at h ⊢
  obtain ⟨⟨h1, h2, h3⟩, h4⟩ := h
  exact ⟨⟨h1, by rw [List.length_take]; omega, by rw [List.length_take]; omega⟩, fun x hx => h4 x (List.mem_of_mem_take hx)⟩
theorem out_of {b : Nat} {W : World} {x : FV} (h : FvI b W x) : OutR W.heap.size W (.agg #[x.m, x.r]) x.o := ⟨_, _, rfl, Rw.own h.1 (Nat.le_refl _), Rw.own h.2.1 (Nat.le_refl _)⟩
theorem map_one {fs : List FV} {f : FdE} (h : fs.map fvP = [f]) : ∃ x, fs = [x] ∧ fvP x = f := by
  match fs, h with
  | [x], h => exact ⟨x, rfl, by simpa using h⟩
set_option maxHeartbeats 16000000 in
set_option maxRecDepth 100000 in
theorem explalone_any {B : Nat} {v : Value} {P : Pg} (w : World) (hv : PgZ B w v P) (hI : InP P) (hBB : B ≤ w.heap.size) :
    Calls Try.prog 7 #[v] w fun e w' => e = .returned (.bool true) ∧ Below w.heap.size w w' := by
  have HPZ := Lib.hid (fun W (hW : Below w.heap.size w W) => (show PgZ W.heap.size W v P from (hv.below (hW.mono hBB)).more (Nat.le_trans hBB hW.size)))
  obtain ⟨pi, pt, rfl, hpm, hpz⟩ := hv
  have HPQ := Lib.hid (fun W (hW : Below w.heap.size w W) => And.intro ((hpm.below (hW.mono hBB)).more (Nat.le_trans hBB hW.size)) ((hpz.below (hW.mono hBB)).more (Nat.le_trans hBB hW.size)))
  have HIP := Lib.hid hI
  obtain ⟨⟨P0, d0, rfl, -⟩, ⟨P1, d1, rfl, l1, l2, l3⟩⟩ := hpm
  unfold maxLen at l2
  clear hpz l3 hI
  obtain ⟨W2, hW2⟩ : ∃ W, W = w.alloc (.cells #[.slice P0 P.init.length d0, .slice P1 P.ths.length d1] 25) := ⟨_, rfl⟩
  obtain ⟨gp, hgp⟩ : ∃ g, g = w.heap.size := ⟨_, rfl⟩
  have HX := Lib.hid (show BoxC W2 gp 25 #[.slice P0 P.init.length d0, .slice P1 P.ths.length d1] from by rw [hW2, hgp]; exact BoxC.new w _ _)
  have HB := Lib.hid (show Below w.heap.size w W2 from by rw [hW2]; exact below_al (Below.refl _ _) _)
  obtain ⟨n0, hn0⟩ : ∃ n, n = P.init.length := ⟨_, rfl⟩
  obtain ⟨n1, hn1⟩ : ∃ n, n = P.ths.length := ⟨_, rfl⟩
  have HN1 := Lib.hid hn1
  have HN0 := Lib.hid hn0
  rw [← hn0, ← hn1] at hW2 HX HPZ HPQ
  rw [← hn1] at l1
  rw [← hn0, ← hn1]
  clear hn0 hn1
  go_enter Try.func7, Try.ntmps7
  go_upto_region 1 with fail
  rw [← hW2]
  (try rw [← hgp])
  clear hW2 hgp
  go_wp2_with fail
  refine (head16_any _).mono ?_
  rintro e W3 ⟨rfl, hb⟩
  have HB3 := Lib.hid (chain HB.out hb)
  have HX3 := Lib.hid (HX.out.below hb HX.out.lt)
  clear hb
  have x0 := HX3.out.cell 0 (.slice P0 n0 d0) rfl
  have x1 := HX3.out.cell 1 (.slice P1 n1 d1) rfl
  go_wp2_with fail
  refine (cgreat_any _ ((HPZ.out _ HB3.out).v) (Nat.le_refl _)).mono ?_
  rintro e W4 ⟨bg, rfl, hg, hb⟩
  have HB4 := Lib.hid (chain HB3.out hb)
  have HX4 := Lib.hid (HX3.out.below hb HX3.out.lt)
  have HG := Lib.hid hg
  clear hb hg x0 x1
  cases bg
  · have hr := (HG.out rfl).2
    have HR := Lib.hid (right_one hr)
    have hn1 : 1 ≤ n1 := by have := (right_ths hr).2.1; have := HN1.out; omega
    have hd1 : (1 : Int) ≤ (d1 : Int) := by omega
    clear hr
    have HAL := Lib.hid (law_alone HR.out (by rw [List.length_take]; have := HN1.out; omega))
    obtain ⟨ol, va, na, hea, heb⟩ := HAL.out
    have HEA := Lib.hid hea
    have HEB := Lib.hid heb
    clear hea heb
    have x0 := HX4.out.cell 0 (.slice P0 n0 d0) rfl
    have x1 := HX4.out.cell 1 (.slice P1 n1 d1) rfl
    go_upto_region 4 with fail
    refine wp_region_held_drew (S := (fun w' => w'.cell? ⟨gp, 0, none⟩ = some (.slice P0 n0 d0) ∧ w'.cell? ⟨gp, 1, none⟩ = some (.slice P1 n1 d1) ∧ True)) (by kernel_rfl) ⟨x0, x1, trivial⟩ (fun hHeld => ?_)
    obtain ⟨Xs, hXs⟩ : ∃ W, W = W4.drew := ⟨_, rfl⟩
    have HDR := Lib.hid (show Below W4.heap.size W4 Xs from by rw [hXs]; exact below_drewN (Below.refl _ _) 1)
    rw [← hXs]
    rw [← hXs] at hHeld
    clear hXs
    have HXs := Lib.hid (HX4.out.below HDR.out HX4.out.lt)
    refine wpAnyH_take (i := 0) (v := ?_) rfl (by kernel_rfl) (by kernel_rfl) (by kernel_rfl) (fun _ _ _ h => h) (Or.inl ⟨by rfl, ?_⟩) (by assumption) ?_
    rotate_left
    · intro w hSw; (try dsimp only at hSw); go_simp; (try with_reducible rfl)
    (try simp only [Act.put, pt8])
    refine wpAnyH_take (i := 1) (v := ?_) rfl (by kernel_rfl) (by kernel_rfl) (by kernel_rfl) (fun _ _ _ h => h) (Or.inl ⟨by rfl, ?_⟩) (by assumption) ?_
    rotate_left
    · intro w hSw; (try dsimp only at hSw); go_simp; (try with_reducible rfl)
    (try simp only [Act.put, pt8])
    refine wpAnyH_take (i := 2) (v := ?_) rfl (by kernel_rfl) (by kernel_rfl) (by kernel_rfl) (fun _ _ _ h => h) (Or.inl ⟨by rfl, ?_⟩) (by assumption) ?_
    rotate_left
    · intro w hSw; (try dsimp only at hSw); go_simp; (try with_reducible rfl)
    (try simp only [Act.put, pt8])
    refine wpAnyH_take (i := 3) (v := ?_) rfl (by kernel_rfl) (by kernel_rfl) (by kernel_rfl) (fun _ _ _ h => h) (Or.inl ⟨by rfl, ?_⟩) (by assumption) ?_
    rotate_left
    · intro w hSw; (try dsimp only at hSw); go_simp; (try with_reducible rfl)
    (try simp only [Act.put, pt8])
    refine wpAnyH_take (i := 4) (v := ?_) rfl (by kernel_rfl) (by kernel_rfl) (by kernel_rfl) (fun _ _ _ h => h) (Or.inl ⟨by rfl, ?_⟩) (by assumption) ?_
    rotate_left
    · intro w hSw; (try dsimp only at hSw); go_simp; (try with_reducible rfl)
    (try simp only [Act.put, pt8])
    refine wpAnyH_take (i := 5) (v := ?_) rfl (by kernel_rfl) (by kernel_rfl) (by kernel_rfl) (fun _ _ _ h => h) (Or.inl ⟨by rfl, ?_⟩) (by assumption) ?_
    rotate_left
    · intro w hSw; (try dsimp only at hSw); go_simp; (try with_reducible rfl)
    (try simp only [Act.put, pt8])
    refine wpAnyH_ready (rs := [6]) (by kernel_rfl) (by simp) ?_
    refine AllReadyH.cons rfl (fun K hK => ?_) AllReadyH.nil
    have HXa := Lib.hid (HXs.out.alloc (.cells #[.slice none 0 0, .slice none 0 0] 25))
    go_simp
    refine hK.out _ _ ⟨HXa.out.cell 0 (.slice P0 n0 d0) rfl, HXa.out.cell 1 (.slice P1 n1 d1) rfl, trivial⟩ (fun hHeld => ?_)
    clear hK K
    (try simp only [Act.put, pt8])
    obtain ⟨Wa, hWa⟩ : ∃ W, W = Xs.alloc (.cells #[.slice none 0 0, .slice none 0 0] 25) := ⟨_, rfl⟩
    obtain ⟨gq, hgq⟩ : ∃ y, y = Xs.heap.size := ⟨_, rfl⟩
    have HQZ := Lib.hid (show BoxC Wa gq 25 #[.slice none 0 0, .slice none 0 0] from by rw [hWa, hgq]; exact BoxC.new Xs _ _)
    have HGQ := Lib.hid (show gp < gq ∧ W4.heap.size ≤ gq from by have := HXs.out.lt; have := HDR.out.size; omega)
    have HBa := Lib.hid (show Below W4.heap.size W4 Wa from by rw [hWa]; exact chain HDR.out (below_al (Below.refl _ _) _))
    rw [← hWa] at HXa
    rw [← hWa]
    (try rw [← hgq])
    clear hWa hgq
    refine wpAnyH_ready (rs := [7]) (by kernel_rfl) (by simp) ?_
    refine AllReadyH.cons rfl (fun K hK => ?_) AllReadyH.nil
    have z0 := HQZ.out.cell 0 (.slice none 0 0) rfl
    have z1 := HQZ.out.cell 1 (.slice none 0 0) rfl
    have f0 := HQZ.out.frozen 0
    have f1 := HQZ.out.frozen 1
    have HXb := Lib.hid ((HXa.out.other (Nat.ne_of_lt HGQ.out.1) 0 (.slice P0 n0 d0)).other (Nat.ne_of_lt HGQ.out.1) 1 (.slice P1 1 d1))
    go_simp
    refine hK.out _ _ ⟨HXb.out.cell 0 (.slice P0 n0 d0) rfl, HXb.out.cell 1 (.slice P1 n1 d1) rfl, trivial⟩ (fun hHeld => ?_)
    clear hK K
    (try simp only [Act.put, pt8])
    clear z0 z1 f0 f1
    obtain ⟨W5, hW5⟩ : ∃ W, W = (Wa.setCell ⟨gq, 0, none⟩ (.slice P0 n0 d0)).setCell ⟨gq, 1, none⟩ (.slice P1 1 d1) := ⟨_, rfl⟩
    have HQB := Lib.hid (show BoxC W5 gq 25 #[.slice P0 n0 d0, .slice P1 1 d1] from by rw [hW5]; exact (HQZ.out.set 0 _).set 1 _)
    have HB5 := Lib.hid (show Below w.heap.size w W5 from by rw [hW5]; exact ((chain HB4.out HBa.out).setCell (p := ⟨gq, 0, none⟩) (Nat.le_trans HB4.out.size HGQ.out.2) _).setCell (p := ⟨gq, 1, none⟩) (Nat.le_trans HB4.out.size HGQ.out.2) _)
    rw [← hW5]
    clear hW5
    have HXQ := Lib.hid (fun (wk : Bool) (fuel : Int) (W : World) (hW : Below W5.heap.size W5 W) => xexplore_any (P := ⟨P.init, P.ths.take 1⟩) (v := .agg #[.slice P0 n0 d0, .slice P1 1 d1]) wk fuel W (show PgZ W.heap.size W _ _ from ⟨_, _, rfl, ⟨(HPQ.out W (chain HB5.out hW)).1.1, sss_one (HPQ.out W (chain HB5.out hW)).1.2 (by have := HN1.out; omega)⟩, (HPQ.out W (chain HB5.out hW)).2⟩) (Nat.le_refl _) HR.out ⟨HIP.out.init, fun ss hs => HIP.out.step ss (List.mem_of_mem_take hs)⟩)
    refine wpAnyH_done (by kernel_rfl) ?_ _
    clear hHeld x0 x1
    go_upto_region 5 with fail
    have x0 := HQB.out.cell 0 (.slice P0 n0 d0) rfl
    have x1 := HQB.out.cell 1 (.slice P1 1 d1) rfl
    go_wp2_with fail
    refine (HXQ.out false 400 _ (Below.refl _ _)).mono ?_
    rintro e W6 ⟨Aa, ca, fsa, rfl, hoa, hfa, hb⟩
    rw [HEA.out] at hfa ⊢
    dsimp only at hfa ⊢
    obtain ⟨xa, rfl, hxa⟩ := map_one hfa
    have HB6 := Lib.hid hb
    have HQ6 := Lib.hid (HQB.out.below hb HQB.out.lt)
    have HOA := Lib.hid hoa
    have HXA := Lib.hid (show xa.o = ol from congrArg Prod.fst hxa)
    clear hoa hfa hb hxa x0 x1
    have x0 := HQ6.out.cell 0 (.slice P0 n0 d0) rfl
    have x1 := HQ6.out.cell 1 (.slice P1 1 d1) rfl
    go_wp2_with fail
    refine (HXQ.out true 400 _ HB6.out).mono ?_
    rintro e W7 ⟨Ab, cb, fsb, rfl, hob, hfb, hb⟩
    have HB7 := Lib.hid (show Below w.heap.size w W7 from chain HB5.out (chain HB6.out hb))
    have HOA7 := Lib.hid (HOA.out.grow hb)
    have HOB := Lib.hid hob
    clear hob hb x0 x1
    rcases HEB.out with he | ⟨vb, nb, he⟩
    · rw [he] at hfb ⊢
      dsimp only at hfb ⊢
      obtain rfl : fsb = [] := List.map_eq_nil_iff.1 hfb
      clear hfb he
      simp only [List.length_cons, List.length_nil, Nat.zero_add]
      go_upto_region 9 with fail
      refine wp_region_held_drew (S := (fun w' => True)) (by kernel_rfl) trivial (fun hHeld => ?_)
      refine wpAnyH_take (i := 0) (v := ?_) rfl (by kernel_rfl) (by kernel_rfl) (by kernel_rfl) (fun _ _ _ h => h) (Or.inl ⟨by rfl, ?_⟩) (by assumption) ?_
      rotate_left
      · intro w hSw; (try dsimp only at hSw); go_simp; (try with_reducible rfl)
      (try simp only [Act.put, pt8])
      refine wpAnyH_take (i := 1) (v := ?_) rfl (by kernel_rfl) (by kernel_rfl) (by kernel_rfl) (fun _ _ _ h => h) (Or.inl ⟨by rfl, ?_⟩) (by assumption) ?_
      rotate_left
      · intro w hSw; (try dsimp only at hSw); go_simp; (try with_reducible rfl)
      (try simp only [Act.put, pt8])
      refine wpAnyH_take (i := 2) (v := ?_) rfl (by kernel_rfl) (by kernel_rfl) (by kernel_rfl) (fun _ _ _ h => h) (Or.inl ⟨by rfl, ?_⟩) (by assumption) ?_
      rotate_left
      · intro w hSw; (try dsimp only at hSw); go_simp; (try with_reducible rfl)
      (try simp only [Act.put, pt8])
      refine wpAnyH_take (i := 3) (v := ?_) rfl (by kernel_rfl) (by kernel_rfl) (by kernel_rfl) (fun _ _ _ h => h) (Or.inl ⟨by rfl, ?_⟩) (by assumption) ?_
      rotate_left
      · intro w hSw; (try dsimp only at hSw); go_simp; (try with_reducible rfl)
      (try simp only [Act.put, pt8])
      refine wpAnyH_take (i := 4) (v := ?_) rfl (by kernel_rfl) (by kernel_rfl) (by kernel_rfl) (fun _ _ _ h => h) (Or.inl ⟨by rfl, ?_⟩) (by assumption) ?_
      rotate_left
      · intro w hSw; (try dsimp only at hSw); go_simp; (try with_reducible rfl)
      (try simp only [Act.put, pt8])
      refine wpAnyH_take (i := 5) (v := ?_) rfl (by kernel_rfl) (by kernel_rfl) (by kernel_rfl) (fun _ _ _ h => h) (Or.inl ⟨by rfl, ?_⟩) (by assumption) ?_
      rotate_left
      · intro w hSw; (try dsimp only at hSw); go_simp; (try with_reducible rfl)
      (try simp only [Act.put, pt8])
      refine wpAnyH_take (i := 6) (v := ?_) rfl (by kernel_rfl) (by kernel_rfl) (by kernel_rfl) (fun _ _ _ h => h) (Or.inl ⟨by rfl, ?_⟩) (by assumption) ?_
      rotate_left
      · intro w hSw; (try dsimp only at hSw); go_simp; (try with_reducible rfl)
      (try simp only [Act.put, pt8])
      refine wpAnyH_take (i := 7) (v := ?_) rfl (by kernel_rfl) (by kernel_rfl) (by kernel_rfl) (fun _ _ _ h => h) (Or.inl ⟨by rfl, ?_⟩) (by assumption) ?_
      rotate_left
      · intro w hSw; (try dsimp only at hSw); go_simp; (try with_reducible rfl)
      (try simp only [Act.put, pt8])
      refine wpAnyH_take (i := 8) (v := undef) rfl (by kernel_rfl) (by kernel_rfl) (by kernel_rfl) (fun _ _ _ h => h) (Or.inr ⟨by rfl, rfl⟩) (by assumption) ?_
      (try simp only [Act.put, pt8])
      refine wpAnyH_take (i := 9) (v := undef) rfl (by kernel_rfl) (by kernel_rfl) (by kernel_rfl) (fun _ _ _ h => h) (Or.inr ⟨by rfl, rfl⟩) (by assumption) ?_
      (try simp only [Act.put, pt8])
      refine wpAnyH_take (i := 10) (v := undef) rfl (by kernel_rfl) (by kernel_rfl) (by kernel_rfl) (fun _ _ _ h => h) (Or.inr ⟨by rfl, rfl⟩) (by assumption) ?_
      (try simp only [Act.put, pt8])
      refine wpAnyH_take (i := 11) (v := undef) rfl (by kernel_rfl) (by kernel_rfl) (by kernel_rfl) (fun _ _ _ h => h) (Or.inr ⟨by rfl, rfl⟩) (by assumption) ?_
      (try simp only [Act.put, pt8])
      refine wpAnyH_take (i := 12) (v := undef) rfl (by kernel_rfl) (by kernel_rfl) (by kernel_rfl) (fun _ _ _ h => h) (Or.inr ⟨by rfl, rfl⟩) (by assumption) ?_
      (try simp only [Act.put, pt8])
      refine wpAnyH_take (i := 13) (v := undef) rfl (by kernel_rfl) (by kernel_rfl) (by kernel_rfl) (fun _ _ _ h => h) (Or.inr ⟨by rfl, rfl⟩) (by assumption) ?_
      (try simp only [Act.put, pt8])
      refine wpAnyH_take (i := 14) (v := undef) rfl (by kernel_rfl) (by kernel_rfl) (by kernel_rfl) (fun _ _ _ h => h) (Or.inr ⟨by rfl, rfl⟩) (by assumption) ?_
      (try simp only [Act.put, pt8])
      refine wpAnyH_take (i := 15) (v := undef) rfl (by kernel_rfl) (by kernel_rfl) (by kernel_rfl) (fun _ _ _ h => h) (Or.inr ⟨by rfl, rfl⟩) (by assumption) ?_
      (try simp only [Act.put, pt8])
      refine wpAnyH_take (i := 16) (v := undef) rfl (by kernel_rfl) (by kernel_rfl) (by kernel_rfl) (fun _ _ _ h => h) (Or.inr ⟨by rfl, rfl⟩) (by assumption) ?_
      (try simp only [Act.put, pt8])
      refine wpAnyH_take (i := 17) (v := ?_) rfl (by kernel_rfl) (by kernel_rfl) (by kernel_rfl) (fun _ _ _ h => h) (Or.inl ⟨by rfl, ?_⟩) (by assumption) ?_
      rotate_left
      · intro w hSw; (try dsimp only at hSw); go_simp; (try with_reducible rfl)
      (try simp only [Act.put, pt8])
      refine wpAnyH_take (i := 18) (v := ?_) rfl (by kernel_rfl) (by kernel_rfl) (by kernel_rfl) (fun _ _ _ h => h) (Or.inl ⟨by rfl, ?_⟩) (by assumption) ?_
      rotate_left
      · intro w hSw; (try dsimp only at hSw); go_simp; (try with_reducible rfl)
      (try simp only [Act.put, pt8])
      refine wpAnyH_ready (rs := [19]) (by kernel_rfl) (by simp) ?_
      refine AllReadyH.cons rfl (fun K hK => ?_) AllReadyH.nil
      go_simp
      refine hK.out _ _ trivial (fun hHeld => ?_)
      clear hK K
      (try simp only [Act.put, pt8])
      refine wpAnyH_done (by kernel_rfl) ?_ _
      clear hHeld
      go_wp2
      go_ret
      exact ⟨rfl, below_drewN HB7.out 1⟩
    · rw [he] at hfb ⊢
      dsimp only at hfb ⊢
      obtain ⟨xb, rfl, hxb⟩ := map_one hfb
      have HXB := Lib.hid (show xb.o = ol from congrArg Prod.fst hxb)
      simp only [List.length_cons, List.length_nil, Nat.zero_add]
      simp only [List.length_cons, List.length_nil, Nat.zero_add] at HOA7 HOB
      obtain ⟨ga, rfl, a0, a1, -⟩ := fd_at HOA7.out (k := 0) (by simp)
      obtain ⟨gb, rfl, b0, b1, -⟩ := fd_at HOB.out (k := 0) (by simp)
      have hfa := HOA7.out.ok xa (List.mem_singleton_self _)
      have hfb2 := HOB.out.ok xb (List.mem_singleton_self _)
      have HSO := Lib.hid (fun (W : World) (hW : Below W7.heap.size W7 W) => osame_any (o := ol) W (by have := out_of (hfa.grow hW); rw [HXA.out] at this; exact this) (by have := out_of (hfb2.grow hW); rw [HXB.out] at this; exact this) (Nat.le_refl _))
      obtain ⟨⟨M1, m1, ea1⟩, ⟨M2, m2, ea2⟩, -⟩ := hfa.sl
      obtain ⟨⟨N1, k1, eb1⟩, ⟨N2, k2, eb2⟩, -⟩ := hfb2.sl
      simp only [List.getElem_cons_zero, Nat.zero_mul, Nat.zero_add] at a0 a1 b0 b1
      rw [ea1] at a0 HSO
      rw [ea2] at a1 HSO
      rw [eb1] at b0 HSO
      rw [eb2] at b1 HSO
      clear hfb he hxb hfa hfb2 ea1 ea2 eb1 eb2
      go_upto_region 9 with fail
      refine wp_region_held_drew (S := (fun w' => (w'.cell? ⟨ga, 0, none⟩ = some (.slice M1 xa.o.1.length m1) ∧ w'.cell? ⟨ga, 1, none⟩ = some (.slice M2 xa.o.2.length m2) ∧ w'.cell? ⟨gb, 0, none⟩ = some (.slice N1 xb.o.1.length k1) ∧ w'.cell? ⟨gb, 1, none⟩ = some (.slice N2 xb.o.2.length k2) ∧ True) ∧ Below W7.heap.size W7 w')) (by kernel_rfl) ⟨⟨a0, a1, b0, b1, trivial⟩, below_drewN (Below.refl _ _) 1⟩ (fun hHeld => ?_)
      refine wpAnyH_take (i := 0) (v := ?_) rfl (by kernel_rfl) (by kernel_rfl) (by kernel_rfl) (fun _ _ _ h => h) (Or.inl ⟨by rfl, ?_⟩) (by assumption) ?_
      rotate_left
      · intro w hSw; (try dsimp only at hSw); go_simp; (try with_reducible rfl)
      (try simp only [Act.put, pt8])
      refine wpAnyH_take (i := 1) (v := ?_) rfl (by kernel_rfl) (by kernel_rfl) (by kernel_rfl) (fun _ _ _ h => h) (Or.inl ⟨by rfl, ?_⟩) (by assumption) ?_
      rotate_left
      · intro w hSw; (try dsimp only at hSw); go_simp; (try with_reducible rfl)
      (try simp only [Act.put, pt8])
      refine wpAnyH_take (i := 2) (v := ?_) rfl (by kernel_rfl) (by kernel_rfl) (by kernel_rfl) (fun _ _ _ h => h) (Or.inl ⟨by rfl, ?_⟩) (by assumption) ?_
      rotate_left
      · intro w hSw; (try dsimp only at hSw); go_simp; (try with_reducible rfl)
      (try simp only [Act.put, pt8])
      refine wpAnyH_take (i := 3) (v := ?_) rfl (by kernel_rfl) (by kernel_rfl) (by kernel_rfl) (fun _ _ _ h => h) (Or.inl ⟨by rfl, ?_⟩) (by assumption) ?_
      rotate_left
      · intro w hSw; (try dsimp only at hSw); go_simp; (try with_reducible rfl)
      (try simp only [Act.put, pt8])
      refine wpAnyH_take (i := 4) (v := ?_) rfl (by kernel_rfl) (by kernel_rfl) (by kernel_rfl) (fun _ _ _ h => h) (Or.inl ⟨by rfl, ?_⟩) (by assumption) ?_
      rotate_left
      · intro w hSw; (try dsimp only at hSw); go_simp; (try with_reducible rfl)
      (try simp only [Act.put, pt8])
      refine wpAnyH_take (i := 5) (v := ?_) rfl (by kernel_rfl) (by kernel_rfl) (by kernel_rfl) (fun _ _ _ h => h) (Or.inl ⟨by rfl, ?_⟩) (by assumption) ?_
      rotate_left
      · intro w hSw; (try dsimp only at hSw); go_simp; (try with_reducible rfl)
      (try simp only [Act.put, pt8])
      refine wpAnyH_take (i := 6) (v := ?_) rfl (by kernel_rfl) (by kernel_rfl) (by kernel_rfl) (fun _ _ _ h => h) (Or.inl ⟨by rfl, ?_⟩) (by assumption) ?_
      rotate_left
      · intro w hSw; (try dsimp only at hSw); go_simp; (try with_reducible rfl)
      (try simp only [Act.put, pt8])
      refine wpAnyH_take (i := 7) (v := ?_) rfl (by kernel_rfl) (by kernel_rfl) (by kernel_rfl) (fun _ _ _ h => h) (Or.inl ⟨by rfl, ?_⟩) (by assumption) ?_
      rotate_left
      · intro w hSw; (try dsimp only at hSw); go_simp; (try with_reducible rfl)
      (try simp only [Act.put, pt8])
      refine wpAnyH_take (i := 8) (v := ?_) rfl (by kernel_rfl) (by kernel_rfl) (by kernel_rfl) (fun _ _ _ h => h) (Or.inl ⟨by rfl, ?_⟩) (by assumption) ?_
      rotate_left
      · intro w hSw; (try dsimp only at hSw); go_simp; (try with_reducible rfl)
      (try simp only [Act.put, pt8])
      refine wpAnyH_take (i := 9) (v := ?_) rfl (by kernel_rfl) (by kernel_rfl) (by kernel_rfl) (fun _ _ _ h => h) (Or.inl ⟨by rfl, ?_⟩) (by assumption) ?_
      rotate_left
      · intro w hSw; (try dsimp only at hSw); go_simp; (try with_reducible rfl)
      (try simp only [Act.put, pt8])
      refine wpAnyH_take (i := 10) (v := ?_) rfl (by kernel_rfl) (by kernel_rfl) (by kernel_rfl) (fun _ _ _ h => h) (Or.inl ⟨by rfl, ?_⟩) (by assumption) ?_
      rotate_left
      · intro w hSw; (try dsimp only at hSw); go_simp; (try with_reducible rfl)
      (try simp only [Act.put, pt8])
      refine wpAnyH_take (i := 11) (v := ?_) rfl (by kernel_rfl) (by kernel_rfl) (by kernel_rfl) (fun _ _ _ h => h) (Or.inl ⟨by rfl, ?_⟩) (by assumption) ?_
      rotate_left
      · intro w hSw; (try dsimp only at hSw); go_simp; (try with_reducible rfl)
      (try simp only [Act.put, pt8])
      refine wpAnyH_take (i := 12) (v := ?_) rfl (by kernel_rfl) (by kernel_rfl) (by kernel_rfl) (fun _ _ _ h => h) (Or.inl ⟨by rfl, ?_⟩) (by assumption) ?_
      rotate_left
      · intro w hSw; (try dsimp only at hSw); go_simp; (try with_reducible rfl)
      (try simp only [Act.put, pt8])
      refine wpAnyH_take (i := 13) (v := ?_) rfl (by kernel_rfl) (by kernel_rfl) (by kernel_rfl) (fun _ _ _ h => h) (Or.inl ⟨by rfl, ?_⟩) (by assumption) ?_
      rotate_left
      · intro w hSw; (try dsimp only at hSw); go_simp; (try with_reducible rfl)
      (try simp only [Act.put, pt8])
      refine wpAnyH_take (i := 14) (v := ?_) rfl (by kernel_rfl) (by kernel_rfl) (by kernel_rfl) (fun _ _ _ h => h) (Or.inl ⟨by rfl, ?_⟩) (by assumption) ?_
      rotate_left
      · intro w hSw; (try dsimp only at hSw); go_simp; (try with_reducible rfl)
      (try simp only [Act.put, pt8])
      refine wpAnyH_take (i := 15) (v := ?_) rfl (by kernel_rfl) (by kernel_rfl) (by kernel_rfl) (fun _ _ _ h => h) (Or.inl ⟨by rfl, ?_⟩) (by assumption) ?_
      rotate_left
      · intro w hSw; (try dsimp only at hSw); go_simp; (try with_reducible rfl)
      (try simp only [Act.put, pt8])
      refine wpAnyH_ready (rs := [16]) (by kernel_rfl) (by simp) ?_
      refine AllReadyH.cons rfl (fun K hK => ?_) AllReadyH.nil
      go_simp
      refine (HSO.out _ hHeld.2).mono ?_
      rintro e W9 ⟨rfl, hb⟩
      have HBX := Lib.hid (chain hHeld.2 hb)
      have HB9 := Lib.hid (chain HB7.out HBX.out)
      clear hb
      refine hK.out _ _ ⟨⟨kc HBX.out a0, kc HBX.out a1, kc HBX.out b0, kc HBX.out b1, trivial⟩, HBX.out⟩ (fun hHeld => ?_)
      clear hK K
      (try simp only [Act.put, pt8])
      refine wpAnyH_take (i := 17) (v := ?_) rfl (by kernel_rfl) (by kernel_rfl) (by kernel_rfl) (fun _ _ _ h => h) (Or.inl ⟨by rfl, ?_⟩) (by assumption) ?_
      rotate_left
      · intro w hSw; (try dsimp only at hSw); go_simp; (try with_reducible rfl)
      (try simp only [Act.put, pt8])
      refine wpAnyH_take (i := 18) (v := ?_) rfl (by kernel_rfl) (by kernel_rfl) (by kernel_rfl) (fun _ _ _ h => h) (Or.inl ⟨by rfl, ?_⟩) (by assumption) ?_
      rotate_left
      · intro w hSw; (try dsimp only at hSw); go_simp; (try with_reducible rfl)
      (try simp only [Act.put, pt8])
      refine wpAnyH_ready (rs := [19]) (by kernel_rfl) (by simp) ?_
      refine AllReadyH.cons rfl (fun K hK => ?_) AllReadyH.nil
      go_simp
      refine hK.out _ _ hHeld (fun hHeld => ?_)
      clear hK K
      (try simp only [Act.put, pt8])
      refine wpAnyH_done (by kernel_rfl) ?_ _
      clear hHeld a0 a1 b0 b1
      go_wp2
      go_ret
      exact ⟨rfl, HB9.out⟩
  · go_wp2
    go_ret
    exact ⟨rfl, HB4.out⟩
end Go.Proofs.Ytbffjhdocicfoaa
