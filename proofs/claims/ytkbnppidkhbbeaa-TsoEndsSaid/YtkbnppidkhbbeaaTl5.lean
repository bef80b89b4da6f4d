/-
  LAYER 11: the walk of TsoEnds.
-/
import Derived.Test.YtkbnppidkhbbeaaTsH
import Derived.Test.YtkbnppidkhbbeaaTsG
import Derived.Test.YtkbnppidkhbbeaaTsV
import Derived.Test.YtkbnppidkhbbeaaTsM2
import Derived.Test.YtkbnppidkhbbeaaTl1
import Derived.Test.YtkbnppidkhbbeaaScT6L
import Derived.Deep.RegionHeld3
import Derived.Deep.DeepCutAuto
namespace Go.Proofs.Ytkbnppidkhbbeaa
open Go.RowKit
set_option linter.unusedVariables false
set_option linter.unusedSimpArgs false
open CodM (St Pg rightP hReg hLoc)
open BfM (Wr plc)
open ScM

def EnR (P : Pg) (s : Sta) (many B : Nat) (w : World) (gp gs : Nat) (cp : Array Value) (iv : Value) (wr : World) : Prop := ∃ (i : Nat) (S : Sta) (A4 : Option Addr) (c4 : Nat) (B4 : Option Addr) (e4 : Nat), iv = .int .i64 i ∧ OkSt P S ∧ WideN (300 + i) S ∧ msr P S + i ≤ many ∧
  BoxC wr gp 25 cp ∧ BoxC wr gs 28 #[.slice A4 s.mem.length c4, .slice B4 s.ths.length e4] ∧ AnyS B w.heap.size wr (.slice A4 s.mem.length c4) (.slice B4 s.ths.length e4) S ∧ Below w.heap.size w wr
set_option maxHeartbeats 8000000 in
set_option maxRecDepth 100000 in
theorem tsoends_any {B : Nat} {v u : Value} {P : Pg} {s : Sta} {vd : Value} {gs1 : List Nat} (w : World) (hv : PgZ B w v P) (hu : StaV B w u s) (hds : BytR B w vd gs1) (hgb : ∀ x ∈ gs1, x < 256) (hBB : B ≤ w.heap.size) :
    Calls Try.prog 8 #[v, u, vd] w fun e w' => e = .returned (.bool true) ∧ Below w.heap.size w w' := by
  obtain ⟨Ag, cg, rfl, hd1, hd2, -, hd3⟩ := hds
  have HG3 := Lib.hid (by_at (c := cg) hd3)
  have HGB := Lib.hid hgb
  unfold maxLen at hd2
  clear hd3 hgb
  obtain ⟨pi, pt, rfl, hpm, hpi⟩ := hv
  obtain ⟨um, ut, rfl, hum⟩ := hu
  have HPM := Lib.hid hpm
  have HPI := Lib.hid hpi
  have HUM := Lib.hid hum
  obtain ⟨⟨P0, d0, rfl, -⟩, ⟨P1, d1, rfl, l1, l2, l3⟩⟩ := hpm
  obtain ⟨⟨A7, c7, rfl, m1, m2, m0, m3⟩, ⟨A1, c1, rfl, k1, k2, k0, k3⟩⟩ := hum
  clear hpi
  unfold maxLen at l2 m2 k2
  have HL3 := Lib.hid l3
  have HM3 := Lib.hid m3
  have HK3 := Lib.hid k3
  clear l3 m3 k3 m0 k0
  obtain ⟨W2, hW2⟩ : ∃ W, W = ((w.alloc (.cells #[.slice P0 P.init.length d0, .slice P1 P.ths.length d1] 25)).alloc (.cells #[.slice A7 s.mem.length c7, .slice A1 s.ths.length c1] 28)) := ⟨_, rfl⟩
  obtain ⟨gp, hgp⟩ : ∃ g, g = w.heap.size := ⟨_, rfl⟩
  obtain ⟨gs, hgs⟩ : ∃ g, g = w.heap.size + 1 := ⟨_, rfl⟩
  have HX := Lib.hid (show BoxC W2 gp 25 #[.slice P0 P.init.length d0, .slice P1 P.ths.length d1] from by rw [hW2, hgp]; exact (BoxC.new w _ _).alloc _)
  have HY := Lib.hid (show BoxC W2 gs 28 #[.slice A7 s.mem.length c7, .slice A1 s.ths.length c1] from by rw [hW2, hgs]; have := BoxC.new (w.alloc (.cells #[.slice P0 P.init.length d0, .slice P1 P.ths.length d1] 25)) 28 #[.slice A7 s.mem.length c7, .slice A1 s.ths.length c1]; rw [World.size_alloc] at this; exact this)
  have HB2 := Lib.hid (show Below w.heap.size w W2 from by rw [hW2]; exact below_al (below_al (Below.refl _ _) _) _)
  have HGSW := Lib.hid (show w.heap.size ≤ gs ∧ gp ≠ gs from by omega)
  have HPZ := Lib.hid (fun W (hW : Below W2.heap.size W2 W) => show PgZ W.heap.size W (.agg #[.slice P0 P.init.length d0, .slice P1 P.ths.length d1]) P from ⟨_, _, rfl, (HPM.out.below ((chain HB2.out hW).mono hBB)).more (Nat.le_trans hBB (chain HB2.out hW).size), (HPI.out.below ((chain HB2.out hW).mono hBB)).more (Nat.le_trans hBB (chain HB2.out hW).size)⟩)
  have HSV := Lib.hid (fun W (hW : Below W2.heap.size W2 W) => show StaV W.heap.size W (.agg #[.slice A7 s.mem.length c7, .slice A1 s.ths.length c1]) s from ⟨_, _, rfl, (HUM.out.below ((chain HB2.out hW).mono hBB)).more (Nat.le_trans hBB (chain HB2.out hW).size)⟩)
  have HBW := Lib.hid (Nat.le_trans hBB HB2.out.size)
  have HL := Lib.hid (Below.refl W2.heap.size W2)
  go_enter Try.func8, Try.ntmps8
  go_upto_region 1 with fail
  rw [← hW2]
  (try rw [← hgs])
  (try rw [← hgp])
  clear hW2 hgs hgp
  go_wp2_with fail
  refine (thead_any _).mono ?_
  rintro e V1 ⟨rfl, hb⟩
  have HST := Lib.hid hb
  replace HL := Lib.hid (chain HL.out hb)
  clear hb 
  have x0 := (HX.out.below HL.out HX.out.lt).cell 0 _ rfl
  have x1 := (HX.out.below HL.out HX.out.lt).cell 1 _ rfl
  have y0 := (HY.out.below HL.out HY.out.lt).cell 0 _ rfl
  have y1 := (HY.out.below HL.out HY.out.lt).cell 1 _ rfl
  go_wp2_with fail
  refine (tgreat_any _ (HPZ.out _ HL.out).v (HSV.out _ HL.out) (Nat.le_refl _)).mono ?_
  rintro e V2 ⟨gb, rfl, hg, hb⟩
  have HST := Lib.hid hb
  replace HL := Lib.hid (chain HL.out hb)
  clear hb x0 x1 y0 y1
  cases gb
  case true =>
    go_wp2
    go_ret
    exact ⟨rfl, chain HB2.out HL.out⟩
  have HRP := Lib.hid (hg rfl).1
  have HWN := Lib.hid (hg rfl).2.1
  have HOK := Lib.hid (hg rfl).2.2
  clear hg
  by_cases h100 : 100 < gs1.length
  · skip
    go_wp2
    go_ret
    exact ⟨rfl, chain HB2.out HL.out⟩
  have HLV := Lib.hid HL.out
  have ht9 := HWN.out.ths
  have HMB := Lib.hid (msrN_bound (P := P) (s := s) (n := 300) HRP.out (fun t ht => (HWN.out.regs t ht).2))
  have HL80 := Lib.hid (right_ths HRP.out).2.2.2
  have HTL := Lib.hid HOK.out.ths
  go_wp2
  go_loopw [8, 9] (fun m i wr => ∃ k : Nat, k ≤ s.ths.length ∧ i = .int .i64 k ∧ m = .int .i64 (msrN P s k : Nat) ∧ Below V2.heap.size V2 wr) (fun _ i _ => s.ths.length - (intOf i).toNat)
  case atStart => exact ⟨0, Nat.zero_le _, rfl, rfl, Below.refl _ _⟩
  case round =>
    obtain ⟨k, hk, rfl, rfl, hbw⟩ := hrel
    have HST := Lib.hid hbw
    have HL := Lib.hid (chain HLV.out hbw)
    clear hbw
    have x1 := (HX.out.below HL.out HX.out.lt).cell 1 _ rfl
    have y1 := (HY.out.below HL.out HY.out.lt).cell 1 _ rfl
    by_cases hlt : k < s.ths.length
    · have hkt : k < P.ths.length := by rw [← HTL.out]; exact hlt
      obtain ⟨b2, f2, rfl, hb2, hc2⟩ := HL3.out (by omega)
      obtain ⟨uu, z0, hS⟩ := hc2 k hkt
      obtain ⟨A5, c5, rfl, n1, n2, -⟩ := hS
      obtain ⟨b1, f1, rfl, hb1, hc1⟩ := HK3.out (by omega)
      obtain ⟨vr, vb, c0, -, -, c3, -, hW⟩ := hc1 k hlt
      obtain ⟨Ab, cb, rfl, q1, q2, -⟩ := hW
      have hTB : Below B w wr := (chain HB2.out HL.out).mono hBB
      replace z0 := (hTB.cell (p := ⟨b2, f2 + k, none⟩) hb2).trans z0
      replace c0 := (hTB.cell (p := ⟨b1, f1 + k * 4, none⟩) hb1).trans c0
      replace c3 := (hTB.cell (p := ⟨b1, f1 + k * 4 + 3, none⟩) hb1).trans c3
      have hl8 := HL80.out k hkt
      have hth := HOK.out.th k hlt hkt
      have hlo := hth.lo
      have hhi := hth.hi
      have hbl := (HWN.out.regs _ (List.getElem_mem hlt)).2
      have hmb := HMB.out k
      have HNX := Lib.hid (msrN_next (P := P) (s := s) hlt hkt)
      unfold trm at HNX
      unfold maxLen at n2 q2
      generalize P.ths[k] = ss at *
      generalize s.ths[k] = h at *
      obtain ⟨xa, xr, xe, xb⟩ := h
      obtain ⟨n, rfl⟩ : ∃ n : Nat, xa = n := ⟨xa.toNat, by dsimp only at hlo; omega⟩
      dsimp only at *
      obtain ⟨bl, hbl'⟩ : ∃ b, b = xb.length := ⟨_, rfl⟩
      obtain ⟨sl, hsl'⟩ : ∃ b, b = ss.length := ⟨_, rfl⟩
      rw [← hbl'] at c3 hbl HNX q1
      rw [← hsl'] at z0 hl8 hhi HNX n1
      have hmb2 : msrN P s k ≤ 10000 := by
        have : k * (160 + 300) ≤ 9 * (160 + 300) := Nat.mul_le_mul_right _ (by omega)
        omega
      clear hc1 hc2 hth hTB hbl' hsl' hmb
      have hw1 : IntKind.i64.wrap ((sl : Int) - (n : Int)) = (sl : Int) - (n : Int) := IntWalk.i64_in _ (by omega)
      have hw2 : IntKind.i64.wrap (2 * ((sl : Int) - (n : Int))) = 2 * ((sl : Int) - (n : Int)) := IntWalk.i64_in _ (by omega)
      have hw3 : IntKind.i64.wrap ((msrN P s k : Int) + 2 * ((sl : Int) - (n : Int))) = (msrN P s k : Int) + 2 * ((sl : Int) - (n : Int)) := IntWalk.i64_in _ (by omega)
      have hw4 : IntKind.i64.wrap ((msrN P s k : Int) + 2 * ((sl : Int) - (n : Int)) + (bl : Int)) = (msrN P s k : Int) + 2 * ((sl : Int) - (n : Int)) + (bl : Int) := IntWalk.i64_in _ (by omega)
      have HEQ := Lib.hid (show (msrN P s k : Int) + 2 * ((sl : Int) - (n : Int)) + (bl : Int) = ((msrN P s (k + 1) : Nat) : Int) from by have := HNX.out; simp only [Int.toNat_natCast] at this; omega)
      go_upto_region 8 with fail
      refine wp_region_held_drew (S := (fun w' => (w'.cell? ⟨gp, 1, none⟩ = some (.slice (some ⟨b2, f2, none⟩) P.ths.length d1) ∧ w'.cell? ⟨b2, f2 + k, none⟩ = some (.slice A5 sl c5) ∧ w'.cell? ⟨gs, 1, none⟩ = some (.slice (some ⟨b1, f1, none⟩) s.ths.length c1) ∧ w'.cell? ⟨b1, f1 + k * 4, none⟩ = some (.int .i64 (n : Int)) ∧ w'.cell? ⟨b1, f1 + k * 4 + 3, none⟩ = some (.slice Ab bl cb) ∧ True) ∧ Below wr.heap.size wr w')) (by kernel_rfl) ⟨⟨x1, z0, y1, c0, c3, trivial⟩, below_drewN (Below.refl _ _) 1⟩ (fun hHeld => ?_)
      obtain ⟨Xs, hXs⟩ : ∃ W, W = wr.drew := ⟨_, rfl⟩
      have HXs := Lib.hid (show Below wr.heap.size wr Xs from by rw [hXs]; exact below_drewN (Below.refl _ _) 1)
      rw [← hXs] at hHeld ⊢
      clear hXs
      refine wpAnyH_take (i := 0) (v := ?_) rfl (by kernel_rfl) (by kernel_rfl) (by kernel_rfl) (fun _ _ _ h => h) (Or.inl ⟨by rfl, ?_⟩) (by assumption) ?_
      rotate_left
      · intro w hSw; (try dsimp only at hSw); go_simp; (try with_reducible rfl)
      (try simp only [Act.put, List.getElem_toArray, List.getElem_cons_zero, List.getElem_cons_succ, Array.getInternal_eq_getElem, List.setIfInBounds_toArray, List.set_cons_zero, List.set_cons_succ])
      refine wpAnyH_take (i := 1) (v := ?_) rfl (by kernel_rfl) (by kernel_rfl) (by kernel_rfl) (fun _ _ _ h => h) (Or.inl ⟨by rfl, ?_⟩) (by assumption) ?_
      rotate_left
      · intro w hSw; (try dsimp only at hSw); go_simp; (try with_reducible rfl)
      (try simp only [Act.put, List.getElem_toArray, List.getElem_cons_zero, List.getElem_cons_succ, Array.getInternal_eq_getElem, List.setIfInBounds_toArray, List.set_cons_zero, List.set_cons_succ])
      refine wpAnyH_take (i := 2) (v := ?_) rfl (by kernel_rfl) (by kernel_rfl) (by kernel_rfl) (fun _ _ _ h => h) (Or.inl ⟨by rfl, ?_⟩) (by assumption) ?_
      rotate_left
      · intro w hSw; (try dsimp only at hSw); go_simp; (try with_reducible rfl)
      (try simp only [Act.put, List.getElem_toArray, List.getElem_cons_zero, List.getElem_cons_succ, Array.getInternal_eq_getElem, List.setIfInBounds_toArray, List.set_cons_zero, List.set_cons_succ])
      refine wpAnyH_take (i := 3) (v := ?_) rfl (by kernel_rfl) (by kernel_rfl) (by kernel_rfl) (fun _ _ _ h => h) (Or.inl ⟨by rfl, ?_⟩) (by assumption) ?_
      rotate_left
      · intro w hSw; (try dsimp only at hSw); go_simp; (try with_reducible rfl)
      (try simp only [Act.put, List.getElem_toArray, List.getElem_cons_zero, List.getElem_cons_succ, Array.getInternal_eq_getElem, List.setIfInBounds_toArray, List.set_cons_zero, List.set_cons_succ])
      refine wpAnyH_take (i := 4) (v := ?_) rfl (by kernel_rfl) (by kernel_rfl) (by kernel_rfl) (fun _ _ _ h => h) (Or.inl ⟨by rfl, ?_⟩) (by assumption) ?_
      rotate_left
      · intro w hSw; (try dsimp only at hSw); go_simp; (try with_reducible rfl)
      (try simp only [Act.put, List.getElem_toArray, List.getElem_cons_zero, List.getElem_cons_succ, Array.getInternal_eq_getElem, List.setIfInBounds_toArray, List.set_cons_zero, List.set_cons_succ])
      refine wpAnyH_take (i := 5) (v := ?_) rfl (by kernel_rfl) (by kernel_rfl) (by kernel_rfl) (fun _ _ _ h => h) (Or.inl ⟨by rfl, ?_⟩) (by assumption) ?_
      rotate_left
      · intro w hSw; (try dsimp only at hSw); go_simp; (try with_reducible rfl)
      (try simp only [Act.put, List.getElem_toArray, List.getElem_cons_zero, List.getElem_cons_succ, Array.getInternal_eq_getElem, List.setIfInBounds_toArray, List.set_cons_zero, List.set_cons_succ])
      refine wpAnyH_take (i := 6) (v := ?_) rfl (by kernel_rfl) (by kernel_rfl) (by kernel_rfl) (fun _ _ _ h => h) (Or.inl ⟨by rfl, ?_⟩) (by assumption) ?_
      rotate_left
      · intro w hSw; (try dsimp only at hSw); go_simp; (try with_reducible rfl)
      (try simp only [Act.put, List.getElem_toArray, List.getElem_cons_zero, List.getElem_cons_succ, Array.getInternal_eq_getElem, List.setIfInBounds_toArray, List.set_cons_zero, List.set_cons_succ])
      refine wpAnyH_take (i := 7) (v := ?_) rfl (by kernel_rfl) (by kernel_rfl) (by kernel_rfl) (fun _ _ _ h => h) (Or.inl ⟨by rfl, ?_⟩) (by assumption) ?_
      rotate_left
      · intro w hSw; (try dsimp only at hSw); go_simp; (try with_reducible rfl)
      (try simp only [Act.put, List.getElem_toArray, List.getElem_cons_zero, List.getElem_cons_succ, Array.getInternal_eq_getElem, List.setIfInBounds_toArray, List.set_cons_zero, List.set_cons_succ])
      refine wpAnyH_take (i := 8) (v := ?_) rfl (by kernel_rfl) (by kernel_rfl) (by kernel_rfl) (fun _ _ _ h => h) (Or.inl ⟨by rfl, ?_⟩) (by assumption) ?_
      rotate_left
      · intro w hSw; (try dsimp only at hSw); go_simp; (try with_reducible rfl)
      (try simp only [Act.put, List.getElem_toArray, List.getElem_cons_zero, List.getElem_cons_succ, Array.getInternal_eq_getElem, List.setIfInBounds_toArray, List.set_cons_zero, List.set_cons_succ])
      refine wpAnyH_take (i := 9) (v := ?_) rfl (by kernel_rfl) (by kernel_rfl) (by kernel_rfl) (fun _ _ _ h => h) (Or.inl ⟨by rfl, ?_⟩) (by assumption) ?_
      rotate_left
      · intro w hSw; (try dsimp only at hSw); go_simp; (try with_reducible rfl)
      (try simp only [Act.put, List.getElem_toArray, List.getElem_cons_zero, List.getElem_cons_succ, Array.getInternal_eq_getElem, List.setIfInBounds_toArray, List.set_cons_zero, List.set_cons_succ])
      refine wpAnyH_take (i := 10) (v := ?_) rfl (by kernel_rfl) (by kernel_rfl) (by kernel_rfl) (fun _ _ _ h => h) (Or.inl ⟨by rfl, ?_⟩) (by assumption) ?_
      rotate_left
      · intro w hSw; (try dsimp only at hSw); go_simp; (try with_reducible rfl)
      (try simp only [Act.put, List.getElem_toArray, List.getElem_cons_zero, List.getElem_cons_succ, Array.getInternal_eq_getElem, List.setIfInBounds_toArray, List.set_cons_zero, List.set_cons_succ])
      refine wpAnyH_take (i := 11) (v := ?_) rfl (by kernel_rfl) (by kernel_rfl) (by kernel_rfl) (fun _ _ _ h => h) (Or.inl ⟨by rfl, ?_⟩) (by assumption) ?_
      rotate_left
      · intro w hSw; (try dsimp only at hSw); go_simp; (try with_reducible rfl)
      (try simp only [Act.put, List.getElem_toArray, List.getElem_cons_zero, List.getElem_cons_succ, Array.getInternal_eq_getElem, List.setIfInBounds_toArray, List.set_cons_zero, List.set_cons_succ])
      refine wpAnyH_take (i := 12) (v := ?_) rfl (by kernel_rfl) (by kernel_rfl) (by kernel_rfl) (fun _ _ _ h => h) (Or.inl ⟨by rfl, ?_⟩) (by assumption) ?_
      rotate_left
      · intro w hSw; (try dsimp only at hSw); go_simp; (try with_reducible rfl)
      (try simp only [Act.put, List.getElem_toArray, List.getElem_cons_zero, List.getElem_cons_succ, Array.getInternal_eq_getElem, List.setIfInBounds_toArray, List.set_cons_zero, List.set_cons_succ])
      refine wpAnyH_take (i := 13) (v := ?_) rfl (by kernel_rfl) (by kernel_rfl) (by kernel_rfl) (fun _ _ _ h => h) (Or.inl ⟨by rfl, ?_⟩) (by assumption) ?_
      rotate_left
      · intro w hSw; (try dsimp only at hSw); go_simp; (try with_reducible rfl)
      (try simp only [Act.put, List.getElem_toArray, List.getElem_cons_zero, List.getElem_cons_succ, Array.getInternal_eq_getElem, List.setIfInBounds_toArray, List.set_cons_zero, List.set_cons_succ])
      refine wpAnyH_take (i := 14) (v := ?_) rfl (by kernel_rfl) (by kernel_rfl) (by kernel_rfl) (fun _ _ _ h => h) (Or.inl ⟨by rfl, ?_⟩) (by assumption) ?_
      rotate_left
      · intro w hSw; (try dsimp only at hSw); go_simp; (try with_reducible rfl)
      (try simp only [Act.put, List.getElem_toArray, List.getElem_cons_zero, List.getElem_cons_succ, Array.getInternal_eq_getElem, List.setIfInBounds_toArray, List.set_cons_zero, List.set_cons_succ])
      refine wpAnyH_take (i := 15) (v := ?_) rfl (by kernel_rfl) (by kernel_rfl) (by kernel_rfl) (fun _ _ _ h => h) (Or.inl ⟨by rfl, ?_⟩) (by assumption) ?_
      rotate_left
      · intro w hSw; (try dsimp only at hSw); go_simp; (try with_reducible rfl)
      (try simp only [Act.put, List.getElem_toArray, List.getElem_cons_zero, List.getElem_cons_succ, Array.getInternal_eq_getElem, List.setIfInBounds_toArray, List.set_cons_zero, List.set_cons_succ])
      refine wpAnyH_take (i := 16) (v := ?_) rfl (by kernel_rfl) (by kernel_rfl) (by kernel_rfl) (fun _ _ _ h => h) (Or.inl ⟨by rfl, ?_⟩) (by assumption) ?_
      rotate_left
      · intro w hSw; (try dsimp only at hSw); go_simp; (try with_reducible rfl)
      (try simp only [Act.put, List.getElem_toArray, List.getElem_cons_zero, List.getElem_cons_succ, Array.getInternal_eq_getElem, List.setIfInBounds_toArray, List.set_cons_zero, List.set_cons_succ])
      refine wpAnyH_take (i := 17) (v := ?_) rfl (by kernel_rfl) (by kernel_rfl) (by kernel_rfl) (fun _ _ _ h => h) (Or.inl ⟨by rfl, ?_⟩) (by assumption) ?_
      rotate_left
      · intro w hSw; (try dsimp only at hSw); go_simp; (try with_reducible rfl)
      (try simp only [Act.put, List.getElem_toArray, List.getElem_cons_zero, List.getElem_cons_succ, Array.getInternal_eq_getElem, List.setIfInBounds_toArray, List.set_cons_zero, List.set_cons_succ])
      refine wpAnyH_take (i := 18) (v := ?_) rfl (by kernel_rfl) (by kernel_rfl) (by kernel_rfl) (fun _ _ _ h => h) (Or.inl ⟨by rfl, ?_⟩) (by assumption) ?_
      rotate_left
      · intro w hSw; (try dsimp only at hSw); go_simp; (try with_reducible rfl)
      (try simp only [Act.put, List.getElem_toArray, List.getElem_cons_zero, List.getElem_cons_succ, Array.getInternal_eq_getElem, List.setIfInBounds_toArray, List.set_cons_zero, List.set_cons_succ])
      refine wpAnyH_take (i := 19) (v := ?_) rfl (by kernel_rfl) (by kernel_rfl) (by kernel_rfl) (fun _ _ _ h => h) (Or.inl ⟨by rfl, ?_⟩) (by assumption) ?_
      rotate_left
      · intro w hSw; (try dsimp only at hSw); go_simp; (try with_reducible rfl)
      (try simp only [Act.put, List.getElem_toArray, List.getElem_cons_zero, List.getElem_cons_succ, Array.getInternal_eq_getElem, List.setIfInBounds_toArray, List.set_cons_zero, List.set_cons_succ])
      refine wpAnyH_take (i := 20) (v := ?_) rfl (by kernel_rfl) (by kernel_rfl) (by kernel_rfl) (fun _ _ _ h => h) (Or.inl ⟨by rfl, ?_⟩) (by assumption) ?_
      rotate_left
      · intro w hSw; (try dsimp only at hSw); go_simp; (try with_reducible rfl)
      (try simp only [Act.put, List.getElem_toArray, List.getElem_cons_zero, List.getElem_cons_succ, Array.getInternal_eq_getElem, List.setIfInBounds_toArray, List.set_cons_zero, List.set_cons_succ])
      refine wpAnyH_take (i := 21) (v := ?_) rfl (by kernel_rfl) (by kernel_rfl) (by kernel_rfl) (fun _ _ _ h => h) (Or.inl ⟨by rfl, ?_⟩) (by assumption) ?_
      rotate_left
      · intro w hSw; (try dsimp only at hSw); go_simp; (try with_reducible rfl)
      (try simp only [Act.put, List.getElem_toArray, List.getElem_cons_zero, List.getElem_cons_succ, Array.getInternal_eq_getElem, List.setIfInBounds_toArray, List.set_cons_zero, List.set_cons_succ])
      refine wpAnyH_take (i := 22) (v := ?_) rfl (by kernel_rfl) (by kernel_rfl) (by kernel_rfl) (fun _ _ _ h => h) (Or.inl ⟨by rfl, ?_⟩) (by assumption) ?_
      rotate_left
      · intro w hSw; (try dsimp only at hSw); go_simp; (try with_reducible rfl)
      (try simp only [Act.put, List.getElem_toArray, List.getElem_cons_zero, List.getElem_cons_succ, Array.getInternal_eq_getElem, List.setIfInBounds_toArray, List.set_cons_zero, List.set_cons_succ])
      refine wpAnyH_take (i := 23) (v := ?_) rfl (by kernel_rfl) (by kernel_rfl) (by kernel_rfl) (fun _ _ _ h => h) (Or.inl ⟨by rfl, ?_⟩) (by assumption) ?_
      rotate_left
      · intro w hSw; (try dsimp only at hSw); go_simp; (try with_reducible rfl)
      (try simp only [Act.put, List.getElem_toArray, List.getElem_cons_zero, List.getElem_cons_succ, Array.getInternal_eq_getElem, List.setIfInBounds_toArray, List.set_cons_zero, List.set_cons_succ])
      refine wpAnyH_ready (rs := [24]) (by kernel_rfl) (by simp) ?_
      refine AllReadyH.cons rfl (fun K hK => ?_) AllReadyH.nil
      go_simp
      refine hK.out _ _ hHeld (fun hHeld => ?_)
      clear hK K
      (try simp only [Act.put, List.getElem_toArray, List.getElem_cons_zero, List.getElem_cons_succ, Array.getInternal_eq_getElem, List.setIfInBounds_toArray, List.set_cons_zero, List.set_cons_succ])
      refine wpAnyH_done (by kernel_rfl) ?_ _
      clear hHeld x1 z0 y1 c0 c3 hw1 hw2 hw3 hw4
      rw [HEQ.out]
      go_wp2
      go_roundw
      case rel => exact ⟨k + 1, by omega, by go_num, rfl, chain HST.out HXs.out⟩
      case measure => simp [intOf]; omega
    · obtain rfl : s.ths.length = k := by omega
      obtain ⟨many, hmany⟩ : ∃ m, m = msrN P s s.ths.length := ⟨_, rfl⟩
      have HMY := Lib.hid hmany
      rw [← hmany]
      have hmb : many ≤ 10000 := by
        have := HMB.out s.ths.length
        have h2 : s.ths.length * (160 + 300) ≤ 9 * (160 + 300) := Nat.mul_le_mul_right _ ht9
        omega
      clear hmany x1
      have HXW := Lib.hid (HX.out.below HL.out HX.out.lt)
      have HYW := Lib.hid (HY.out.below HL.out HY.out.lt)
      have HBW1 := Lib.hid (chain HB2.out HL.out)
      have HSI := Lib.hid (show AnyS B w.heap.size wr (.slice A7 s.mem.length c7) (.slice A1 s.ths.length c1) s from .inl (HUM.out.below ((chain HB2.out HL.out).mono hBB)))
      go_wp2
      go_loopw [10] (fun i wr => EnR P s many B w gp gs #[.slice P0 P.init.length d0, .slice P1 P.ths.length d1] i wr) (fun i _ => many + 1 - (intOf i).toNat)
      case atStart => exact ⟨0, s, _, _, _, _, rfl, HOK.out, HWN.out, by unfold msr; rw [HMY.out]; omega, HXW.out, HYW.out, HSI.out, HBW1.out⟩
      case round =>
        clear HXW HYW HBW1 HSI HL HST y1
        obtain ⟨i, S, A4, c4, B4, e4, rfl, hok, hwn, hms, hqx, hqa, hsi, hl⟩ := hrel
        have HOS := Lib.hid hok
        have HWA := Lib.hid hwn
        have HMS := Lib.hid hms
        have him : i ≤ many := by omega
        have HXB := Lib.hid hqx
        have HQA := Lib.hid hqa
        have HSI := Lib.hid hsi
        have HL := Lib.hid hl
        have HSZ := Lib.hid (show B ≤ wr.heap.size from Nat.le_trans hBB hl.size)
        have HLS := Lib.hid (show S.mem.length = s.mem.length ∧ S.ths.length = s.ths.length from ⟨hok.mem.trans HOK.out.mem.symm, hok.ths.trans HOK.out.ths.symm⟩)
        have HPW := Lib.hid (fun W (hW : Below w.heap.size w W) => show PgV W.heap.size W (.agg #[.slice P0 P.init.length d0, .slice P1 P.ths.length d1]) P from ⟨_, _, rfl, (HPM.out.below (hW.mono hBB)).more (Nat.le_trans hBB hW.size)⟩)
        clear hok hwn hqx hqa hsi hl hms
        have x0 := HXB.out.cell 0 _ rfl
        have x1 := HXB.out.cell 1 _ rfl
        have a0 := HQA.out.cell 0 _ rfl
        have a1 := HQA.out.cell 1 _ rfl
        go_wp2_with fail
        refine (tpicks_any _ (HPW.out _ HL.out) (HSI.out.sv HSZ.out) (Nat.le_refl _) HOS.out (by rw [HLS.out.2]; exact ht9)).mono ?_
        rintro e V5 ⟨vk, rfl, hok, hb⟩
        obtain ⟨Ak, ck, rfl⟩ := own_slice hok
        have HOKK := Lib.hid hok
        have HV5 := Lib.hid hb
        clear hb hok x0 x1 a0 a1
        have x0 := (HXB.out.below HV5.out HXB.out.lt).cell 0 _ rfl
        have x1 := (HXB.out.below HV5.out HXB.out.lt).cell 1 _ rfl
        have a0 := (HQA.out.below HV5.out HQA.out.lt).cell 0 _ rfl
        have a1 := (HQA.out.below HV5.out HQA.out.lt).cell 1 _ rfl
        have HSZ5 := Lib.hid (show B ≤ V5.heap.size from Nat.le_trans HSZ.out HV5.out.size)
        have HSI5 := Lib.hid (HSI.out.below HV5.out HSZ.out)
        have HX5 := Lib.hid (HXB.out.below HV5.out HXB.out.lt)
        have HQ5 := Lib.hid (HQA.out.below HV5.out HQA.out.lt)
        have HL5 := Lib.hid (chain HL.out HV5.out)
        have HPL := Lib.hid (show (pks P S).length ≤ 18 from by have := pkN_len P S S.ths.length; rw [HLS.out.2] at this; unfold pks; rw [HLS.out.2]; omega)
        obtain ⟨pl, hpl⟩ : ∃ n, n = (pks P S).length := ⟨_, rfl⟩
        have HPE := Lib.hid hpl
        rw [← hpl] at HPL ⊢
        have hpl18 := HPL.out
        clear hpl
        by_cases hp0 : pl = 0
        · have HDN := Lib.hid (fun k (h1 : k < S.ths.length) (h2 : k < P.ths.length) => pks_nil HOS.out (List.eq_nil_of_length_eq_zero (by rw [← HPE.out]; exact hp0)) h1 h2)
          subst hp0
          go_wp2
          go_loopw [12] (fun i wr => ∃ k : Nat, k ≤ s.ths.length ∧ i = .int .i64 k ∧ Below V5.heap.size V5 wr) (fun i _ => s.ths.length - (intOf i).toNat)
          case atStart => exact ⟨0, Nat.zero_le _, rfl, Below.refl _ _⟩
          case round =>
            clear x0 x1 a0 a1
            obtain ⟨k, hk, rfl, hbw⟩ := hrel
            have HBW5 := Lib.hid hbw
            have HLW := Lib.hid (chain HL5.out hbw)
            have x1 := (HX5.out.below hbw HX5.out.lt).cell 1 _ rfl
            have a1 := (HQ5.out.below hbw HQ5.out.lt).cell 1 _ rfl
            clear hbw
            by_cases hlt : k < s.ths.length
            · have hkt : k < P.ths.length := by rw [← HTL.out]; exact hlt
              have hkS : k < S.ths.length := by rw [HLS.out.2]; exact hlt
              obtain ⟨b2, f2, rfl, hb2, hc2⟩ := HL3.out (by omega)
              obtain ⟨uu, z0, hS⟩ := hc2 k hkt
              obtain ⟨A5, c5, rfl, n1, n2, -⟩ := hS
              obtain ⟨At, ct, et, -, -, -, h3⟩ := (HSI5.out.st HSZ5.out).2
              injection et with et1 et2 et3
              clear et2
              subst et1 et3
              obtain ⟨b1, f1, rfl, hb1, hc1⟩ := h3 (by omega)
              obtain ⟨vr, vb, c0, -, -, c3, -, hW⟩ := hc1 k hkS
              obtain ⟨Ab, cb, rfl, q1, q2, -⟩ := hW
              obtain ⟨d1', d2'⟩ := HDN.out k hkS hkt
              rw [d1'] at c0
              rw [d2'] at c3
              rw [List.length_nil] at c3
              replace z0 := ((HLW.out.mono hBB).cell (p := ⟨b2, f2 + k, none⟩) hb2).trans z0
              replace c0 := kc HBW5.out c0
              replace c3 := kc HBW5.out c3
              clear hc1 hc2 d1' d2' q1 q2
              unfold maxLen at n2
              obtain ⟨sl, hsl'⟩ : ∃ b, b = P.ths[k].length := ⟨_, rfl⟩
              rw [← hsl'] at c0 z0 n1
              clear hsl'
              have hss : ((sl : Int) != (sl : Int)) = false := by simp
              go_upto_region 17 with fail
              refine wp_region_held_drew (S := (fun w' => (w'.cell? ⟨gp, 1, none⟩ = some (.slice (some ⟨b2, f2, none⟩) P.ths.length d1) ∧ w'.cell? ⟨b2, f2 + k, none⟩ = some (.slice A5 sl c5) ∧ w'.cell? ⟨gs, 1, none⟩ = some (.slice (some ⟨b1, f1, none⟩) s.ths.length e4) ∧ w'.cell? ⟨b1, f1 + k * 4, none⟩ = some (.int .i64 (sl : Int)) ∧ w'.cell? ⟨b1, f1 + k * 4 + 3, none⟩ = some (.slice Ab 0 cb) ∧ True) ∧ Below wr.heap.size wr w')) (by kernel_rfl) ⟨⟨x1, z0, a1, c0, c3, trivial⟩, below_drewN (Below.refl _ _) 1⟩ (fun hHeld => ?_)
              obtain ⟨Xs, hXs⟩ : ∃ W, W = wr.drew := ⟨_, rfl⟩
              have HXs := Lib.hid (show Below wr.heap.size wr Xs from by rw [hXs]; exact below_drewN (Below.refl _ _) 1)
              rw [← hXs] at hHeld ⊢
              clear hXs
              refine wpAnyH_take (i := 0) (v := ?_) rfl (by kernel_rfl) (by kernel_rfl) (by kernel_rfl) (fun _ _ _ h => h) (Or.inl ⟨by rfl, ?_⟩) (by assumption) ?_
              rotate_left
              · intro w hSw; (try dsimp only at hSw); go_simp; (try with_reducible rfl)
              (try simp only [Act.put, List.getElem_toArray, List.getElem_cons_zero, List.getElem_cons_succ, Array.getInternal_eq_getElem, List.setIfInBounds_toArray, List.set_cons_zero, List.set_cons_succ])
              refine wpAnyH_take (i := 1) (v := ?_) rfl (by kernel_rfl) (by kernel_rfl) (by kernel_rfl) (fun _ _ _ h => h) (Or.inl ⟨by rfl, ?_⟩) (by assumption) ?_
              rotate_left
              · intro w hSw; (try dsimp only at hSw); go_simp; (try with_reducible rfl)
              (try simp only [Act.put, List.getElem_toArray, List.getElem_cons_zero, List.getElem_cons_succ, Array.getInternal_eq_getElem, List.setIfInBounds_toArray, List.set_cons_zero, List.set_cons_succ])
              refine wpAnyH_take (i := 2) (v := ?_) rfl (by kernel_rfl) (by kernel_rfl) (by kernel_rfl) (fun _ _ _ h => h) (Or.inl ⟨by rfl, ?_⟩) (by assumption) ?_
              rotate_left
              · intro w hSw; (try dsimp only at hSw); go_simp; (try with_reducible rfl)
              (try simp only [Act.put, List.getElem_toArray, List.getElem_cons_zero, List.getElem_cons_succ, Array.getInternal_eq_getElem, List.setIfInBounds_toArray, List.set_cons_zero, List.set_cons_succ])
              refine wpAnyH_take (i := 3) (v := ?_) rfl (by kernel_rfl) (by kernel_rfl) (by kernel_rfl) (fun _ _ _ h => h) (Or.inl ⟨by rfl, ?_⟩) (by assumption) ?_
              rotate_left
              · intro w hSw; (try dsimp only at hSw); go_simp; (try with_reducible rfl)
              (try simp only [Act.put, List.getElem_toArray, List.getElem_cons_zero, List.getElem_cons_succ, Array.getInternal_eq_getElem, List.setIfInBounds_toArray, List.set_cons_zero, List.set_cons_succ])
              refine wpAnyH_take (i := 4) (v := ?_) rfl (by kernel_rfl) (by kernel_rfl) (by kernel_rfl) (fun _ _ _ h => h) (Or.inl ⟨by rfl, ?_⟩) (by assumption) ?_
              rotate_left
              · intro w hSw; (try dsimp only at hSw); go_simp; (try with_reducible rfl)
              (try simp only [Act.put, List.getElem_toArray, List.getElem_cons_zero, List.getElem_cons_succ, Array.getInternal_eq_getElem, List.setIfInBounds_toArray, List.set_cons_zero, List.set_cons_succ])
              refine wpAnyH_take (i := 5) (v := ?_) rfl (by kernel_rfl) (by kernel_rfl) (by kernel_rfl) (fun _ _ _ h => h) (Or.inl ⟨by rfl, ?_⟩) (by assumption) ?_
              rotate_left
              · intro w hSw; (try dsimp only at hSw); go_simp; (try with_reducible rfl)
              (try simp only [Act.put, List.getElem_toArray, List.getElem_cons_zero, List.getElem_cons_succ, Array.getInternal_eq_getElem, List.setIfInBounds_toArray, List.set_cons_zero, List.set_cons_succ])
              refine wpAnyH_take (i := 6) (v := ?_) rfl (by kernel_rfl) (by kernel_rfl) (by kernel_rfl) (fun _ _ _ h => h) (Or.inl ⟨by rfl, ?_⟩) (by assumption) ?_
              rotate_left
              · intro w hSw; (try dsimp only at hSw); go_simp; (try with_reducible rfl)
              (try simp only [Act.put, List.getElem_toArray, List.getElem_cons_zero, List.getElem_cons_succ, Array.getInternal_eq_getElem, List.setIfInBounds_toArray, List.set_cons_zero, List.set_cons_succ])
              refine wpAnyH_take (i := 7) (v := ?_) rfl (by kernel_rfl) (by kernel_rfl) (by kernel_rfl) (fun _ _ _ h => h) (Or.inl ⟨by rfl, ?_⟩) (by assumption) ?_
              rotate_left
              · intro w hSw; (try dsimp only at hSw); go_simp; (try with_reducible rfl)
              (try simp only [Act.put, List.getElem_toArray, List.getElem_cons_zero, List.getElem_cons_succ, Array.getInternal_eq_getElem, List.setIfInBounds_toArray, List.set_cons_zero, List.set_cons_succ])
              refine wpAnyH_take (i := 8) (v := ?_) rfl (by kernel_rfl) (by kernel_rfl) (by kernel_rfl) (fun _ _ _ h => h) (Or.inl ⟨by rfl, ?_⟩) (by assumption) ?_
              rotate_left
              · intro w hSw; (try dsimp only at hSw); go_simp; (try with_reducible rfl)
              (try simp only [Act.put, List.getElem_toArray, List.getElem_cons_zero, List.getElem_cons_succ, Array.getInternal_eq_getElem, List.setIfInBounds_toArray, List.set_cons_zero, List.set_cons_succ])
              refine wpAnyH_take (i := 9) (v := ?_) rfl (by kernel_rfl) (by kernel_rfl) (by kernel_rfl) (fun _ _ _ h => h) (Or.inl ⟨by rfl, ?_⟩) (by assumption) ?_
              rotate_left
              · intro w hSw; (try dsimp only at hSw); go_simp; (try with_reducible rfl)
              (try simp only [Act.put, List.getElem_toArray, List.getElem_cons_zero, List.getElem_cons_succ, Array.getInternal_eq_getElem, List.setIfInBounds_toArray, List.set_cons_zero, List.set_cons_succ])
              refine wpAnyH_take (i := 10) (v := ?_) rfl (by kernel_rfl) (by kernel_rfl) (by kernel_rfl) (fun _ _ _ h => h) (Or.inl ⟨by rfl, ?_⟩) (by assumption) ?_
              rotate_left
              · intro w hSw; (try dsimp only at hSw); go_simp; (try with_reducible rfl)
              (try simp only [Act.put, List.getElem_toArray, List.getElem_cons_zero, List.getElem_cons_succ, Array.getInternal_eq_getElem, List.setIfInBounds_toArray, List.set_cons_zero, List.set_cons_succ])
              refine wpAnyH_take (i := 11) (v := ?_) rfl (by kernel_rfl) (by kernel_rfl) (by kernel_rfl) (fun _ _ _ h => h) (Or.inl ⟨by rfl, ?_⟩) (by assumption) ?_
              rotate_left
              · intro w hSw; (try dsimp only at hSw); go_simp; (try with_reducible rfl)
              (try simp only [Act.put, List.getElem_toArray, List.getElem_cons_zero, List.getElem_cons_succ, Array.getInternal_eq_getElem, List.setIfInBounds_toArray, List.set_cons_zero, List.set_cons_succ])
              refine wpAnyH_take (i := 12) (v := ?_) rfl (by kernel_rfl) (by kernel_rfl) (by kernel_rfl) (fun _ _ _ h => h) (Or.inl ⟨by rfl, ?_⟩) (by assumption) ?_
              rotate_left
              · intro w hSw; (try dsimp only at hSw); go_simp; (try with_reducible rfl)
              (try simp only [Act.put, List.getElem_toArray, List.getElem_cons_zero, List.getElem_cons_succ, Array.getInternal_eq_getElem, List.setIfInBounds_toArray, List.set_cons_zero, List.set_cons_succ])
              refine wpAnyH_take (i := 13) (v := ?_) rfl (by kernel_rfl) (by kernel_rfl) (by kernel_rfl) (fun _ _ _ h => h) (Or.inl ⟨by rfl, ?_⟩) (by assumption) ?_
              rotate_left
              · intro w hSw; (try dsimp only at hSw); go_simp; (try with_reducible rfl)
              (try simp only [Act.put, List.getElem_toArray, List.getElem_cons_zero, List.getElem_cons_succ, Array.getInternal_eq_getElem, List.setIfInBounds_toArray, List.set_cons_zero, List.set_cons_succ])
              refine wpAnyH_take (i := 14) (v := ?_) rfl (by kernel_rfl) (by kernel_rfl) (by kernel_rfl) (fun _ _ _ h => h) (Or.inl ⟨by rfl, ?_⟩) (by assumption) ?_
              rotate_left
              · intro w hSw; (try dsimp only at hSw); go_simp; (try with_reducible rfl)
              (try simp only [Act.put, List.getElem_toArray, List.getElem_cons_zero, List.getElem_cons_succ, Array.getInternal_eq_getElem, List.setIfInBounds_toArray, List.set_cons_zero, List.set_cons_succ])
              refine wpAnyH_take (i := 15) (v := ?_) rfl (by kernel_rfl) (by kernel_rfl) (by kernel_rfl) (fun _ _ _ h => h) (Or.inl ⟨by rfl, ?_⟩) (by assumption) ?_
              rotate_left
              · intro w hSw; (try dsimp only at hSw); go_simp; (try with_reducible rfl)
              (try simp only [Act.put, List.getElem_toArray, List.getElem_cons_zero, List.getElem_cons_succ, Array.getInternal_eq_getElem, List.setIfInBounds_toArray, List.set_cons_zero, List.set_cons_succ])
              refine wpAnyH_take (i := 16) (v := ?_) rfl (by kernel_rfl) (by kernel_rfl) (by kernel_rfl) (fun _ _ _ h => h) (Or.inl ⟨by rfl, ?_⟩) (by assumption) ?_
              rotate_left
              · intro w hSw; (try dsimp only at hSw); go_simp; (try with_reducible rfl)
              (try simp only [Act.put, List.getElem_toArray, List.getElem_cons_zero, List.getElem_cons_succ, Array.getInternal_eq_getElem, List.setIfInBounds_toArray, List.set_cons_zero, List.set_cons_succ])
              refine wpAnyH_take (i := 17) (v := ?_) rfl (by kernel_rfl) (by kernel_rfl) (by kernel_rfl) (fun _ _ _ h => h) (Or.inl ⟨by rfl, ?_⟩) (by assumption) ?_
              rotate_left
              · intro w hSw; (try dsimp only at hSw); go_simp; (try with_reducible rfl)
              (try simp only [Act.put, List.getElem_toArray, List.getElem_cons_zero, List.getElem_cons_succ, Array.getInternal_eq_getElem, List.setIfInBounds_toArray, List.set_cons_zero, List.set_cons_succ])
              refine wpAnyH_take (i := 18) (v := ?_) rfl (by kernel_rfl) (by kernel_rfl) (by kernel_rfl) (fun _ _ _ h => h) (Or.inl ⟨by rfl, ?_⟩) (by assumption) ?_
              rotate_left
              · intro w hSw; (try dsimp only at hSw); go_simp; (try with_reducible rfl)
              (try simp only [Act.put, List.getElem_toArray, List.getElem_cons_zero, List.getElem_cons_succ, Array.getInternal_eq_getElem, List.setIfInBounds_toArray, List.set_cons_zero, List.set_cons_succ])
              refine wpAnyH_take (i := 19) (v := ?_) rfl (by kernel_rfl) (by kernel_rfl) (by kernel_rfl) (fun _ _ _ h => h) (Or.inl ⟨by rfl, ?_⟩) (by assumption) ?_
              rotate_left
              · intro w hSw; (try dsimp only at hSw); go_simp; (try with_reducible rfl)
              (try simp only [Act.put, List.getElem_toArray, List.getElem_cons_zero, List.getElem_cons_succ, Array.getInternal_eq_getElem, List.setIfInBounds_toArray, List.set_cons_zero, List.set_cons_succ])
              refine wpAnyH_take (i := 20) (v := ?_) rfl (by kernel_rfl) (by kernel_rfl) (by kernel_rfl) (fun _ _ _ h => h) (Or.inl ⟨by rfl, ?_⟩) (by assumption) ?_
              rotate_left
              · intro w hSw; (try dsimp only at hSw); go_simp; (try with_reducible rfl)
              (try simp only [Act.put, List.getElem_toArray, List.getElem_cons_zero, List.getElem_cons_succ, Array.getInternal_eq_getElem, List.setIfInBounds_toArray, List.set_cons_zero, List.set_cons_succ])
              refine wpAnyH_take (i := 21) (v := ?_) rfl (by kernel_rfl) (by kernel_rfl) (by kernel_rfl) (fun _ _ _ h => h) (Or.inl ⟨by rfl, ?_⟩) (by assumption) ?_
              rotate_left
              · intro w hSw; (try dsimp only at hSw); go_simp; (try with_reducible rfl)
              (try simp only [Act.put, List.getElem_toArray, List.getElem_cons_zero, List.getElem_cons_succ, Array.getInternal_eq_getElem, List.setIfInBounds_toArray, List.set_cons_zero, List.set_cons_succ])
              refine wpAnyH_take (i := 22) (v := ?_) rfl (by kernel_rfl) (by kernel_rfl) (by kernel_rfl) (fun _ _ _ h => h) (Or.inl ⟨by rfl, ?_⟩) (by assumption) ?_
              rotate_left
              · intro w hSw; (try dsimp only at hSw); go_simp; (try with_reducible rfl)
              (try simp only [Act.put, List.getElem_toArray, List.getElem_cons_zero, List.getElem_cons_succ, Array.getInternal_eq_getElem, List.setIfInBounds_toArray, List.set_cons_zero, List.set_cons_succ])
              refine wpAnyH_done (by kernel_rfl) ?_ _
              clear hHeld x1 z0 a1 c0 c3 hss
              go_wp2
              go_roundw
              case rel => exact ⟨k + 1, by omega, by go_num, chain HBW5.out HXs.out⟩
              case measure => simp [intOf]; omega
            · obtain rfl : s.ths.length = k := by omega
              go_wp2
              go_ret
              exact ⟨rfl, HLW.out⟩
        have hpp : 0 < pl := by omega
        go_upto_if 102 with fail
        go_cut [13] (fun v wx => (∃ q : Nat, q < pl ∧ v = .int .i64 q) ∧ wx = V5)
        case first =>
          have hmodz : ¬ pl = 0 := by omega
          have hmz2 : ((pl : Int) == 0) = false := by rw [beq_eq_false_iff_ne]; omega
          by_cases hig : i < gs1.length
          · obtain ⟨bg, fg, rfl, hbg, hcg⟩ := HG3.out (by omega)
            have z0 := ((HL5.out.mono hBB).cell (p := ⟨bg, fg + i, none⟩) hbg).trans (hcg i hig)
            have hx := HGB.out _ (List.getElem_mem hig)
            generalize gs1[i] = bx at *
            obtain ⟨u, hu⟩ : ∃ u, u = bx % pl := ⟨_, rfl⟩
            have HUL := Lib.hid (show u < pl from by rw [hu]; exact Nat.mod_lt _ hpp)
            have hrem : (bx : Int).tmod (pl : Int) = (u : Int) := by rw [hu]; rfl
            clear hcg hu
            go_wp2_with fail
            go_meet
            exact ⟨⟨u, HUL.out, rfl⟩, rfl⟩
          · go_wp2_with fail
            go_meet
            exact ⟨⟨0, hpp, rfl⟩, rfl⟩
        case rest =>
          obtain ⟨⟨q, hq, rfl⟩, hwx⟩ := hcut
          replace hwx := hwx.symm
          subst hwx
          have hqk : q < (pks P S).length := by rw [← HPE.out]; exact hq
          have HMM := Lib.hid (show (pks P S)[q] ∈ pks P S from List.getElem_mem hqk)
          obtain ⟨gl', fl', hge, -, hcl⟩ := pk_at (c := ck) (show 0 < (pks P S).length → _ from by obtain ⟨A', c', e, -, -, -, h⟩ := (Rw.own HOKK.out (Nat.le_refl _) : PkR _ _ _ (pks P S)); injection e with e1 _ e3; subst e1; exact h) (by omega)
          subst hge
          obtain ⟨z0, z1⟩ := hcl q hqk
          generalize (pks P S)[q] = kp at *
          obtain ⟨ka, kb⟩ := kp
          have HIS := Lib.hid (show (tst P S (ka : Int) kb).isSome = true from pks_mem.1 HMM.out)
          dsimp only at z0 z1
          clear hcl
          go_upto_region 23 with fail
          go_cut [14, 15] (fun vb vi wx => ∃ (g : Nat) (A : Option Addr) (c : Nat) (B : Option Addr) (e : Nat) (ps : List TV), vb = .pointer (some ⟨g, 0, none⟩) ∧ vi = .bool (true) ∧ BoxC wx g 28 #[.slice A (s.mem.length) c, .slice B (s.ths.length) e] ∧ OwnSt V5.heap.size wx (.slice A (s.mem.length) c) (.slice B (s.ths.length) e) ((tst P S (ka : Int) kb).getD S) ps ∧ Below V5.heap.size V5 wx ∧ V5.heap.size ≤ g)
          case first =>
            refine wp_region_held_drew (S := (fun w' => (w'.cell? ⟨gp, 0, none⟩ = some (.slice P0 P.init.length d0) ∧ w'.cell? ⟨gp, 1, none⟩ = some (.slice P1 P.ths.length d1) ∧ w'.cell? ⟨gs, 0, none⟩ = some (.slice A4 s.mem.length c4) ∧ w'.cell? ⟨gs, 1, none⟩ = some (.slice B4 s.ths.length e4) ∧ w'.cell? ⟨gl', fl' + q * 2, none⟩ = some (.int .i64 (ka : Int)) ∧ w'.cell? ⟨gl', fl' + q * 2 + 1, none⟩ = some (.bool kb) ∧ True) ∧ Below V5.heap.size V5 w')) (by kernel_rfl) ⟨⟨x0, x1, a0, a1, z0, z1, trivial⟩, below_drewN (Below.refl _ _) 1⟩ (fun hHeld => ?_)
            obtain ⟨Xs, hXs⟩ : ∃ W, W = V5.drew := ⟨_, rfl⟩
            have HXs := Lib.hid (show Below V5.heap.size V5 Xs from by rw [hXs]; exact below_drewN (Below.refl _ _) 1)
            rw [← hXs] at hHeld ⊢
            clear hXs
            refine wpAnyH_take (i := 0) (v := ?_) rfl (by kernel_rfl) (by kernel_rfl) (by kernel_rfl) (fun _ _ _ h => h) (Or.inl ⟨by rfl, ?_⟩) (by assumption) ?_
            rotate_left
            · intro w hSw; (try dsimp only at hSw); go_simp; (try with_reducible rfl)
            (try simp only [Act.put, List.getElem_toArray, List.getElem_cons_zero, List.getElem_cons_succ, Array.getInternal_eq_getElem, List.setIfInBounds_toArray, List.set_cons_zero, List.set_cons_succ])
            refine wpAnyH_take (i := 1) (v := ?_) rfl (by kernel_rfl) (by kernel_rfl) (by kernel_rfl) (fun _ _ _ h => h) (Or.inl ⟨by rfl, ?_⟩) (by assumption) ?_
            rotate_left
            · intro w hSw; (try dsimp only at hSw); go_simp; (try with_reducible rfl)
            (try simp only [Act.put, List.getElem_toArray, List.getElem_cons_zero, List.getElem_cons_succ, Array.getInternal_eq_getElem, List.setIfInBounds_toArray, List.set_cons_zero, List.set_cons_succ])
            refine wpAnyH_take (i := 2) (v := ?_) rfl (by kernel_rfl) (by kernel_rfl) (by kernel_rfl) (fun _ _ _ h => h) (Or.inl ⟨by rfl, ?_⟩) (by assumption) ?_
            rotate_left
            · intro w hSw; (try dsimp only at hSw); go_simp; (try with_reducible rfl)
            (try simp only [Act.put, List.getElem_toArray, List.getElem_cons_zero, List.getElem_cons_succ, Array.getInternal_eq_getElem, List.setIfInBounds_toArray, List.set_cons_zero, List.set_cons_succ])
            refine wpAnyH_take (i := 3) (v := ?_) rfl (by kernel_rfl) (by kernel_rfl) (by kernel_rfl) (fun _ _ _ h => h) (Or.inl ⟨by rfl, ?_⟩) (by assumption) ?_
            rotate_left
            · intro w hSw; (try dsimp only at hSw); go_simp; (try with_reducible rfl)
            (try simp only [Act.put, List.getElem_toArray, List.getElem_cons_zero, List.getElem_cons_succ, Array.getInternal_eq_getElem, List.setIfInBounds_toArray, List.set_cons_zero, List.set_cons_succ])
            refine wpAnyH_take (i := 4) (v := ?_) rfl (by kernel_rfl) (by kernel_rfl) (by kernel_rfl) (fun _ _ _ h => h) (Or.inl ⟨by rfl, ?_⟩) (by assumption) ?_
            rotate_left
            · intro w hSw; (try dsimp only at hSw); go_simp; (try with_reducible rfl)
            (try simp only [Act.put, List.getElem_toArray, List.getElem_cons_zero, List.getElem_cons_succ, Array.getInternal_eq_getElem, List.setIfInBounds_toArray, List.set_cons_zero, List.set_cons_succ])
            refine wpAnyH_take (i := 5) (v := ?_) rfl (by kernel_rfl) (by kernel_rfl) (by kernel_rfl) (fun _ _ _ h => h) (Or.inl ⟨by rfl, ?_⟩) (by assumption) ?_
            rotate_left
            · intro w hSw; (try dsimp only at hSw); go_simp; (try with_reducible rfl)
            (try simp only [Act.put, List.getElem_toArray, List.getElem_cons_zero, List.getElem_cons_succ, Array.getInternal_eq_getElem, List.setIfInBounds_toArray, List.set_cons_zero, List.set_cons_succ])
            refine wpAnyH_ready (rs := [6, 10]) (by kernel_rfl) (by simp) ?_
            refine AllReadyH.cons rfl (fun K hK => ?_) (AllReadyH.cons rfl (fun K hK => ?_) (AllReadyH.nil))
            · -- 6 first
              go_simp
              refine (tstep_any (ka : Int) kb _ (HPW.out _ (chain HL5.out hHeld.2)) ((HSI5.out.below hHeld.2 HSZ5.out).sv (Nat.le_trans HSZ5.out hHeld.2.size)) (Nat.le_refl _) HRP.out HOS.out (HWA.out.more (by omega))).mono ?_
              rintro e Xc ⟨vm, vt, psd, rfl, hos, hb⟩
              rw [HIS.out]
              obtain ⟨Ad, cd, rfl⟩ := own_slice (n := s.mem.length) (show Xc.ownsRow _ _ 1 vm (s.mem.length) _ from by have e := hos.mem; unfold OwnI at e; rwa [show ((tst P S (ka : Int) kb).getD S).mem.length = s.mem.length from (tst_glen HRP.out HOS.out).1.trans HLS.out.1] at e)
              obtain ⟨Bd, ed, rfl⟩ := own_slice (n := s.ths.length) (show Xc.ownsRow _ _ 4 vt (s.ths.length) _ from by have e := hos.ths; rwa [show ((tst P S (ka : Int) kb).getD S).ths.length = s.ths.length from (tst_glen HRP.out HOS.out).2.trans HLS.out.2] at e)
              have HOD := Lib.hid (show OwnSt V5.heap.size Xc (.slice Ad (s.mem.length) cd) (.slice Bd (s.ths.length) ed) ((tst P S (ka : Int) kb).getD S) psd from hos.base hHeld.2.size)
              have HBC := Lib.hid (chain hHeld.2 hb)
              refine hK.out _ _ ⟨⟨kc HBC.out x0, kc HBC.out x1, kc HBC.out a0, kc HBC.out a1, kc HBC.out z0, kc HBC.out z1, trivial⟩, HBC.out⟩ (fun hHeld => ?_)
              clear hK K
              (try simp only [Act.put, List.getElem_toArray, List.getElem_cons_zero, List.getElem_cons_succ, Array.getInternal_eq_getElem, List.setIfInBounds_toArray, List.set_cons_zero, List.set_cons_succ])
              clear hb hos
              refine wpAnyH_take (i := 7) (v := ?_) rfl (by kernel_rfl) (by kernel_rfl) (by kernel_rfl) (fun _ _ _ h => h) (Or.inl ⟨by rfl, ?_⟩) (by assumption) ?_
              rotate_left
              · intro w hSw; (try dsimp only at hSw); go_simp; (try with_reducible rfl)
              (try simp only [Act.put, List.getElem_toArray, List.getElem_cons_zero, List.getElem_cons_succ, Array.getInternal_eq_getElem, List.setIfInBounds_toArray, List.set_cons_zero, List.set_cons_succ])
              refine wpAnyH_take (i := 8) (v := ?_) rfl (by kernel_rfl) (by kernel_rfl) (by kernel_rfl) (fun _ _ _ h => h) (Or.inl ⟨by rfl, ?_⟩) (by assumption) ?_
              rotate_left
              · intro w hSw; (try dsimp only at hSw); go_simp; (try with_reducible rfl)
              (try simp only [Act.put, List.getElem_toArray, List.getElem_cons_zero, List.getElem_cons_succ, Array.getInternal_eq_getElem, List.setIfInBounds_toArray, List.set_cons_zero, List.set_cons_succ])
              refine wpAnyH_take (i := 9) (v := ?_) rfl (by kernel_rfl) (by kernel_rfl) (by kernel_rfl) (fun _ _ _ h => h) (Or.inl ⟨by rfl, ?_⟩) (by assumption) ?_
              rotate_left
              · intro w hSw; (try dsimp only at hSw); go_simp; (try with_reducible rfl)
              (try simp only [Act.put, List.getElem_toArray, List.getElem_cons_zero, List.getElem_cons_succ, Array.getInternal_eq_getElem, List.setIfInBounds_toArray, List.set_cons_zero, List.set_cons_succ])
              refine wpAnyH_ready (rs := [10]) (by kernel_rfl) (by simp) ?_
              refine AllReadyH.cons rfl (fun K hK => ?_) AllReadyH.nil
              have HBA := Lib.hid (below_al hHeld.2 (.cells #[.slice none 0 0, .slice none 0 0] 28))
              go_simp
              refine hK.out _ _ ⟨⟨kc HBA.out x0, kc HBA.out x1, kc HBA.out a0, kc HBA.out a1, kc HBA.out z0, kc HBA.out z1, trivial⟩, HBA.out⟩ (fun hHeld => ?_)
              clear hK K
              (try simp only [Act.put, List.getElem_toArray, List.getElem_cons_zero, List.getElem_cons_succ, Array.getInternal_eq_getElem, List.setIfInBounds_toArray, List.set_cons_zero, List.set_cons_succ])
              have HBa := Lib.hid (below_al (Below.refl Xc.heap.size Xc) (.cells #[.slice none 0 0, .slice none 0 0] 28))
              obtain ⟨Xa, hXa⟩ : ∃ W, W = Xc.alloc (.cells #[.slice none 0 0, .slice none 0 0] 28) := ⟨_, rfl⟩
              obtain ⟨ga, hga⟩ : ∃ g, g = Xc.heap.size := ⟨_, rfl⟩
              have HGa := Lib.hid (show V5.heap.size ≤ ga from by rw [hga]; exact HBC.out.size)
              have HQa := Lib.hid (show BoxC Xa ga 28 #[.slice none 0 0, .slice none 0 0] from by rw [hXa, hga]; exact BoxC.new Xc _ _)
              rw [← hXa] at hHeld HBA HBa ⊢
              (try rw [← hga])
              replace HOD := Lib.hid (HOD.out.below HBa.out)
              clear hXa hga HBa
              refine wpAnyH_ready (rs := [11]) (by kernel_rfl) (by simp) ?_
              refine AllReadyH.cons rfl (fun K hK => ?_) AllReadyH.nil
              have q0 := HQa.out.cell 0 _ rfl
              have q1 := HQa.out.cell 1 _ rfl
              have u0 := HQa.out.frozen 0
              have u1 := HQa.out.frozen 1
              have HBS := Lib.hid (show Below V5.heap.size V5 ((Xa.setCell ⟨ga, 0, none⟩ (.slice Ad (s.mem.length) cd)).setCell ⟨ga, 1, none⟩ (.slice Bd (s.ths.length) ed)) from (hHeld.2.setCell (p := ⟨ga, 0, none⟩) HGa.out _).setCell (p := ⟨ga, 1, none⟩) HGa.out _)
              have HQS := Lib.hid (show BoxC ((Xa.setCell ⟨ga, 0, none⟩ (.slice Ad (s.mem.length) cd)).setCell ⟨ga, 1, none⟩ (.slice Bd (s.ths.length) ed)) ga 28 #[(.slice Ad (s.mem.length) cd), (.slice Bd (s.ths.length) ed)] from (HQa.out.set 0 _).set 1 _)
              have HOS := Lib.hid (show OwnSt V5.heap.size ((Xa.setCell ⟨ga, 0, none⟩ (.slice Ad (s.mem.length) cd)).setCell ⟨ga, 1, none⟩ (.slice Bd (s.ths.length) ed)) (.slice Ad (s.mem.length) cd) (.slice Bd (s.ths.length) ed) ((tst P S (ka : Int) kb).getD S) psd from (HOD.out.box HQa.out (by decide) (by decide) (by decide) 0 _).box (HQa.out.set 0 _) (by decide) (by decide) (by decide) 1 _)
              go_simp
              refine hK.out _ _ ⟨⟨kc HBS.out x0, kc HBS.out x1, kc HBS.out a0, kc HBS.out a1, kc HBS.out z0, kc HBS.out z1, trivial⟩, HBS.out⟩ (fun hHeld => ?_)
              clear q0 q1 u0 u1
              clear hK K
              (try simp only [Act.put, List.getElem_toArray, List.getElem_cons_zero, List.getElem_cons_succ, Array.getInternal_eq_getElem, List.setIfInBounds_toArray, List.set_cons_zero, List.set_cons_succ])
              refine wpAnyH_ready (rs := [12]) (by kernel_rfl) (by simp) ?_
              refine AllReadyH.cons rfl (fun K hK => ?_) AllReadyH.nil
              go_simp
              refine hK.out _ _ hHeld (fun hHeld => ?_)
              clear hK K
              (try simp only [Act.put, List.getElem_toArray, List.getElem_cons_zero, List.getElem_cons_succ, Array.getInternal_eq_getElem, List.setIfInBounds_toArray, List.set_cons_zero, List.set_cons_succ])
              refine wpAnyH_done (by kernel_rfl) ?_ _
              clear hHeld
              go_wp2_with fail
              go_meet
              exact ⟨ga, Ad, cd, Bd, ed, psd, rfl, rfl, HQS.out, HOS.out, HBS.out, HGa.out⟩
            · -- 10 first
              have HBA := Lib.hid (below_al hHeld.2 (.cells #[.slice none 0 0, .slice none 0 0] 28))
              go_simp
              refine hK.out _ _ ⟨⟨kc HBA.out x0, kc HBA.out x1, kc HBA.out a0, kc HBA.out a1, kc HBA.out z0, kc HBA.out z1, trivial⟩, HBA.out⟩ (fun hHeld => ?_)
              clear hK K
              (try simp only [Act.put, List.getElem_toArray, List.getElem_cons_zero, List.getElem_cons_succ, Array.getInternal_eq_getElem, List.setIfInBounds_toArray, List.set_cons_zero, List.set_cons_succ])
              have HBa := Lib.hid (below_al (Below.refl Xs.heap.size Xs) (.cells #[.slice none 0 0, .slice none 0 0] 28))
              obtain ⟨Xa, hXa⟩ : ∃ W, W = Xs.alloc (.cells #[.slice none 0 0, .slice none 0 0] 28) := ⟨_, rfl⟩
              obtain ⟨ga, hga⟩ : ∃ g, g = Xs.heap.size := ⟨_, rfl⟩
              have HGa := Lib.hid (show V5.heap.size ≤ ga from by rw [hga]; exact HXs.out.size)
              have HQa := Lib.hid (show BoxC Xa ga 28 #[.slice none 0 0, .slice none 0 0] from by rw [hXa, hga]; exact BoxC.new Xs _ _)
              rw [← hXa] at hHeld HBA HBa ⊢
              (try rw [← hga])
              clear hXa hga HBa
              refine wpAnyH_ready (rs := [6]) (by kernel_rfl) (by simp) ?_
              refine AllReadyH.cons rfl (fun K hK => ?_) AllReadyH.nil
              go_simp
              refine (tstep_any (ka : Int) kb _ (HPW.out _ (chain HL5.out hHeld.2)) ((HSI5.out.below hHeld.2 HSZ5.out).sv (Nat.le_trans HSZ5.out hHeld.2.size)) (Nat.le_refl _) HRP.out HOS.out (HWA.out.more (by omega))).mono ?_
              rintro e Xc ⟨vm, vt, psd, rfl, hos, hb⟩
              rw [HIS.out]
              obtain ⟨Ad, cd, rfl⟩ := own_slice (n := s.mem.length) (show Xc.ownsRow _ _ 1 vm (s.mem.length) _ from by have e := hos.mem; unfold OwnI at e; rwa [show ((tst P S (ka : Int) kb).getD S).mem.length = s.mem.length from (tst_glen HRP.out HOS.out).1.trans HLS.out.1] at e)
              obtain ⟨Bd, ed, rfl⟩ := own_slice (n := s.ths.length) (show Xc.ownsRow _ _ 4 vt (s.ths.length) _ from by have e := hos.ths; rwa [show ((tst P S (ka : Int) kb).getD S).ths.length = s.ths.length from (tst_glen HRP.out HOS.out).2.trans HLS.out.2] at e)
              have HOD := Lib.hid (show OwnSt V5.heap.size Xc (.slice Ad (s.mem.length) cd) (.slice Bd (s.ths.length) ed) ((tst P S (ka : Int) kb).getD S) psd from hos.base hHeld.2.size)
              have HBC := Lib.hid (chain hHeld.2 hb)
              replace HQa := Lib.hid (HQa.out.below hb HQa.out.lt)
              refine hK.out _ _ ⟨⟨kc HBC.out x0, kc HBC.out x1, kc HBC.out a0, kc HBC.out a1, kc HBC.out z0, kc HBC.out z1, trivial⟩, HBC.out⟩ (fun hHeld => ?_)
              clear hK K
              (try simp only [Act.put, List.getElem_toArray, List.getElem_cons_zero, List.getElem_cons_succ, Array.getInternal_eq_getElem, List.setIfInBounds_toArray, List.set_cons_zero, List.set_cons_succ])
              clear hb hos
              refine wpAnyH_take (i := 7) (v := ?_) rfl (by kernel_rfl) (by kernel_rfl) (by kernel_rfl) (fun _ _ _ h => h) (Or.inl ⟨by rfl, ?_⟩) (by assumption) ?_
              rotate_left
              · intro w hSw; (try dsimp only at hSw); go_simp; (try with_reducible rfl)
              (try simp only [Act.put, List.getElem_toArray, List.getElem_cons_zero, List.getElem_cons_succ, Array.getInternal_eq_getElem, List.setIfInBounds_toArray, List.set_cons_zero, List.set_cons_succ])
              refine wpAnyH_take (i := 8) (v := ?_) rfl (by kernel_rfl) (by kernel_rfl) (by kernel_rfl) (fun _ _ _ h => h) (Or.inl ⟨by rfl, ?_⟩) (by assumption) ?_
              rotate_left
              · intro w hSw; (try dsimp only at hSw); go_simp; (try with_reducible rfl)
              (try simp only [Act.put, List.getElem_toArray, List.getElem_cons_zero, List.getElem_cons_succ, Array.getInternal_eq_getElem, List.setIfInBounds_toArray, List.set_cons_zero, List.set_cons_succ])
              refine wpAnyH_take (i := 9) (v := ?_) rfl (by kernel_rfl) (by kernel_rfl) (by kernel_rfl) (fun _ _ _ h => h) (Or.inl ⟨by rfl, ?_⟩) (by assumption) ?_
              rotate_left
              · intro w hSw; (try dsimp only at hSw); go_simp; (try with_reducible rfl)
              (try simp only [Act.put, List.getElem_toArray, List.getElem_cons_zero, List.getElem_cons_succ, Array.getInternal_eq_getElem, List.setIfInBounds_toArray, List.set_cons_zero, List.set_cons_succ])
              refine wpAnyH_ready (rs := [11]) (by kernel_rfl) (by simp) ?_
              refine AllReadyH.cons rfl (fun K hK => ?_) AllReadyH.nil
              have q0 := HQa.out.cell 0 _ rfl
              have q1 := HQa.out.cell 1 _ rfl
              have u0 := HQa.out.frozen 0
              have u1 := HQa.out.frozen 1
              have HBS := Lib.hid (show Below V5.heap.size V5 ((Xc.setCell ⟨ga, 0, none⟩ (.slice Ad (s.mem.length) cd)).setCell ⟨ga, 1, none⟩ (.slice Bd (s.ths.length) ed)) from (hHeld.2.setCell (p := ⟨ga, 0, none⟩) HGa.out _).setCell (p := ⟨ga, 1, none⟩) HGa.out _)
              have HQS := Lib.hid (show BoxC ((Xc.setCell ⟨ga, 0, none⟩ (.slice Ad (s.mem.length) cd)).setCell ⟨ga, 1, none⟩ (.slice Bd (s.ths.length) ed)) ga 28 #[(.slice Ad (s.mem.length) cd), (.slice Bd (s.ths.length) ed)] from (HQa.out.set 0 _).set 1 _)
              have HOS := Lib.hid (show OwnSt V5.heap.size ((Xc.setCell ⟨ga, 0, none⟩ (.slice Ad (s.mem.length) cd)).setCell ⟨ga, 1, none⟩ (.slice Bd (s.ths.length) ed)) (.slice Ad (s.mem.length) cd) (.slice Bd (s.ths.length) ed) ((tst P S (ka : Int) kb).getD S) psd from (HOD.out.box HQa.out (by decide) (by decide) (by decide) 0 _).box (HQa.out.set 0 _) (by decide) (by decide) (by decide) 1 _)
              go_simp
              refine hK.out _ _ ⟨⟨kc HBS.out x0, kc HBS.out x1, kc HBS.out a0, kc HBS.out a1, kc HBS.out z0, kc HBS.out z1, trivial⟩, HBS.out⟩ (fun hHeld => ?_)
              clear q0 q1 u0 u1
              clear hK K
              (try simp only [Act.put, List.getElem_toArray, List.getElem_cons_zero, List.getElem_cons_succ, Array.getInternal_eq_getElem, List.setIfInBounds_toArray, List.set_cons_zero, List.set_cons_succ])
              refine wpAnyH_ready (rs := [12]) (by kernel_rfl) (by simp) ?_
              refine AllReadyH.cons rfl (fun K hK => ?_) AllReadyH.nil
              go_simp
              refine hK.out _ _ hHeld (fun hHeld => ?_)
              clear hK K
              (try simp only [Act.put, List.getElem_toArray, List.getElem_cons_zero, List.getElem_cons_succ, Array.getInternal_eq_getElem, List.setIfInBounds_toArray, List.set_cons_zero, List.set_cons_succ])
              refine wpAnyH_done (by kernel_rfl) ?_ _
              clear hHeld
              go_wp2_with fail
              go_meet
              exact ⟨ga, Ad, cd, Bd, ed, psd, rfl, rfl, HQS.out, HOS.out, HBS.out, HGa.out⟩
          case rest =>
            obtain ⟨g14, A3, c3, B3, e3, psa, rfl, rfl, hqn, hon, hbn, hgn⟩ := hcut
            obtain ⟨s', htt⟩ := Option.isSome_iff_exists.1 HIS.out
            rw [htt] at hon
            have HON := Lib.hid (show OwnSt V5.heap.size wc (.slice A3 s.mem.length c3) (.slice B3 s.ths.length e3) s' psa from hon)
            have HK1 := Lib.hid (tst_ok HRP.out HOS.out htt)
            have HW1 := Lib.hid (tst_wide HRP.out HOS.out HWA.out htt)
            have HLT := Lib.hid (tst_less HRP.out HOS.out htt)
            have HLN := Lib.hid (chain HL5.out hbn)
            have HXN := Lib.hid (HX5.out.below hbn HX5.out.lt)
            have HQN2 := Lib.hid (HQ5.out.below hbn HQ5.out.lt)
            have HQN := Lib.hid hqn
            clear htt hqn hgn hon hbn x0 x1 a0 a1 z0 z1
            have x0 := HXN.out.cell 0 _ rfl
            have x1 := HXN.out.cell 1 _ rfl
            have n0 := HQN.out.cell 0 _ rfl
            have n1 := HQN.out.cell 1 _ rfl
            go_wp2_with fail
            refine (rright_any _ (HPW.out _ HLN.out) HON.out.sv (Nat.le_refl _)).mono ?_
            rintro e X4 ⟨d, rfl, hd, hb⟩
            obtain rfl : d = true := hd.2 HK1.out
            have HL4 := Lib.hid (chain HLN.out hb)
            have HX4 := Lib.hid (HXN.out.below hb HXN.out.lt)
            have HQA4 := Lib.hid (HQN2.out.below hb HQN2.out.lt)
            have HQB4 := Lib.hid (HQN.out.below hb HQN.out.lt)
            have HON4 := Lib.hid (HON.out.below hb)
            clear hd hb x0 x1 n0 n1
            have n0 := HQB4.out.cell 0 _ rfl
            have n1 := HQB4.out.cell 1 _ rfl
            have a0 := HQA4.out.cell 0 _ rfl
            have a1 := HQA4.out.cell 1 _ rfl
            have f0 := HQA4.out.frozen 0
            have f1 := HQA4.out.frozen 1
            have hms := HMS.out
            have hlt := HLT.out
            have HSW := Lib.hid HL5.out.size
            go_wp2_with fail
            clear n0 n1 a0 a1 f0 f1
            go_roundw
            case rel => exact ⟨i + 1, s', _, _, _, _, by go_num, HK1.out, HW1.out, by omega, (HX4.out.other HGSW.out.2 _ _).other HGSW.out.2 _ _, (HQA4.out.set 0 _).set 1 _, .inr ⟨psa, ((HON4.out.base HSW.out).box HQA4.out (by decide) (by decide) (by decide) 0 _).box (HQA4.out.set 0 _) (by decide) (by decide) (by decide) 1 _⟩, (HL4.out.setCell (p := ⟨gs, 0, none⟩) HGSW.out.1 _).setCell (p := ⟨gs, 1, none⟩) HGSW.out.1 _⟩
            case measure => simp [intOf]; omega
end Go.Proofs.Ytkbnppidkhbbeaa
