/-
  LAYER 16: the walk of ExplFuel.
-/
import Derived.Test.YtbffjhdocicfoaaQf1
import Derived.Test.YtbffjhdocicfoaaK00
import Derived.Test.YtbffjhdocicfoaaK01
import Derived.Test.YtbffjhdocicfoaaK02
import Derived.Test.YtbffjhdocicfoaaK03
import Derived.Test.YtbffjhdocicfoaaK04
import Derived.Test.YtbffjhdocicfoaaCdC
import Derived.Test.YtbffjhdocicfoaaScP
import Derived.Test.YtbffjhdocicfoaaK15
import Derived.Test.YtbffjhdocicfoaaK16
import Derived.Test.YtbffjhdocicfoaaRCdB
import Derived.Test.YtbffjhdocicfoaaRCdC
import Derived.Test.YtbffjhdocicfoaaScW
import Derived.Test.YtbffjhdocicfoaaK10
import Derived.Test.YtbffjhdocicfoaaScX
import Derived.Test.YtbffjhdocicfoaaEnW
import Derived.Test.YtbffjhdocicfoaaK19
import Derived.Test.YtbffjhdocicfoaaScAt
import Derived.Test.YtbffjhdocicfoaaK21
import Derived.Test.YtbffjhdocicfoaaScPo
import Derived.Test.YtbffjhdocicfoaaScDo
import Derived.Test.YtbffjhdocicfoaaScPs
import Derived.Test.YtbffjhdocicfoaaScPb
import Derived.Test.YtbffjhdocicfoaaScY
import Derived.Test.YtbffjhdocicfoaaK27
import Derived.Test.YtbffjhdocicfoaaTsO
import Derived.Test.YtbffjhdocicfoaaSuU
import Derived.Test.YtbffjhdocicfoaaTsR
import Derived.Test.YtbffjhdocicfoaaTsS
import Derived.Test.YtbffjhdocicfoaaEyR
import Derived.Test.YtbffjhdocicfoaaK33
import Derived.Test.YtbffjhdocicfoaaEyT
import Derived.Test.YtbffjhdocicfoaaEyU
import Derived.Test.YtbffjhdocicfoaaK36
import Derived.Test.YtbffjhdocicfoaaEyC
import Derived.Test.YtbffjhdocicfoaaEyD
import Derived.Test.YtbffjhdocicfoaaEyE
import Derived.Test.YtbffjhdocicfoaaEyF
import Derived.Test.YtbffjhdocicfoaaEyG
import Derived.Test.YtbffjhdocicfoaaEyH
import Derived.Test.YtbffjhdocicfoaaEyI
import Derived.Test.YtbffjhdocicfoaaEyX
import Derived.Test.YtbffjhdocicfoaaEyW
import Derived.Test.YtbffjhdocicfoaaK46
import Derived.Test.YtbffjhdocicfoaaRowP
import Derived.Test.YtbffjhdocicfoaaEh0
import Derived.Test.YtbffjhdocicfoaaRuU
import Derived.Test.YtbffjhdocicfoaaEv1
namespace Go.Proofs.Ytbffjhdocicfoaa
open Go.RowKit Go.WideMaps
set_option linter.unusedVariables false
set_option linter.unusedSimpArgs false
open CodM (St Pg rightP hReg hLoc)
open BfM (Wr plc)
open ScM EnM ExM ExN ExP EyP EyM ExR

set_option maxHeartbeats 8000000 in
set_option maxRecDepth 100000 in
/-- Rows that hold the same are told so. -/
theorem fsame_any {b1 b2 : Nat} {A1 A2 : Option Addr} {c1 c2 n : Nat} {fs gs : List FV} (w : World) (h1 : OwnF b1 w (.slice A1 n c1) fs) (h2 : OwnF b2 w (.slice A2 n c2) gs) (hn : n = fs.length) (he : fs.map fvP = gs.map fvP) :
    Calls Try.prog 18 #[.slice A1 n c1, .slice A2 n c2] w fun e w' => e = .returned (.bool true) ∧ Below w.heap.size w w' := by
  have hgl : fs.length = gs.length := by have := congrArg List.length he; simpa using this
  have hn2 : n ≤ 9223372036854775807 := by have := own_max h1.own; omega
  have HE := Lib.hid (fun (k : Nat) (hk : k < n) => show ∃ (ha : k < fs.length) (hb : k < gs.length), fs[k].o = gs[k].o ∧ fs[k].k = gs[k].k from by
    have ha : k < fs.length := by omega
    have hb : k < gs.length := by omega
    have h0 : (fs.map fvP)[k]? = (gs.map fvP)[k]? := by rw [he]
    rw [List.getElem?_map, List.getElem?_map, List.getElem?_eq_getElem ha, List.getElem?_eq_getElem hb] at h0
    simp only [Option.map_some, Option.some.injEq, Prod.mk.injEq] at h0
    exact ⟨ha, hb, h0.1, h0.2⟩)
  have HF := Lib.hid h1
  have HG := Lib.hid h2
  clear h1 h2 hn he hgl
  go_enter Try.func18, Try.ntmps18
  go_wp2
  go_loopw [5] (fun x wr => ∃ k : Nat, x = .int .i64 k ∧ k ≤ n ∧ Hid (Below w.heap.size w wr)) (fun x _ => n - (intOf x).toNat)
  case atStart => exact ⟨0, by go_num, Nat.zero_le _, Lib.hid (Below.refl _ _)⟩
  case round =>
    obtain ⟨k, rfl, hk, HBk⟩ := hrel
    by_cases hlt : k < n
    · obtain ⟨ha, hb, ho, hp⟩ := HE.out k hlt
      have HFk := Lib.hid (HF.out.grow HBk.out)
      have HGk := Lib.hid (HG.out.grow HBk.out)
      obtain ⟨ga, hga, a0, a1, a2⟩ := fd_at HFk.out ha
      obtain ⟨gb, hgb, b0, b1, b2⟩ := fd_at HGk.out hb
      subst hga hgb
      have hfi := HFk.out.ok _ (List.getElem_mem ha)
      have hgi := HGk.out.ok _ (List.getElem_mem hb)
      obtain ⟨x, hx⟩ : ∃ z, z = fs[k] := ⟨_, rfl⟩
      obtain ⟨y, hy⟩ : ∃ z, z = gs[k] := ⟨_, rfl⟩
      rw [← hx] at a0 a1 a2 ho hp hfi
      rw [← hy] at b0 b1 b2 ho hp hgi
      clear hx hy
      have HXY := Lib.hid ho
      have HSO := Lib.hid (fun (W : World) (hW : Below wr.heap.size wr W) => rsout_any W (out_of (hfi.grow hW)) (out_of (hgi.grow hW)) (Nat.le_refl _))
      have HSP := Lib.hid (fun (W : World) (hW : Below wr.heap.size wr W) => kisame_any (ns := x.k.map toI) W (own_kir (hfi.grow hW).2.2) (by rw [hp]; exact own_kir (hgi.grow hW).2.2) (Nat.le_refl _))
      obtain ⟨⟨M1, m1, ea1⟩, ⟨M2, m2, ea2⟩, M3, m3, ea3⟩ := hfi.sl
      obtain ⟨⟨N1, k1, eb1⟩, ⟨N2, k2, eb2⟩, N3, k3, eb3⟩ := hgi.sl
      rw [ea1] at a0 HSO
      rw [ea2] at a1 HSO
      rw [ea3] at a2 HSP
      rw [eb1] at b0 HSO
      rw [eb2] at b1 HSO
      rw [eb3] at b2 HSP
      clear ea1 ea2 ea3 eb1 eb2 eb3 hfi hgi ho hp ha hb
      go_upto_region 6 with fail
      refine wp_region_held_drew (S := (fun w' => (w'.cell? ⟨ga, k * 3, none⟩ = some (.slice M1 x.o.1.length m1) ∧ w'.cell? ⟨ga, k * 3 + 1, none⟩ = some (.slice M2 x.o.2.length m2) ∧ w'.cell? ⟨ga, k * 3 + 2, none⟩ = some (.slice M3 x.k.length m3) ∧ w'.cell? ⟨gb, k * 3, none⟩ = some (.slice N1 y.o.1.length k1) ∧ w'.cell? ⟨gb, k * 3 + 1, none⟩ = some (.slice N2 y.o.2.length k2) ∧ w'.cell? ⟨gb, k * 3 + 2, none⟩ = some (.slice N3 y.k.length k3) ∧ True) ∧ Below wr.heap.size wr w')) (by kernel_rfl) ⟨⟨a0, a1, a2, b0, b1, b2, trivial⟩, below_drewN (Below.refl _ _) 1⟩ (fun hHeld => ?_)
      refine wpAnyH_take (i := 0) (v := ?_) rfl (by kernel_rfl) (by kernel_rfl) (by kernel_rfl) (fun _ _ _ h => h) (Or.inl ⟨by rfl, ?_⟩) (by assumption) ?_
      rotate_left
      · intro w hSw; (try dsimp only at hSw); go_simp; (try with_reducible rfl)
      (try simp only [Act.put, pt8])
      refine wpAnyH_take (i := 1) (v := ?_) rfl (by kernel_rfl) (by kernel_rfl) (by kernel_rfl) (fun _ _ _ h => h) (Or.inl ⟨by rfl, ?_⟩) (by assumption) ?_
      rotate_left
      · intro w hSw; (try dsimp only at hSw); go_simp; (try with_reducible rfl)
      (try simp only [Act.put, pt8])
      refine wpAnyH_take (i := 2) (v := ?_) rfl (by kernel_rfl) (by kernel_rfl) (by kernel_rfl) (fun _ _ _ h => h) (Or.inl ⟨by rfl, ?_⟩) (by assumption) ?_
      rotate_left
      · intro w hSw; (try dsimp only at hSw); go_simp; (try with_reducible rfl)
      (try simp only [Act.put, pt8])
      refine wpAnyH_take (i := 3) (v := ?_) rfl (by kernel_rfl) (by kernel_rfl) (by kernel_rfl) (fun _ _ _ h => h) (Or.inl ⟨by rfl, ?_⟩) (by assumption) ?_
      rotate_left
      · intro w hSw; (try dsimp only at hSw); go_simp; (try with_reducible rfl)
      (try simp only [Act.put, pt8])
      refine wpAnyH_take (i := 4) (v := ?_) rfl (by kernel_rfl) (by kernel_rfl) (by kernel_rfl) (fun _ _ _ h => h) (Or.inl ⟨by rfl, ?_⟩) (by assumption) ?_
      rotate_left
      · intro w hSw; (try dsimp only at hSw); go_simp; (try with_reducible rfl)
      (try simp only [Act.put, pt8])
      refine wpAnyH_take (i := 5) (v := ?_) rfl (by kernel_rfl) (by kernel_rfl) (by kernel_rfl) (fun _ _ _ h => h) (Or.inl ⟨by rfl, ?_⟩) (by assumption) ?_
      rotate_left
      · intro w hSw; (try dsimp only at hSw); go_simp; (try with_reducible rfl)
      (try simp only [Act.put, pt8])
      refine wpAnyH_take (i := 6) (v := ?_) rfl (by kernel_rfl) (by kernel_rfl) (by kernel_rfl) (fun _ _ _ h => h) (Or.inl ⟨by rfl, ?_⟩) (by assumption) ?_
      rotate_left
      · intro w hSw; (try dsimp only at hSw); go_simp; (try with_reducible rfl)
      (try simp only [Act.put, pt8])
      refine wpAnyH_take (i := 7) (v := ?_) rfl (by kernel_rfl) (by kernel_rfl) (by kernel_rfl) (fun _ _ _ h => h) (Or.inl ⟨by rfl, ?_⟩) (by assumption) ?_
      rotate_left
      · intro w hSw; (try dsimp only at hSw); go_simp; (try with_reducible rfl)
      (try simp only [Act.put, pt8])
      refine wpAnyH_take (i := 8) (v := ?_) rfl (by kernel_rfl) (by kernel_rfl) (by kernel_rfl) (fun _ _ _ h => h) (Or.inl ⟨by rfl, ?_⟩) (by assumption) ?_
      rotate_left
      · intro w hSw; (try dsimp only at hSw); go_simp; (try with_reducible rfl)
      (try simp only [Act.put, pt8])
      refine wpAnyH_take (i := 9) (v := ?_) rfl (by kernel_rfl) (by kernel_rfl) (by kernel_rfl) (fun _ _ _ h => h) (Or.inl ⟨by rfl, ?_⟩) (by assumption) ?_
      rotate_left
      · intro w hSw; (try dsimp only at hSw); go_simp; (try with_reducible rfl)
      (try simp only [Act.put, pt8])
      refine wpAnyH_ready (rs := [10]) (by kernel_rfl) (by simp) ?_
      refine AllReadyH.cons rfl (fun K hK => ?_) AllReadyH.nil
      go_simp
      refine (HSO.out _ hHeld.2).mono ?_
      rintro e V9 ⟨rfl, hb⟩
      have HB9 := Lib.hid (chain hHeld.2 hb)
      rw [decide_eq_true HXY.out]
      clear hb
      refine hK.out _ _ ⟨⟨kc HB9.out a0, kc HB9.out a1, kc HB9.out a2, kc HB9.out b0, kc HB9.out b1, kc HB9.out b2, trivial⟩, HB9.out⟩ (fun hHeld => ?_)
      clear hK K
      (try simp only [Act.put, pt8])
      refine wpAnyH_take (i := 11) (v := ?_) rfl (by kernel_rfl) (by kernel_rfl) (by kernel_rfl) (fun _ _ _ h => h) (Or.inl ⟨by rfl, ?_⟩) (by assumption) ?_
      rotate_left
      · intro w hSw; (try dsimp only at hSw); go_simp; (try with_reducible rfl)
      (try simp only [Act.put, pt8])
      refine wpAnyH_take (i := 12) (v := ?_) rfl (by kernel_rfl) (by kernel_rfl) (by kernel_rfl) (fun _ _ _ h => h) (Or.inl ⟨by rfl, ?_⟩) (by assumption) ?_
      rotate_left
      · intro w hSw; (try dsimp only at hSw); go_simp; (try with_reducible rfl)
      (try simp only [Act.put, pt8])
      refine wpAnyH_take (i := 13) (v := ?_) rfl (by kernel_rfl) (by kernel_rfl) (by kernel_rfl) (fun _ _ _ h => h) (Or.inl ⟨by rfl, ?_⟩) (by assumption) ?_
      rotate_left
      · intro w hSw; (try dsimp only at hSw); go_simp; (try with_reducible rfl)
      (try simp only [Act.put, pt8])
      refine wpAnyH_take (i := 14) (v := ?_) rfl (by kernel_rfl) (by kernel_rfl) (by kernel_rfl) (fun _ _ _ h => h) (Or.inl ⟨by rfl, ?_⟩) (by assumption) ?_
      rotate_left
      · intro w hSw; (try dsimp only at hSw); go_simp; (try with_reducible rfl)
      (try simp only [Act.put, pt8])
      refine wpAnyH_take (i := 15) (v := ?_) rfl (by kernel_rfl) (by kernel_rfl) (by kernel_rfl) (fun _ _ _ h => h) (Or.inl ⟨by rfl, ?_⟩) (by assumption) ?_
      rotate_left
      · intro w hSw; (try dsimp only at hSw); go_simp; (try with_reducible rfl)
      (try simp only [Act.put, pt8])
      refine wpAnyH_take (i := 16) (v := ?_) rfl (by kernel_rfl) (by kernel_rfl) (by kernel_rfl) (fun _ _ _ h => h) (Or.inl ⟨by rfl, ?_⟩) (by assumption) ?_
      rotate_left
      · intro w hSw; (try dsimp only at hSw); go_simp; (try with_reducible rfl)
      (try simp only [Act.put, pt8])
      refine wpAnyH_take (i := 17) (v := ?_) rfl (by kernel_rfl) (by kernel_rfl) (by kernel_rfl) (fun _ _ _ h => h) (Or.inl ⟨by rfl, ?_⟩) (by assumption) ?_
      rotate_left
      · intro w hSw; (try dsimp only at hSw); go_simp; (try with_reducible rfl)
      (try simp only [Act.put, pt8])
      refine wpAnyH_take (i := 18) (v := ?_) rfl (by kernel_rfl) (by kernel_rfl) (by kernel_rfl) (fun _ _ _ h => h) (Or.inl ⟨by rfl, ?_⟩) (by assumption) ?_
      rotate_left
      · intro w hSw; (try dsimp only at hSw); go_simp; (try with_reducible rfl)
      (try simp only [Act.put, pt8])
      refine wpAnyH_take (i := 19) (v := ?_) rfl (by kernel_rfl) (by kernel_rfl) (by kernel_rfl) (fun _ _ _ h => h) (Or.inl ⟨by rfl, ?_⟩) (by assumption) ?_
      rotate_left
      · intro w hSw; (try dsimp only at hSw); go_simp; (try with_reducible rfl)
      (try simp only [Act.put, pt8])
      refine wpAnyH_take (i := 20) (v := ?_) rfl (by kernel_rfl) (by kernel_rfl) (by kernel_rfl) (fun _ _ _ h => h) (Or.inl ⟨by rfl, ?_⟩) (by assumption) ?_
      rotate_left
      · intro w hSw; (try dsimp only at hSw); go_simp; (try with_reducible rfl)
      (try simp only [Act.put, pt8])
      refine wpAnyH_take (i := 21) (v := ?_) rfl (by kernel_rfl) (by kernel_rfl) (by kernel_rfl) (fun _ _ _ h => h) (Or.inl ⟨by rfl, ?_⟩) (by assumption) ?_
      rotate_left
      · intro w hSw; (try dsimp only at hSw); go_simp; (try with_reducible rfl)
      (try simp only [Act.put, pt8])
      refine wpAnyH_take (i := 22) (v := ?_) rfl (by kernel_rfl) (by kernel_rfl) (by kernel_rfl) (fun _ _ _ h => h) (Or.inl ⟨by rfl, ?_⟩) (by assumption) ?_
      rotate_left
      · intro w hSw; (try dsimp only at hSw); go_simp; (try with_reducible rfl)
      (try simp only [Act.put, pt8])
      refine wpAnyH_ready (rs := [23]) (by kernel_rfl) (by simp) ?_
      refine AllReadyH.cons rfl (fun K hK => ?_) AllReadyH.nil
      go_simp
      refine (HSP.out _ hHeld.2).mono ?_
      rintro e V10 ⟨rfl, hb⟩
      replace HB9 := Lib.hid (chain hHeld.2 hb)
      clear hb
      refine hK.out _ _ ⟨⟨kc HB9.out a0, kc HB9.out a1, kc HB9.out a2, kc HB9.out b0, kc HB9.out b1, kc HB9.out b2, trivial⟩, HB9.out⟩ (fun hHeld => ?_)
      clear hK K
      (try simp only [Act.put, pt8])
      refine wpAnyH_take (i := 24) (v := ?_) rfl (by kernel_rfl) (by kernel_rfl) (by kernel_rfl) (fun _ _ _ h => h) (Or.inl ⟨by rfl, ?_⟩) (by assumption) ?_
      rotate_left
      · intro w hSw; (try dsimp only at hSw); go_simp; (try with_reducible rfl)
      (try simp only [Act.put, pt8])
      refine wpAnyH_take (i := 25) (v := ?_) rfl (by kernel_rfl) (by kernel_rfl) (by kernel_rfl) (fun _ _ _ h => h) (Or.inl ⟨by rfl, ?_⟩) (by assumption) ?_
      rotate_left
      · intro w hSw; (try dsimp only at hSw); go_simp; (try with_reducible rfl)
      (try simp only [Act.put, pt8])
      refine wpAnyH_done (by kernel_rfl) ?_ _
      clear hHeld
      go_wp2
      go_roundw
      case rel => exact ⟨k + 1, by go_num, by omega, Lib.hid (chain HBk.out HB9.out)⟩
      case measure => simp [intOf]; omega
    · obtain rfl : k = n := by omega
      go_wp2
      go_ret
      exact ⟨rfl, HBk.out⟩
set_option maxHeartbeats 8000000 in
set_option maxRecDepth 100000 in
/-- Where there is too little fuel nothing is told. -/
theorem found_any {B : Nat} {v : Value} {P : Pg} {wk : Bool} {fu : Int} (w : World) (hv : PgZ B w v P) (hI : InP P) (hr : rightP P = true) (hx : expS P wk fu = ([], 0, false)) (hBB : B ≤ w.heap.size) :
    Calls Try.prog 17 #[v, .bool wk, .int .i64 fu] w fun e w' => e = .returned (.bool false) ∧ Below w.heap.size w w' := by
  have HPZ := Lib.hid (fun W (hW : Below w.heap.size w W) => (show PgZ W.heap.size W v P from (hv.below (hW.mono hBB)).more (Nat.le_trans hBB hW.size)))
  obtain ⟨pi, pt, rfl, hpm, hpz⟩ := hv
  have HIP := Lib.hid hI
  obtain ⟨⟨P0, d0, rfl, -⟩, ⟨P1, d1, rfl, -⟩⟩ := hpm
  clear hpz hI
  obtain ⟨W2, hW2⟩ : ∃ W, W = w.alloc (.cells #[.slice P0 P.init.length d0, .slice P1 P.ths.length d1] 25) := ⟨_, rfl⟩
  obtain ⟨gp, hgp⟩ : ∃ g, g = w.heap.size := ⟨_, rfl⟩
  have HX := Lib.hid (show BoxC W2 gp 25 #[.slice P0 P.init.length d0, .slice P1 P.ths.length d1] from by rw [hW2, hgp]; exact BoxC.new w _ _)
  have HB := Lib.hid (show Below w.heap.size w W2 from by rw [hW2]; exact below_al (Below.refl _ _) _)
  obtain ⟨n0, hn0⟩ : ∃ n, n = P.init.length := ⟨_, rfl⟩
  obtain ⟨n1, hn1⟩ : ∃ n, n = P.ths.length := ⟨_, rfl⟩
  rw [← hn0, ← hn1] at hW2 HX HPZ
  rw [← hn0, ← hn1]
  clear hn0 hn1
  go_enter Try.func17, Try.ntmps17
  go_upto_region 1 with fail
  rw [← hW2]
  (try rw [← hgp])
  clear hW2 hgp
  have HR := Lib.hid hr
  have HXF := Lib.hid hx
  clear hr hx
  have x0 := HX.out.cell 0 (.slice P0 n0 d0) rfl
  have x1 := HX.out.cell 1 (.slice P1 n1 d1) rfl
  go_wp2_with fail
  refine (xexplore_any wk fu _ (HPZ.out _ HB.out) (Nat.le_refl _) HR.out HIP.out).mono ?_
  rintro e W5 ⟨Aa, ca, fs, rfl, hoa, hfa, hb⟩
  rw [HXF.out] at hfa ⊢
  dsimp only at hfa ⊢
  obtain rfl : fs = [] := List.map_eq_nil_iff.1 hfa
  have HB5 := Lib.hid (chain HB.out hb)
  clear hoa hfa hb x0 x1
  go_wp2
  go_ret
  exact ⟨rfl, HB5.out⟩
set_option maxHeartbeats 16000000 in
set_option maxRecDepth 100000 in
theorem explfuel_any {B : Nat} {v : Value} {P : Pg} {wk : Bool} {fu : Int} (w : World) (hv : PgZ B w v P) (hI : InP P) (hBB : B ≤ w.heap.size) :
    Calls Try.prog 6 #[v, .bool wk, .int .i64 fu] w fun e w' => e = .returned (.bool true) ∧ Below w.heap.size w w' := by
  have HPZ := Lib.hid (fun W (hW : Below w.heap.size w W) => (show PgZ W.heap.size W v P from (hv.below (hW.mono hBB)).more (Nat.le_trans hBB hW.size)))
  obtain ⟨pi, pt, rfl, hpm, hpz⟩ := hv
  have HIP := Lib.hid hI
  obtain ⟨⟨P0, d0, rfl, -⟩, ⟨P1, d1, rfl, -⟩⟩ := hpm
  clear hpz hI
  obtain ⟨W2, hW2⟩ : ∃ W, W = w.alloc (.cells #[.slice P0 P.init.length d0, .slice P1 P.ths.length d1] 25) := ⟨_, rfl⟩
  obtain ⟨gp, hgp⟩ : ∃ g, g = w.heap.size := ⟨_, rfl⟩
  have HX := Lib.hid (show BoxC W2 gp 25 #[.slice P0 P.init.length d0, .slice P1 P.ths.length d1] from by rw [hW2, hgp]; exact BoxC.new w _ _)
  have HB := Lib.hid (show Below w.heap.size w W2 from by rw [hW2]; exact below_al (Below.refl _ _) _)
  obtain ⟨n0, hn0⟩ : ∃ n, n = P.init.length := ⟨_, rfl⟩
  obtain ⟨n1, hn1⟩ : ∃ n, n = P.ths.length := ⟨_, rfl⟩
  rw [← hn0, ← hn1] at hW2 HX HPZ
  rw [← hn0, ← hn1]
  clear hn0 hn1
  go_enter Try.func6, Try.ntmps6
  go_upto_region 1 with fail
  rw [← hW2]
  (try rw [← hgp])
  clear hW2 hgp
  go_wp2_with fail
  refine (head16_any _).mono ?_
  rintro e W3 ⟨rfl, hb⟩
  have HB3 := Lib.hid (chain HB.out hb)
  have HX3 := Lib.hid (HX.out.below hb HX.out.lt)
  clear hb
  have x0 := HX3.out.cell 0 (.slice P0 n0 d0) rfl
  have x1 := HX3.out.cell 1 (.slice P1 n1 d1) rfl
  go_wp2_with fail
  refine (cgreat_any _ ((HPZ.out _ HB3.out).v) (Nat.le_refl _)).mono ?_
  rintro e W4 ⟨bg, rfl, hg, hb⟩
  have HB4 := Lib.hid (chain HB3.out hb)
  have HX4 := Lib.hid (HX3.out.below hb HX3.out.lt)
  have HG := Lib.hid hg
  clear hb hg x0 x1
  cases bg
  · have HR := Lib.hid (HG.out rfl).2
    have x0 := HX4.out.cell 0 (.slice P0 n0 d0) rfl
    have x1 := HX4.out.cell 1 (.slice P1 n1 d1) rfl
    go_wp2_with fail
    refine (xexplore_any wk 300 _ (HPZ.out _ HB4.out) (Nat.le_refl _) HR.out HIP.out).mono ?_
    rintro e W5 ⟨Aa, ca, fs, rfl, hoa, hfa, hb⟩
    have HB5 := Lib.hid (chain HB4.out hb)
    have HX5 := Lib.hid (HX4.out.below hb HX4.out.lt)
    have HO5 := Lib.hid hoa
    obtain ⟨⟨aa, nn, bb⟩, hq⟩ : ∃ q, q = expS P wk 300 := ⟨_, rfl⟩
    rw [← hq] at hfa ⊢
    dsimp only at hfa ⊢
    have HQ := Lib.hid hq.symm
    have HFA := Lib.hid hfa
    clear hoa hfa hb x0 x1 hq
    have x0 := HX5.out.cell 0 (.slice P0 n0 d0) rfl
    have x1 := HX5.out.cell 1 (.slice P1 n1 d1) rfl
    cases bb
    · obtain ⟨q1, q2, -⟩ := exp_false HQ.out
      have hfs : fs = [] := by have := HFA.out; rw [q1] at this; exact List.map_eq_nil_iff.1 this
      subst q2 hfs
      clear q1
      by_cases hfu : 300 < fu
      · go_wp2
        go_ret
        exact ⟨rfl, HB5.out⟩
      · have HLL := Lib.hid (law_less HQ.out (fuel := fu) (by omega))
        go_wp2_with fail
        refine (found_any _ (HPZ.out _ HB5.out) HIP.out HR.out HLL.out (Nat.le_refl _)).mono ?_
        rintro e W6 ⟨rfl, hb⟩
        have HB6 := Lib.hid (chain HB5.out hb)
        clear hb x0 x1
        go_wp2
        go_ret
        exact ⟨rfl, HB6.out⟩
    · have HLF := Lib.hid (law_fuel HQ.out)
      obtain ⟨-, hn0, hn3, -⟩ := law_runs HR.out HQ.out
      have w3 : IntKind.i64.wrap ((nn : Int) - 1) = (nn : Int) - 1 := IntWalk.i64_in _ (by omega)
      go_wp2_with fail
      refine (xexplore_any wk (nn : Int) _ (HPZ.out _ HB5.out) (Nat.le_refl _) HR.out HIP.out).mono ?_
      rintro e W6 ⟨Ab, cb, gs, rfl, hob, hfb, hb⟩
      rw [HLF.out.1] at hfb ⊢
      dsimp only at hfb ⊢
      have HB6 := Lib.hid (chain HB5.out hb)
      have HX6 := Lib.hid (HX5.out.below hb HX5.out.lt)
      have HO6 := Lib.hid (HO5.out.grow hb)
      have hgl : gs.length = fs.length := by have := congrArg List.length (hfb.trans HFA.out.symm); simpa using this
      rw [hgl] at hob ⊢
      have HOB := Lib.hid hob
      have HFB := Lib.hid hfb
      clear hob hfb hb x0 x1 hgl HO5
      have x0 := HX6.out.cell 0 (.slice P0 n0 d0) rfl
      have x1 := HX6.out.cell 1 (.slice P1 n1 d1) rfl
      go_wp2_with fail
      refine (xexplore_any wk ((nn : Int) - 1) _ (HPZ.out _ HB6.out) (Nat.le_refl _) HR.out HIP.out).mono ?_
      rintro e W7 ⟨Ac, cc, hs, rfl, -, hfc, hb⟩
      rw [HLF.out.2.1] at hfc ⊢
      dsimp only at hfc ⊢
      obtain rfl : hs = [] := List.map_eq_nil_iff.1 hfc
      have HB7 := Lib.hid (chain HB6.out hb)
      have HX7 := Lib.hid (HX6.out.below hb HX6.out.lt)
      have HO7 := Lib.hid (HO6.out.grow hb)
      have HOB7 := Lib.hid (HOB.out.grow hb)
      clear hfc hb x0 x1 HO6 HOB
      have x0 := HX7.out.cell 0 (.slice P0 n0 d0) rfl
      have x1 := HX7.out.cell 1 (.slice P1 n1 d1) rfl
      go_wp2_with fail
      refine (xexplore_any wk fu _ (HPZ.out _ HB7.out) (Nat.le_refl _) HR.out HIP.out).mono ?_
      rintro e W8 ⟨Ad, cd, ds, rfl, hod, hfd, hb⟩
      have HB8 := Lib.hid (chain HB7.out hb)
      have HO8 := Lib.hid (HO7.out.grow hb)
      have HOB8 := Lib.hid (HOB7.out.grow hb)
      clear hb x0 x1 HO7 HOB7
      by_cases hc : (nn : Int) ≤ fu
      · rw [HLF.out.2.2 fu, if_pos hc] at hfd ⊢
        dsimp only at hfd ⊢
        have hgl : ds.length = fs.length := by have := congrArg List.length (hfd.trans HFA.out.symm); simpa using this
        rw [hgl] at hod ⊢
        have HOD := Lib.hid hod
        have HFD := Lib.hid hfd
        clear hod hfd hgl
        obtain ⟨nf, hnf⟩ : ∃ n, n = fs.length := ⟨_, rfl⟩
        have HNF := Lib.hid hnf
        rw [← hnf] at HO8 HOB8 HOD ⊢
        clear hnf
        go_wp2_with fail
        refine (fsame_any _ HOB8.out HO8.out (by have := congrArg List.length (HFB.out.trans HFA.out.symm); have := HNF.out; simp_all) (HFB.out.trans HFA.out.symm)).mono ?_
        rintro e W9 ⟨rfl, hb⟩
        have HB9 := Lib.hid (chain HB8.out hb)
        have HO9 := Lib.hid (HO8.out.grow hb)
        have HOD9 := Lib.hid (HOD.out.grow hb)
        clear hb
        go_wp2_with fail
        refine (fsame_any _ HOD9.out HO9.out (by have := congrArg List.length (HFD.out.trans HFA.out.symm); have := HNF.out; simp_all) (HFD.out.trans HFA.out.symm)).mono ?_
        rintro e Wx ⟨rfl, hb⟩
        have HBx := Lib.hid (chain HB9.out hb)
        clear hb
        go_wp2
        go_ret
        exact ⟨rfl, HBx.out⟩
      · rw [HLF.out.2.2 fu, if_neg hc] at hfd ⊢
        dsimp only at hfd ⊢
        obtain rfl : ds = [] := List.map_eq_nil_iff.1 hfd
        clear hod hfd
        obtain ⟨nf, hnf⟩ : ∃ n, n = fs.length := ⟨_, rfl⟩
        have HNF := Lib.hid hnf
        rw [← hnf] at HO8 HOB8 ⊢
        clear hnf
        go_wp2_with fail
        refine (fsame_any _ HOB8.out HO8.out (by have := congrArg List.length (HFB.out.trans HFA.out.symm); have := HNF.out; simp_all) (HFB.out.trans HFA.out.symm)).mono ?_
        rintro e W9 ⟨rfl, hb⟩
        have HB9 := Lib.hid (chain HB8.out hb)
        clear hb
        go_wp2
        go_ret
        exact ⟨show Ending.returned (.bool (!decide ((nn : Int) ≤ fu))) = _ from by simp [hc], HB9.out⟩
  · go_wp2
    go_ret
    exact ⟨rfl, HB4.out⟩
end Go.Proofs.Ytbffjhdocicfoaa
