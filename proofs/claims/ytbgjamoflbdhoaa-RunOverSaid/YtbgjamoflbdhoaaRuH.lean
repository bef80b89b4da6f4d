/-
  LAYER 13: run.follower's step: a strict step, and the picks of the weak run that does as much.
-/
import Derived.Test.YtbgjamoflbdhoaaRuC
import Derived.Deep.RegionHeld3
import Derived.Deep.DeepCutAuto
namespace Go.Proofs.Ytbgjamoflbdhoaa
open Go.RowKit
set_option linter.unusedVariables false
set_option linter.unusedSimpArgs false
open CodM (St Pg rightP)
open BfM (Wr plc)
open ScM

theorem lit_new {X : World} {g : Nat} {T : TypeId} {cs : Array Value} (hL : BoxC X g T cs) : ∀ ad, some (⟨g, 0, none⟩ : Addr) = some ad → ∀ j u, cs.toList[j]? = some u → X.cell? (ad.add j) = some u := by
  intro ad e j u hu
  injection e with e
  rw [← e, Addr.add_lit, Nat.zero_add]
  exact hL.cell j u (by simpa using hu)
/-- What a step of the follower hands back. -/
def FsRet (P : Pg) (s : Sta) (t : Int) (d : Bool) (r : List (Int × Bool)) (vi vt : Value) (gf B base : Nat) (w : World) (e : Ending) (w' : World) : Prop :=
  ∃ A n c D m k, e = .returned (.tuple #[.agg #[.slice A n c, .slice D m k], .bool (rst P s t d false).isSome]) ∧
    (∀ s', rst P s t d false = some s' → (∃ ps, OwnSt w.heap.size w' (.slice A n c) (.slice D m k) s' ps) ∧ ∃ A2 n2 c2 x, atS P s t = some x ∧ n2 = (r ++ wkOf x (t, d)).length ∧ BoxC w' gf 68 #[vi, vt, .slice A2 n2 c2] ∧ w'.ownsRow base 47 2 (.slice A2 n2 c2) n2 ((r ++ wkOf x (t, d)).flatMap kiC)) ∧ KpG w.heap.size gf B w w'
set_option maxHeartbeats 16000000 in
set_option maxRecDepth 100000 in
theorem fstep_any {B base bs gf n c d0 d1 : Nat} {P0 P1 A : Option Addr} {P : Pg} {s : Sta} {r : List (Int × Bool)} {vm vt : Value} {ps : List TV} (t : Int) (d : Bool) (w : World)
    (hv : PgV B w (.agg #[.slice P0 P.init.length d0, .slice P1 P.ths.length d1]) P) (hos : OwnSt bs w vm vt s ps) (hBB : B ≤ w.heap.size) (hBf : B ≤ gf) (hBb : B ≤ base) (hbw : base ≤ w.heap.size)
    (hf : BoxC w gf 68 #[.slice P0 P.init.length d0, .slice P1 P.ths.length d1, .slice A n c]) (hn : n = r.length) (hr : w.ownsRow base 47 2 (.slice A n c) n (r.flatMap kiC)) (hrl : n ≤ 200000) (hp : rightP P = true) (ho : OkSt P s) (hw : WideS s) :
    Calls Try.prog 35 #[.pointer (some ⟨gf, 0, none⟩), .agg #[vm, vt], .agg #[.int .i64 t, .bool d]] w (FsRet P s t d r (.slice P0 P.init.length d0) (.slice P1 P.ths.length d1) gf B base w) := by
  have HS := Lib.hid (fun W (hW : Below w.heap.size w W) => strict_any t d W ((hv.below (hW.mono hBB)).more (Nat.le_trans hBB hW.size)) (hos.below hW).sv (Nat.le_refl _) hp ho hw)
  have HOK := Lib.hid ho
  have HRP := Lib.hid hp
  have HN := Lib.hid hn
  have HOW := Lib.hid hr
  have HFW := Lib.hid hf
  have HSW := Lib.hid hos
  have HBS := Lib.hid hbw
  have HFL := Lib.hid hf.lt
  have HPM := Lib.hid (fun W (hW : Below B w W) => hv.below hW)
  obtain ⟨A7, c7, rfl⟩ := own_slice hos.mem
  obtain ⟨A1, c1, rfl⟩ := own_slice hos.ths
  obtain ⟨i0, hi, hz0, hz1, hz2⟩ := info_parts info_pk
  clear hp ho hw hn hr hf hos hv hbw
  obtain ⟨W2, hW2⟩ : ∃ W, W = (((w.alloc (.cells #[.slice A7 s.mem.length c7, .slice A1 s.ths.length c1] 31)).alloc (.cells #[.int .i64 t, .bool d] 47)).alloc (.cells #[.slice none 0 0, .slice none 0 0] 31)) := ⟨_, rfl⟩
  obtain ⟨gs, hgs⟩ : ∃ g, g = w.heap.size := ⟨_, rfl⟩
  obtain ⟨gk, hgk⟩ : ∃ g, g = w.heap.size + 1 := ⟨_, rfl⟩
  obtain ⟨gr, hgr⟩ : ∃ g, g = w.heap.size + 1 + 1 := ⟨_, rfl⟩
  have HY := Lib.hid (show BoxC W2 gs 31 #[.slice A7 s.mem.length c7, .slice A1 s.ths.length c1] from by rw [hW2, hgs]; have := (BoxC.new w 31 #[.slice A7 s.mem.length c7, .slice A1 s.ths.length c1]) |>.alloc (.cells #[.int .i64 t, .bool d] 47) |>.alloc (.cells #[.slice none 0 0, .slice none 0 0] 31); (try rw [World.size_alloc] at this); (try rw [World.size_alloc] at this); (try rw [World.size_alloc] at this); exact this)
  have HK := Lib.hid (show BoxC W2 gk 47 #[.int .i64 t, .bool d] from by rw [hW2, hgk]; have := (BoxC.new (w.alloc (.cells #[.slice A7 s.mem.length c7, .slice A1 s.ths.length c1] 31)) 47 #[.int .i64 t, .bool d]) |>.alloc (.cells #[.slice none 0 0, .slice none 0 0] 31); (try rw [World.size_alloc] at this); (try rw [World.size_alloc] at this); (try rw [World.size_alloc] at this); exact this)
  have HR := Lib.hid (show BoxC W2 gr 31 #[.slice none 0 0, .slice none 0 0] from by rw [hW2, hgr]; have := (BoxC.new ((w.alloc (.cells #[.slice A7 s.mem.length c7, .slice A1 s.ths.length c1] 31)).alloc (.cells #[.int .i64 t, .bool d] 47)) 31 #[.slice none 0 0, .slice none 0 0]); (try rw [World.size_alloc] at this); (try rw [World.size_alloc] at this); (try rw [World.size_alloc] at this); exact this)
  have HG := Lib.hid (show w.heap.size ≤ gr from by omega)
  have HGK := Lib.hid (show w.heap.size ≤ gk from by omega)
  have HGN := Lib.hid (show gr ≠ gf ∧ gs ≠ gf from by have := HFL.out; omega)
  have HB2 := Lib.hid (show Below w.heap.size w W2 from by rw [hW2]; exact below_al (below_al (below_al (Below.refl _ _) _) _) _)
  go_enter Try.func35, Try.ntmps35
  go_upto_region 1 with fail
  rw [← hW2]
  (try rw [← hgr])
  (try rw [← hgk])
  (try rw [← hgs])
  clear hW2 hgr hgk hgs
  have HF2 := Lib.hid (HFW.out.below HB2.out HFW.out.lt)
  have f0 := HF2.out.cell 0 _ rfl
  have f1 := HF2.out.cell 1 _ rfl
  have y0 := HY.out.cell 0 _ rfl
  have y1 := HY.out.cell 1 _ rfl
  have k0 := HK.out.cell 0 _ rfl
  have k1 := HK.out.cell 1 _ rfl
  obtain ⟨q, hq⟩ : ∃ q, q = (rst P s t d false).isSome := ⟨_, rfl⟩
  have HQ := Lib.hid hq
  clear hq
  go_cut [8, 9] (fun vb vi wx => ∃ g A n c D m k, vb = .pointer (some ⟨g, 0, none⟩) ∧ vi = .bool q ∧ BoxC wx g 31 #[.slice A n c, .slice D m k] ∧ (∀ s', rst P s t d false = some s' → ∃ ps, OwnSt W2.heap.size wx (.slice A n c) (.slice D m k) s' ps) ∧ Below W2.heap.size W2 wx ∧ W2.heap.size ≤ g)
  case first =>
    refine wp_region_held_drew (S := (fun w' => (w'.cell? ⟨gf, 0, none⟩ = some (.slice P0 P.init.length d0) ∧ w'.cell? ⟨gf, 1, none⟩ = some (.slice P1 P.ths.length d1) ∧ w'.cell? ⟨gs, 0, none⟩ = some (.slice A7 s.mem.length c7) ∧ w'.cell? ⟨gs, 1, none⟩ = some (.slice A1 s.ths.length c1) ∧ w'.cell? ⟨gk, 0, none⟩ = some (.int .i64 t) ∧ w'.cell? ⟨gk, 1, none⟩ = some (.bool d) ∧ True) ∧ Below W2.heap.size W2 w')) (by kernel_rfl) ⟨⟨f0, f1, y0, y1, k0, k1, trivial⟩, below_drewN (Below.refl _ _) 1⟩ (fun hHeld => ?_)
    obtain ⟨Xs, hXs⟩ : ∃ W, W = W2.drew := ⟨_, rfl⟩
    have HXs := Lib.hid (show Below W2.heap.size W2 Xs from by rw [hXs]; exact below_drewN (Below.refl _ _) 1)
    rw [← hXs] at hHeld ⊢
    clear hXs
    refine wpAnyH_take (i := 0) (v := ?_) rfl (by kernel_rfl) (by kernel_rfl) (by kernel_rfl) (fun _ _ _ h => h) (Or.inl ⟨by rfl, ?_⟩) (by assumption) ?_
    rotate_left
    · intro w hSw; (try dsimp only at hSw); go_simp; (try with_reducible rfl)
    (try simp only [Act.put, pt8])
    refine wpAnyH_take (i := 1) (v := ?_) rfl (by kernel_rfl) (by kernel_rfl) (by kernel_rfl) (fun _ _ _ h => h) (Or.inl ⟨by rfl, ?_⟩) (by assumption) ?_
    rotate_left
    · intro w hSw; (try dsimp only at hSw); go_simp; (try with_reducible rfl)
    (try simp only [Act.put, pt8])
    refine wpAnyH_take (i := 2) (v := ?_) rfl (by kernel_rfl) (by kernel_rfl) (by kernel_rfl) (fun _ _ _ h => h) (Or.inl ⟨by rfl, ?_⟩) (by assumption) ?_
    rotate_left
    · intro w hSw; (try dsimp only at hSw); go_simp; (try with_reducible rfl)
    (try simp only [Act.put, pt8])
    refine wpAnyH_take (i := 3) (v := ?_) rfl (by kernel_rfl) (by kernel_rfl) (by kernel_rfl) (fun _ _ _ h => h) (Or.inl ⟨by rfl, ?_⟩) (by assumption) ?_
    rotate_left
    · intro w hSw; (try dsimp only at hSw); go_simp; (try with_reducible rfl)
    (try simp only [Act.put, pt8])
    refine wpAnyH_take (i := 4) (v := ?_) rfl (by kernel_rfl) (by kernel_rfl) (by kernel_rfl) (fun _ _ _ h => h) (Or.inl ⟨by rfl, ?_⟩) (by assumption) ?_
    rotate_left
    · intro w hSw; (try dsimp only at hSw); go_simp; (try with_reducible rfl)
    (try simp only [Act.put, pt8])
    refine wpAnyH_take (i := 5) (v := ?_) rfl (by kernel_rfl) (by kernel_rfl) (by kernel_rfl) (fun _ _ _ h => h) (Or.inl ⟨by rfl, ?_⟩) (by assumption) ?_
    rotate_left
    · intro w hSw; (try dsimp only at hSw); go_simp; (try with_reducible rfl)
    (try simp only [Act.put, pt8])
    refine wpAnyH_ready (rs := [6, 10]) (by kernel_rfl) (by simp) ?_
    refine AllReadyH.cons rfl (fun K hK => ?_) (AllReadyH.cons rfl (fun K hK => ?_) (AllReadyH.nil))
    · -- 6 first
      go_simp
      refine (HS.out _ (chain HB2.out hHeld.2)).mono ?_
      rintro e Xc ⟨Ad, nd, cd, Dd, md, kd, rfl, hos, hb⟩
      rw [← HQ.out]
      have HOD := Lib.hid (fun s' (h : rst P s t d false = some s') => show ∃ ps, OwnSt W2.heap.size Xc (.slice Ad nd cd) (.slice Dd md kd) s' ps from (hos s' h).imp fun ps h => h.base hHeld.2.size)
      have HBC := Lib.hid (chain hHeld.2 hb)
      refine hK.out _ _ ⟨⟨kc HBC.out f0, kc HBC.out f1, kc HBC.out y0, kc HBC.out y1, kc HBC.out k0, kc HBC.out k1, trivial⟩, HBC.out⟩ (fun hHeld => ?_)
      clear hK K
      (try simp only [Act.put, pt8])
      clear hb hos
      refine wpAnyH_take (i := 7) (v := ?_) rfl (by kernel_rfl) (by kernel_rfl) (by kernel_rfl) (fun _ _ _ h => h) (Or.inl ⟨by rfl, ?_⟩) (by assumption) ?_
      rotate_left
      · intro w hSw; (try dsimp only at hSw); go_simp; (try with_reducible rfl)
      (try simp only [Act.put, pt8])
      refine wpAnyH_take (i := 8) (v := ?_) rfl (by kernel_rfl) (by kernel_rfl) (by kernel_rfl) (fun _ _ _ h => h) (Or.inl ⟨by rfl, ?_⟩) (by assumption) ?_
      rotate_left
      · intro w hSw; (try dsimp only at hSw); go_simp; (try with_reducible rfl)
      (try simp only [Act.put, pt8])
      refine wpAnyH_take (i := 9) (v := ?_) rfl (by kernel_rfl) (by kernel_rfl) (by kernel_rfl) (fun _ _ _ h => h) (Or.inl ⟨by rfl, ?_⟩) (by assumption) ?_
      rotate_left
      · intro w hSw; (try dsimp only at hSw); go_simp; (try with_reducible rfl)
      (try simp only [Act.put, pt8])
      refine wpAnyH_ready (rs := [10]) (by kernel_rfl) (by simp) ?_
      refine AllReadyH.cons rfl (fun K hK => ?_) AllReadyH.nil
      have HBA := Lib.hid (below_al hHeld.2 (.cells #[.slice none 0 0, .slice none 0 0] 31))
      go_simp
      refine hK.out _ _ ⟨⟨kc HBA.out f0, kc HBA.out f1, kc HBA.out y0, kc HBA.out y1, kc HBA.out k0, kc HBA.out k1, trivial⟩, HBA.out⟩ (fun hHeld => ?_)
      clear hK K
      (try simp only [Act.put, pt8])
      have HBa := Lib.hid (below_al (Below.refl Xc.heap.size Xc) (.cells #[.slice none 0 0, .slice none 0 0] 31))
      obtain ⟨Xa, hXa⟩ : ∃ W, W = Xc.alloc (.cells #[.slice none 0 0, .slice none 0 0] 31) := ⟨_, rfl⟩
      obtain ⟨ga, hga⟩ : ∃ g, g = Xc.heap.size := ⟨_, rfl⟩
      have HGa := Lib.hid (show W2.heap.size ≤ ga from by rw [hga]; exact HBC.out.size)
      have HQa := Lib.hid (show BoxC Xa ga 31 #[.slice none 0 0, .slice none 0 0] from by rw [hXa, hga]; exact BoxC.new Xc _ _)
      rw [← hXa] at hHeld HBA HBa ⊢
      (try rw [← hga])
      replace HOD := Lib.hid (fun s' h => show ∃ ps, OwnSt W2.heap.size Xa (.slice Ad nd cd) (.slice Dd md kd) s' ps from (HOD.out s' h).imp fun ps h => h.below HBa.out)
      clear hXa hga HBa
      refine wpAnyH_ready (rs := [11]) (by kernel_rfl) (by simp) ?_
      refine AllReadyH.cons rfl (fun K hK => ?_) AllReadyH.nil
      have q0 := HQa.out.cell 0 _ rfl
      have q1 := HQa.out.cell 1 _ rfl
      have u0 := HQa.out.frozen 0
      have u1 := HQa.out.frozen 1
      have HBS2 := Lib.hid (show Below W2.heap.size W2 ((Xa.setCell ⟨ga, 0, none⟩ (.slice Ad nd cd)).setCell ⟨ga, 1, none⟩ (.slice Dd md kd)) from (hHeld.2.setCell (p := ⟨ga, 0, none⟩) HGa.out _).setCell (p := ⟨ga, 1, none⟩) HGa.out _)
      have HQS := Lib.hid (show BoxC ((Xa.setCell ⟨ga, 0, none⟩ (.slice Ad nd cd)).setCell ⟨ga, 1, none⟩ (.slice Dd md kd)) ga 31 #[(.slice Ad nd cd), (.slice Dd md kd)] from (HQa.out.set 0 _).set 1 _)
      have HOS := Lib.hid (fun s' h => show ∃ ps, OwnSt W2.heap.size ((Xa.setCell ⟨ga, 0, none⟩ (.slice Ad nd cd)).setCell ⟨ga, 1, none⟩ (.slice Dd md kd)) (.slice Ad nd cd) (.slice Dd md kd) s' ps from (HOD.out s' h).imp fun ps h => (h.box HQa.out (by decide) (by decide) (by decide) 0 _).box (HQa.out.set 0 _) (by decide) (by decide) (by decide) 1 _)
      go_simp
      refine hK.out _ _ ⟨⟨kc HBS2.out f0, kc HBS2.out f1, kc HBS2.out y0, kc HBS2.out y1, kc HBS2.out k0, kc HBS2.out k1, trivial⟩, HBS2.out⟩ (fun hHeld => ?_)
      clear q0 q1 u0 u1
      clear hK K
      (try simp only [Act.put, pt8])
      refine wpAnyH_ready (rs := [12]) (by kernel_rfl) (by simp) ?_
      refine AllReadyH.cons rfl (fun K hK => ?_) AllReadyH.nil
      go_simp
      refine hK.out _ _ hHeld (fun hHeld => ?_)
      clear hK K
      (try simp only [Act.put, pt8])
      refine wpAnyH_done (by kernel_rfl) ?_ _
      clear hHeld
      go_wp2_with fail
      go_meet
      exact ⟨ga, Ad, nd, cd, Dd, md, kd, rfl, rfl, HQS.out, HOS.out, HBS2.out, HGa.out⟩
    · -- 10 first
      have HBA := Lib.hid (below_al hHeld.2 (.cells #[.slice none 0 0, .slice none 0 0] 31))
      go_simp
      refine hK.out _ _ ⟨⟨kc HBA.out f0, kc HBA.out f1, kc HBA.out y0, kc HBA.out y1, kc HBA.out k0, kc HBA.out k1, trivial⟩, HBA.out⟩ (fun hHeld => ?_)
      clear hK K
      (try simp only [Act.put, pt8])
      have HBa := Lib.hid (below_al (Below.refl Xs.heap.size Xs) (.cells #[.slice none 0 0, .slice none 0 0] 31))
      obtain ⟨Xa, hXa⟩ : ∃ W, W = Xs.alloc (.cells #[.slice none 0 0, .slice none 0 0] 31) := ⟨_, rfl⟩
      obtain ⟨ga, hga⟩ : ∃ g, g = Xs.heap.size := ⟨_, rfl⟩
      have HGa := Lib.hid (show W2.heap.size ≤ ga from by rw [hga]; exact HXs.out.size)
      have HQa := Lib.hid (show BoxC Xa ga 31 #[.slice none 0 0, .slice none 0 0] from by rw [hXa, hga]; exact BoxC.new Xs _ _)
      rw [← hXa] at hHeld HBA HBa ⊢
      (try rw [← hga])
      clear hXa hga HBa
      refine wpAnyH_ready (rs := [6]) (by kernel_rfl) (by simp) ?_
      refine AllReadyH.cons rfl (fun K hK => ?_) AllReadyH.nil
      go_simp
      refine (HS.out _ (chain HB2.out hHeld.2)).mono ?_
      rintro e Xc ⟨Ad, nd, cd, Dd, md, kd, rfl, hos, hb⟩
      rw [← HQ.out]
      have HOD := Lib.hid (fun s' (h : rst P s t d false = some s') => show ∃ ps, OwnSt W2.heap.size Xc (.slice Ad nd cd) (.slice Dd md kd) s' ps from (hos s' h).imp fun ps h => h.base hHeld.2.size)
      have HBC := Lib.hid (chain hHeld.2 hb)
      replace HQa := Lib.hid (HQa.out.below hb HQa.out.lt)
      refine hK.out _ _ ⟨⟨kc HBC.out f0, kc HBC.out f1, kc HBC.out y0, kc HBC.out y1, kc HBC.out k0, kc HBC.out k1, trivial⟩, HBC.out⟩ (fun hHeld => ?_)
      clear hK K
      (try simp only [Act.put, pt8])
      clear hb hos
      refine wpAnyH_take (i := 7) (v := ?_) rfl (by kernel_rfl) (by kernel_rfl) (by kernel_rfl) (fun _ _ _ h => h) (Or.inl ⟨by rfl, ?_⟩) (by assumption) ?_
      rotate_left
      · intro w hSw; (try dsimp only at hSw); go_simp; (try with_reducible rfl)
      (try simp only [Act.put, pt8])
      refine wpAnyH_take (i := 8) (v := ?_) rfl (by kernel_rfl) (by kernel_rfl) (by kernel_rfl) (fun _ _ _ h => h) (Or.inl ⟨by rfl, ?_⟩) (by assumption) ?_
      rotate_left
      · intro w hSw; (try dsimp only at hSw); go_simp; (try with_reducible rfl)
      (try simp only [Act.put, pt8])
      refine wpAnyH_take (i := 9) (v := ?_) rfl (by kernel_rfl) (by kernel_rfl) (by kernel_rfl) (fun _ _ _ h => h) (Or.inl ⟨by rfl, ?_⟩) (by assumption) ?_
      rotate_left
      · intro w hSw; (try dsimp only at hSw); go_simp; (try with_reducible rfl)
      (try simp only [Act.put, pt8])
      refine wpAnyH_ready (rs := [11]) (by kernel_rfl) (by simp) ?_
      refine AllReadyH.cons rfl (fun K hK => ?_) AllReadyH.nil
      have q0 := HQa.out.cell 0 _ rfl
      have q1 := HQa.out.cell 1 _ rfl
      have u0 := HQa.out.frozen 0
      have u1 := HQa.out.frozen 1
      have HBS2 := Lib.hid (show Below W2.heap.size W2 ((Xc.setCell ⟨ga, 0, none⟩ (.slice Ad nd cd)).setCell ⟨ga, 1, none⟩ (.slice Dd md kd)) from (hHeld.2.setCell (p := ⟨ga, 0, none⟩) HGa.out _).setCell (p := ⟨ga, 1, none⟩) HGa.out _)
      have HQS := Lib.hid (show BoxC ((Xc.setCell ⟨ga, 0, none⟩ (.slice Ad nd cd)).setCell ⟨ga, 1, none⟩ (.slice Dd md kd)) ga 31 #[(.slice Ad nd cd), (.slice Dd md kd)] from (HQa.out.set 0 _).set 1 _)
      have HOS := Lib.hid (fun s' h => show ∃ ps, OwnSt W2.heap.size ((Xc.setCell ⟨ga, 0, none⟩ (.slice Ad nd cd)).setCell ⟨ga, 1, none⟩ (.slice Dd md kd)) (.slice Ad nd cd) (.slice Dd md kd) s' ps from (HOD.out s' h).imp fun ps h => (h.box HQa.out (by decide) (by decide) (by decide) 0 _).box (HQa.out.set 0 _) (by decide) (by decide) (by decide) 1 _)
      go_simp
      refine hK.out _ _ ⟨⟨kc HBS2.out f0, kc HBS2.out f1, kc HBS2.out y0, kc HBS2.out y1, kc HBS2.out k0, kc HBS2.out k1, trivial⟩, HBS2.out⟩ (fun hHeld => ?_)
      clear q0 q1 u0 u1
      clear hK K
      (try simp only [Act.put, pt8])
      refine wpAnyH_ready (rs := [12]) (by kernel_rfl) (by simp) ?_
      refine AllReadyH.cons rfl (fun K hK => ?_) AllReadyH.nil
      go_simp
      refine hK.out _ _ hHeld (fun hHeld => ?_)
      clear hK K
      (try simp only [Act.put, pt8])
      refine wpAnyH_done (by kernel_rfl) ?_ _
      clear hHeld
      go_wp2_with fail
      go_meet
      exact ⟨ga, Ad, nd, cd, Dd, md, kd, rfl, rfl, HQS.out, HOS.out, HBS2.out, HGa.out⟩
  case rest =>
  obtain ⟨g8, Ae, ne, ce, De, me, ke, rfl, rfl, h8, hos, hb, hg8⟩ := hcut
  have HB3 := Lib.hid (chain HB2.out hb)
  have H8 := Lib.hid h8
  have HOS := Lib.hid hos
  have HR3 := Lib.hid (HR.out.below hb HR.out.lt)
  have HY3 := Lib.hid (HY.out.below hb HY.out.lt)
  have HK3 := Lib.hid (HK.out.below hb HK.out.lt)
  have HF3 := Lib.hid (HF2.out.below hb HF2.out.lt)
  have HS2 := Lib.hid HB2.out.size
  have HN8 := Lib.hid (show g8 ≠ gf ∧ gr ≠ g8 from by have h1 := HF2.out.lt; have h2 := HR.out.lt; omega)
  clear h8 hos hb hg8 f0 f1 y0 y1 k0 k1 HR HY HK HF2
  have e0 := H8.out.cell 0 _ rfl
  have e1 := H8.out.cell 1 _ rfl
  cases q
  · have HNO := Lib.hid (show rst P s t d false = none from by have := HQ.out; cases h : rst P s t d false with | none => rfl | some a => (rw [h] at this; cases this))
    have r0 := HR3.out.cell 0 _ rfl
    have r1 := HR3.out.cell 1 _ rfl
    have f0 := HR3.out.frozen 0
    have f1 := HR3.out.frozen 1
    obtain ⟨W9, hW9⟩ : ∃ W, W = (wc.setCell ⟨gr, 0, none⟩ (.slice Ae ne ce)).setCell ⟨gr, 1, none⟩ (.slice De me ke) := ⟨_, rfl⟩
    have HR9 := Lib.hid (show BoxC W9 gr 31 #[(.slice Ae ne ce), (.slice De me ke)] from by rw [hW9]; exact (HR3.out.set 0 _).set 1 _)
    clear HOS
    have HB9 := Lib.hid (show KpG w.heap.size gf B w W9 from by rw [hW9]; exact ((KpG.of HB3.out).new HG.out 0 _).new HG.out 1 _)
    have HW9 := Lib.hid hW9
    clear hW9
    go_wp2_with fail
    rw [← HW9.out]
    clear r0 r1 f0 f1
    have r0 := HR9.out.cell 0 _ rfl
    have r1 := HR9.out.cell 1 _ rfl
    have hz : Try.prog.cellsOf 31 = 2 := by kernel_rfl
    refine bodyPost_ret (v := .tuple #[.agg #[(.slice Ae ne ce), (.slice De me ke)], .bool false]) (by simp [results, Try.results35, go_sem, r0, r1, hz]) rfl ?_
    exact ⟨_, _, _, _, _, _, by rw [HNO.out]; rfl, fun s' (h : rst P s t d false = some s') => absurd (HNO.out.symm.trans h) (by simp), HB9.out⟩
  · obtain ⟨s2, hs2⟩ : ∃ s2, rst P s t d false = some s2 := by have := HQ.out; cases h : rst P s t d false with | none => (rw [h] at this; cases this) | some a => exact ⟨a, rfl⟩
    have HS2' := Lib.hid hs2
    obtain ⟨rfl, j, rfl, j1, j2, j3, hat, hst⟩ := rst_strict hs2
    have HAT := Lib.hid hat
    obtain ⟨ps2, ho2⟩ := HOS.out s2 hs2
    have HO2 := Lib.hid ho2
    clear hs2 hst hat ho2
    obtain ⟨W5, hW5⟩ : ∃ W, W = wc := ⟨_, rfl⟩
    rw [← hW5] at HB3 H8 HR3 HY3 HK3 HF3 HO2 HOS e0 e1 ⊢
    clear hW5
    have HF := Lib.hid HF3.out
    have HK := Lib.hid HK3.out
    have HO := Lib.hid (own_below HOW.out HB3.out)
    have HZ5 := Lib.hid HB3.out.size
    go_upto_region 4 with fail
    go_cut [] (fun wx => ∃ A2 c2, BoxC wx gf 68 #[.slice P0 P.init.length d0, .slice P1 P.ths.length d1, .slice A2 (n + 1) c2] ∧ wx.ownsRow base 47 2 (.slice A2 (n + 1) c2) (n + 1) (r.flatMap kiC ++ [.int .i64 (j : Int), .bool false]) ∧ KpG W5.heap.size gf B W5 wx ∧ BoxC wx gk 47 #[.int .i64 (j : Int), .bool false])
    case first =>
      have HBS := Lib.hid (show base ≤ W5.heap.size from Nat.le_trans HBS.out HZ5.out)
      clear e0 e1
      refine wp_region_held_drew (S := (fun _ => True)) (by kernel_rfl) trivial (fun hHeld => ?_)
      obtain ⟨Xs, hXs⟩ : ∃ W, W = W5.drew := ⟨_, rfl⟩
      have HXs := Lib.hid (show Below W5.heap.size W5 Xs from by rw [hXs]; exact below_drewN (Below.refl _ _) 1)
      rw [← hXs]
      clear hXs
      have HFs := Lib.hid (HF.out.below HXs.out HF.out.lt)
      have HOs := Lib.hid (own_below HO.out HXs.out)
      have q2s := HFs.out.cell 2 _ rfl
      have HGs := Lib.hid (HK.out.below HXs.out HK.out.lt)
      have k0s := HGs.out.cell 0 _ rfl
      have k1s := HGs.out.cell 1 _ rfl
      refine wpAnyH_take (i := 0) (v := ?_) rfl (by kernel_rfl) (by kernel_rfl) (by kernel_rfl) (fun _ _ _ h => h) (Or.inl ⟨by rfl, ?_⟩) (by assumption) ?_
      rotate_left
      · intro w hSw; (try dsimp only at hSw); go_simp; (try with_reducible rfl)
      (try simp only [Act.put, pt8])
      refine wpAnyH_take (i := 1) (v := ?_) rfl (by kernel_rfl) (by kernel_rfl) (by kernel_rfl) (fun _ _ _ h => h) (Or.inl ⟨by rfl, ?_⟩) (by assumption) ?_
      rotate_left
      · intro w hSw; (try dsimp only at hSw); go_simp; (try with_reducible rfl)
      (try simp only [Act.put, pt8])
      refine wpAnyH_take (i := 2) (v := ?_) rfl (by kernel_rfl) (by kernel_rfl) (by kernel_rfl) (fun _ _ _ h => h) (Or.inl ⟨by rfl, ?_⟩) (by assumption) ?_
      rotate_left
      · intro w hSw; (try dsimp only at hSw); go_simp; (try with_reducible rfl)
      (try simp only [Act.put, pt8])
      refine wpAnyH_take (i := 3) (v := ?_) rfl (by kernel_rfl) (by kernel_rfl) (by kernel_rfl) (fun _ _ _ h => h) (Or.inl ⟨by rfl, ?_⟩) (by assumption) ?_
      rotate_left
      · intro w hSw; (try dsimp only at hSw); go_simp; (try with_reducible rfl)
      (try simp only [Act.put, pt8])
      refine wpAnyH_ready (rs := [4, 5]) (by kernel_rfl) (by simp) ?_
      refine AllReadyH.cons rfl (fun K hK => ?_) (AllReadyH.cons rfl (fun K hK => ?_) (AllReadyH.nil))
      · -- 4 first
        go_simp
        refine hK.out _ _ trivial (fun hHeld => ?_)
        clear hK K
        (try simp only [Act.put, pt8])
        refine wpAnyH_ready (rs := [5]) (by kernel_rfl) (by simp) ?_
        refine AllReadyH.cons rfl (fun K hK => ?_) AllReadyH.nil
        go_simp
        refine hK.out _ _ trivial (fun hHeld => ?_)
        clear hK K
        (try simp only [Act.put, pt8])
        refine wpAnyH_ready (rs := [6]) (by kernel_rfl) (by simp) ?_
        refine AllReadyH.cons rfl (fun K hK => ?_) AllReadyH.nil
        go_simp
        refine hK.out _ _ trivial (fun hHeld => ?_)
        clear hK K
        (try simp only [Act.put, pt8])
        obtain ⟨Xb, hXb⟩ : ∃ W, W = Xs.alloc (.cells #[.int .i64 (j : Int), .bool false] 47) := ⟨_, rfl⟩
        have HLb := Lib.hid (show BoxC Xb Xs.heap.size 47 #[.int .i64 (j : Int), .bool false] from by rw [hXb]; exact BoxC.new Xs _ _)
        have HAL := Lib.hid (show Below Xs.heap.size Xs Xb from by rw [hXb]; exact below_al (Below.refl _ _) _)
        rw [← hXb]
        clear hXb
        have HFb := Lib.hid (HFs.out.below HAL.out HFs.out.lt)
        have HOb := Lib.hid (own_below HOs.out HAL.out)
        have HGb := Lib.hid (HGs.out.below HAL.out HGs.out.lt)
        have HKb := Lib.hid (show KpG W5.heap.size gf B W5 Xb from KpG.of ((HXs.out.trans (HAL.out.mono HXs.out.size))))
        have HZb := Lib.hid (show W5.heap.size ≤ Xb.heap.size from Nat.le_trans HXs.out.size HAL.out.size)
        have q2b := HFb.out.cell 2 _ rfl
        have k0b := HGb.out.cell 0 _ rfl
        have k1b := HGb.out.cell 1 _ rfl
        refine wpAnyH_ready (rs := [7]) (by kernel_rfl) (by simp) ?_
        refine AllReadyH.cons rfl (fun K hK => ?_) AllReadyH.nil
        refine step_append_src (by rfl) _ _ _ (by rfl) base 47 i0 (.agg #[.int .i64 0, .bool false]) 2 16 Try.underlying26 hi hz0 hz1 hz2 (by rfl) (by decide) _ (n) (r.flatMap kiC) (by rfl) HOb.out (some ⟨Xs.heap.size, 0, none⟩) 1 1 [.int .i64 (j : Int), .bool false] (by rfl) (by rfl) (fun c => (by cases c)) (lit_new HLb.out) (by simp [Value.oneCell']) (by unfold maxLen; omega) (by omega) (by have h1 := HBS.out; have h2 := HZb.out; omega) (fun v2 Xa hown hg => ?_)
        obtain ⟨A2, c2, rfl⟩ := own_slice hown
        have HOa := Lib.hid hown
        have HFa := Lib.hid (HFb.out.grown (by decide) HOb.out hg)
        have HKa := Lib.hid (HKb.out.app HZb.out HOb.out hBb hg)
        have HGa := Lib.hid (show BoxC Xa gk 47 #[.int .i64 (j : Int), .bool false] from (hg.block gk HGb.out.lt (fun e => by have h1 := (HOW.out.lt gk e.symm).2; have h2 := HGK.out; change gk < w.heap.size at h1; omega)).trans HGb.out)
        clear hown hg
        refine hK.out _ _ trivial (fun hHeld => ?_)
        clear hK K
        (try simp only [Act.put, pt8])
        refine wpAnyH_take (i := 8) (v := ?_) rfl (by kernel_rfl) (by kernel_rfl) (by kernel_rfl) (fun _ _ _ h => h) (Or.inl ⟨by rfl, ?_⟩) (by assumption) ?_
        rotate_left
        · intro w hSw; (try dsimp only at hSw); go_simp; (try with_reducible rfl)
        (try simp only [Act.put, pt8])
        refine wpAnyH_take (i := 9) (v := ?_) rfl (by kernel_rfl) (by kernel_rfl) (by kernel_rfl) (fun _ _ _ h => h) (Or.inl ⟨by rfl, ?_⟩) (by assumption) ?_
        rotate_left
        · intro w hSw; (try dsimp only at hSw); go_simp; (try with_reducible rfl)
        (try simp only [Act.put, pt8])
        refine wpAnyH_ready (rs := [10]) (by kernel_rfl) (by simp) ?_
        refine AllReadyH.cons rfl (fun K hK => ?_) AllReadyH.nil
        have q2a := HFa.out.cell 2 _ rfl
        have u2a := HFa.out.frozen 2
        go_simp
        refine hK.out _ _ trivial (fun hHeld => ?_)
        clear q2a u2a
        clear hK K
        (try simp only [Act.put, pt8])
        refine wpAnyH_done (by kernel_rfl) ?_ _
        clear hHeld
        go_wp2_with fail
        go_meet
        exact ⟨A2, c2, HFa.out.set 2 _, own_box HOa.out HFa.out (by decide) 2 _, HKa.out.trans (KpG.set _ _ _ _ _ _), HGa.out.other (show gk ≠ gf from by have h1 := HGK.out; have h2 := HFL.out; omega) 2 _⟩
      · -- 5 first
        go_simp
        refine hK.out _ _ trivial (fun hHeld => ?_)
        clear hK K
        (try simp only [Act.put, pt8])
        refine wpAnyH_ready (rs := [4, 6]) (by kernel_rfl) (by simp) ?_
        refine AllReadyH.cons rfl (fun K hK => ?_) (AllReadyH.cons rfl (fun K hK => ?_) (AllReadyH.nil))
        · -- 4 first
          go_simp
          refine hK.out _ _ trivial (fun hHeld => ?_)
          clear hK K
          (try simp only [Act.put, pt8])
          refine wpAnyH_ready (rs := [6]) (by kernel_rfl) (by simp) ?_
          refine AllReadyH.cons rfl (fun K hK => ?_) AllReadyH.nil
          go_simp
          refine hK.out _ _ trivial (fun hHeld => ?_)
          clear hK K
          (try simp only [Act.put, pt8])
          obtain ⟨Xb, hXb⟩ : ∃ W, W = Xs.alloc (.cells #[.int .i64 (j : Int), .bool false] 47) := ⟨_, rfl⟩
          have HLb := Lib.hid (show BoxC Xb Xs.heap.size 47 #[.int .i64 (j : Int), .bool false] from by rw [hXb]; exact BoxC.new Xs _ _)
          have HAL := Lib.hid (show Below Xs.heap.size Xs Xb from by rw [hXb]; exact below_al (Below.refl _ _) _)
          rw [← hXb]
          clear hXb
          have HFb := Lib.hid (HFs.out.below HAL.out HFs.out.lt)
          have HOb := Lib.hid (own_below HOs.out HAL.out)
          have HGb := Lib.hid (HGs.out.below HAL.out HGs.out.lt)
          have HKb := Lib.hid (show KpG W5.heap.size gf B W5 Xb from KpG.of ((HXs.out.trans (HAL.out.mono HXs.out.size))))
          have HZb := Lib.hid (show W5.heap.size ≤ Xb.heap.size from Nat.le_trans HXs.out.size HAL.out.size)
          have q2b := HFb.out.cell 2 _ rfl
          have k0b := HGb.out.cell 0 _ rfl
          have k1b := HGb.out.cell 1 _ rfl
          refine wpAnyH_ready (rs := [7]) (by kernel_rfl) (by simp) ?_
          refine AllReadyH.cons rfl (fun K hK => ?_) AllReadyH.nil
          refine step_append_src (by rfl) _ _ _ (by rfl) base 47 i0 (.agg #[.int .i64 0, .bool false]) 2 16 Try.underlying26 hi hz0 hz1 hz2 (by rfl) (by decide) _ (n) (r.flatMap kiC) (by rfl) HOb.out (some ⟨Xs.heap.size, 0, none⟩) 1 1 [.int .i64 (j : Int), .bool false] (by rfl) (by rfl) (fun c => (by cases c)) (lit_new HLb.out) (by simp [Value.oneCell']) (by unfold maxLen; omega) (by omega) (by have h1 := HBS.out; have h2 := HZb.out; omega) (fun v2 Xa hown hg => ?_)
          obtain ⟨A2, c2, rfl⟩ := own_slice hown
          have HOa := Lib.hid hown
          have HFa := Lib.hid (HFb.out.grown (by decide) HOb.out hg)
          have HKa := Lib.hid (HKb.out.app HZb.out HOb.out hBb hg)
          have HGa := Lib.hid (show BoxC Xa gk 47 #[.int .i64 (j : Int), .bool false] from (hg.block gk HGb.out.lt (fun e => by have h1 := (HOW.out.lt gk e.symm).2; have h2 := HGK.out; change gk < w.heap.size at h1; omega)).trans HGb.out)
          clear hown hg
          refine hK.out _ _ trivial (fun hHeld => ?_)
          clear hK K
          (try simp only [Act.put, pt8])
          refine wpAnyH_take (i := 8) (v := ?_) rfl (by kernel_rfl) (by kernel_rfl) (by kernel_rfl) (fun _ _ _ h => h) (Or.inl ⟨by rfl, ?_⟩) (by assumption) ?_
          rotate_left
          · intro w hSw; (try dsimp only at hSw); go_simp; (try with_reducible rfl)
          (try simp only [Act.put, pt8])
          refine wpAnyH_take (i := 9) (v := ?_) rfl (by kernel_rfl) (by kernel_rfl) (by kernel_rfl) (fun _ _ _ h => h) (Or.inl ⟨by rfl, ?_⟩) (by assumption) ?_
          rotate_left
          · intro w hSw; (try dsimp only at hSw); go_simp; (try with_reducible rfl)
          (try simp only [Act.put, pt8])
          refine wpAnyH_ready (rs := [10]) (by kernel_rfl) (by simp) ?_
          refine AllReadyH.cons rfl (fun K hK => ?_) AllReadyH.nil
          have q2a := HFa.out.cell 2 _ rfl
          have u2a := HFa.out.frozen 2
          go_simp
          refine hK.out _ _ trivial (fun hHeld => ?_)
          clear q2a u2a
          clear hK K
          (try simp only [Act.put, pt8])
          refine wpAnyH_done (by kernel_rfl) ?_ _
          clear hHeld
          go_wp2_with fail
          go_meet
          exact ⟨A2, c2, HFa.out.set 2 _, own_box HOa.out HFa.out (by decide) 2 _, HKa.out.trans (KpG.set _ _ _ _ _ _), HGa.out.other (show gk ≠ gf from by have h1 := HGK.out; have h2 := HFL.out; omega) 2 _⟩
        · -- 6 first
          go_simp
          refine hK.out _ _ trivial (fun hHeld => ?_)
          clear hK K
          (try simp only [Act.put, pt8])
          obtain ⟨Xb, hXb⟩ : ∃ W, W = Xs.alloc (.cells #[.int .i64 (j : Int), .bool false] 47) := ⟨_, rfl⟩
          have HLb := Lib.hid (show BoxC Xb Xs.heap.size 47 #[.int .i64 (j : Int), .bool false] from by rw [hXb]; exact BoxC.new Xs _ _)
          have HAL := Lib.hid (show Below Xs.heap.size Xs Xb from by rw [hXb]; exact below_al (Below.refl _ _) _)
          rw [← hXb]
          clear hXb
          have HFb := Lib.hid (HFs.out.below HAL.out HFs.out.lt)
          have HOb := Lib.hid (own_below HOs.out HAL.out)
          have HGb := Lib.hid (HGs.out.below HAL.out HGs.out.lt)
          have HKb := Lib.hid (show KpG W5.heap.size gf B W5 Xb from KpG.of ((HXs.out.trans (HAL.out.mono HXs.out.size))))
          have HZb := Lib.hid (show W5.heap.size ≤ Xb.heap.size from Nat.le_trans HXs.out.size HAL.out.size)
          have q2b := HFb.out.cell 2 _ rfl
          have k0b := HGb.out.cell 0 _ rfl
          have k1b := HGb.out.cell 1 _ rfl
          refine wpAnyH_ready (rs := [4]) (by kernel_rfl) (by simp) ?_
          refine AllReadyH.cons rfl (fun K hK => ?_) AllReadyH.nil
          go_simp
          refine hK.out _ _ trivial (fun hHeld => ?_)
          clear hK K
          (try simp only [Act.put, pt8])
          refine wpAnyH_ready (rs := [7]) (by kernel_rfl) (by simp) ?_
          refine AllReadyH.cons rfl (fun K hK => ?_) AllReadyH.nil
          refine step_append_src (by rfl) _ _ _ (by rfl) base 47 i0 (.agg #[.int .i64 0, .bool false]) 2 16 Try.underlying26 hi hz0 hz1 hz2 (by rfl) (by decide) _ (n) (r.flatMap kiC) (by rfl) HOb.out (some ⟨Xs.heap.size, 0, none⟩) 1 1 [.int .i64 (j : Int), .bool false] (by rfl) (by rfl) (fun c => (by cases c)) (lit_new HLb.out) (by simp [Value.oneCell']) (by unfold maxLen; omega) (by omega) (by have h1 := HBS.out; have h2 := HZb.out; omega) (fun v2 Xa hown hg => ?_)
          obtain ⟨A2, c2, rfl⟩ := own_slice hown
          have HOa := Lib.hid hown
          have HFa := Lib.hid (HFb.out.grown (by decide) HOb.out hg)
          have HKa := Lib.hid (HKb.out.app HZb.out HOb.out hBb hg)
          have HGa := Lib.hid (show BoxC Xa gk 47 #[.int .i64 (j : Int), .bool false] from (hg.block gk HGb.out.lt (fun e => by have h1 := (HOW.out.lt gk e.symm).2; have h2 := HGK.out; change gk < w.heap.size at h1; omega)).trans HGb.out)
          clear hown hg
          refine hK.out _ _ trivial (fun hHeld => ?_)
          clear hK K
          (try simp only [Act.put, pt8])
          refine wpAnyH_take (i := 8) (v := ?_) rfl (by kernel_rfl) (by kernel_rfl) (by kernel_rfl) (fun _ _ _ h => h) (Or.inl ⟨by rfl, ?_⟩) (by assumption) ?_
          rotate_left
          · intro w hSw; (try dsimp only at hSw); go_simp; (try with_reducible rfl)
          (try simp only [Act.put, pt8])
          refine wpAnyH_take (i := 9) (v := ?_) rfl (by kernel_rfl) (by kernel_rfl) (by kernel_rfl) (fun _ _ _ h => h) (Or.inl ⟨by rfl, ?_⟩) (by assumption) ?_
          rotate_left
          · intro w hSw; (try dsimp only at hSw); go_simp; (try with_reducible rfl)
          (try simp only [Act.put, pt8])
          refine wpAnyH_ready (rs := [10]) (by kernel_rfl) (by simp) ?_
          refine AllReadyH.cons rfl (fun K hK => ?_) AllReadyH.nil
          have q2a := HFa.out.cell 2 _ rfl
          have u2a := HFa.out.frozen 2
          go_simp
          refine hK.out _ _ trivial (fun hHeld => ?_)
          clear q2a u2a
          clear hK K
          (try simp only [Act.put, pt8])
          refine wpAnyH_done (by kernel_rfl) ?_ _
          clear hHeld
          go_wp2_with fail
          go_meet
          exact ⟨A2, c2, HFa.out.set 2 _, own_box HOa.out HFa.out (by decide) 2 _, HKa.out.trans (KpG.set _ _ _ _ _ _), HGa.out.other (show gk ≠ gf from by have h1 := HGK.out; have h2 := HFL.out; omega) 2 _⟩
    case rest =>
    obtain ⟨A2, c2, hf6, ho6, hk6, hgk6⟩ := hcut
    obtain ⟨W6, hW6⟩ : ∃ W, W = wc := ⟨_, rfl⟩
    rw [← hW6] at hf6 ho6 hk6 hgk6 ⊢
    clear hW6 e0 e1
    have HKW := Lib.hid (show KpG w.heap.size gf B w W6 from (KpG.of HB3.out).trans (hk6.mono HZ5.out))
    have HF6 := Lib.hid hf6
    have HO6 := Lib.hid ho6
    have HG6 := Lib.hid hgk6
    have H86 := Lib.hid (H8.out.kp hk6 HN8.out.1 (by decide))
    have HR6 := Lib.hid (HR3.out.kp hk6 HGN.out.1 (by decide))
    have HY6 := Lib.hid (HY3.out.kp hk6 HGN.out.2 (by decide))
    have HN6 := Lib.hid (HO2.out.kp HF3.out (by decide) (by decide) (by decide) hk6)
    have HS6 := Lib.hid (HSW.out.kp HFW.out (by decide) (by decide) (by decide) HKW.out)
    have HZ6 := Lib.hid hk6.size
    clear hf6 ho6 hk6 hgk6 H8 HR3 HY3 HK3 HF3 HO2 HF HK HO
    obtain ⟨pi, pt, hpe, hpm⟩ := HPM.out W6 (HKW.out.below hBf hBB (Nat.le_refl _))
    injection hpe with hpe
    injection hpe with hpe
    injection hpe with hp1 hpe
    injection hpe with hp2 _
    subst hp1 hp2
    obtain ⟨P1', d1', hp1, l1, l2, l3⟩ := hpm.2
    injection hp1 with hp1 _ hp3
    subst hp1 hp3
    obtain ⟨b2, f2, rfl, hb2, hc2⟩ := l3 (by omega)
    obtain ⟨uu, z0, hS⟩ := hc2 j j2
    obtain ⟨A5, c5, rfl, n1, n2, n3⟩ := hS
    obtain ⟨b3, f3, rfl, hb3, hc3⟩ := n3 (Nat.lt_of_le_of_lt (Nat.zero_le _) j3)
    have hst3 := hc3 _ j3
    obtain ⟨gt, ct, cur, Ax, cx, Bx, cy, ht, -, -, th0, -, -, -, -, -⟩ := HS6.out.cells j1
    injection ht with ht1 _ ht3
    subst ht1 ht3
    have hth := HOK.out.th j j1 j2
    have hlo := hth.lo
    have hhi := hth.hi
    have HX := Lib.hid HAT.out
    generalize hxx : P.ths[j][s.ths[j].at'.toNat] = x at hst3 HX
    clear hxx
    obtain ⟨ja, hja⟩ : ∃ a : Nat, a = s.ths[j].at'.toNat := ⟨_, rfl⟩
    rw [show s.ths[j].at' = (ja : Int) from by rw [hja]; exact (Int.toNat_of_nonneg hlo).symm] at th0
    rw [← hja] at hst3 j3
    obtain ⟨jl, hjl⟩ : ∃ a, a = P.ths[j].length := ⟨_, rfl⟩
    rw [← hjl] at z0 j3 n1
    clear hja hjl hth hlo hhi hc2 hc3 l3 n3 hpm
    have s0 := hst3.1
    have p1 := HF6.out.cell 1 _ rfl
    have k0 := HG6.out.cell 0 _ rfl
    have y1 := HY6.out.cell 1 _ rfl
    unfold maxLen at l2 n2
    clear hst3
    go_upto_region 5 with fail
    refine wp_region_held_drew (S := (fun w' => (w'.cell? ⟨gf, 1, none⟩ = some (.slice (some ⟨b2, f2, none⟩) P.ths.length d1) ∧ w'.cell? ⟨gk, 0, none⟩ = some (.int .i64 (j : Int)) ∧ w'.cell? ⟨b2, f2 + j, none⟩ = some (.slice (some ⟨b3, f3, none⟩) jl c5) ∧ w'.cell? ⟨gs, 1, none⟩ = some (.slice (some ⟨gt, 0, none⟩) s.ths.length c1) ∧ w'.cell? ⟨gt, j * 4, none⟩ = some (.int .i64 (ja : Int)) ∧ w'.cell? ⟨b3, f3 + ja * 5, none⟩ = some (.int .i64 x.op) ∧ True) ∧ Below W6.heap.size W6 w')) (by kernel_rfl) ⟨⟨p1, k0, z0, y1, th0, s0, trivial⟩, below_drewN (Below.refl _ _) 1⟩ (fun hHeld => ?_)
    obtain ⟨W7, hW7⟩ : ∃ W, W = W6.drew := ⟨_, rfl⟩
    have HX7 := Lib.hid (show Below W6.heap.size W6 W7 from by rw [hW7]; exact below_drewN (Below.refl _ _) 1)
    rw [← hW7] at hHeld ⊢
    clear hW7
    refine wpAnyH_take (i := 0) (v := ?_) rfl (by kernel_rfl) (by kernel_rfl) (by kernel_rfl) (fun _ _ _ h => h) (Or.inl ⟨by rfl, ?_⟩) (by assumption) ?_
    rotate_left
    · intro w hSw; (try dsimp only at hSw); go_simp; (try with_reducible rfl)
    (try simp only [Act.put, pt8])
    refine wpAnyH_take (i := 1) (v := ?_) rfl (by kernel_rfl) (by kernel_rfl) (by kernel_rfl) (fun _ _ _ h => h) (Or.inl ⟨by rfl, ?_⟩) (by assumption) ?_
    rotate_left
    · intro w hSw; (try dsimp only at hSw); go_simp; (try with_reducible rfl)
    (try simp only [Act.put, pt8])
    refine wpAnyH_take (i := 2) (v := ?_) rfl (by kernel_rfl) (by kernel_rfl) (by kernel_rfl) (fun _ _ _ h => h) (Or.inl ⟨by rfl, ?_⟩) (by assumption) ?_
    rotate_left
    · intro w hSw; (try dsimp only at hSw); go_simp; (try with_reducible rfl)
    (try simp only [Act.put, pt8])
    refine wpAnyH_take (i := 3) (v := ?_) rfl (by kernel_rfl) (by kernel_rfl) (by kernel_rfl) (fun _ _ _ h => h) (Or.inl ⟨by rfl, ?_⟩) (by assumption) ?_
    rotate_left
    · intro w hSw; (try dsimp only at hSw); go_simp; (try with_reducible rfl)
    (try simp only [Act.put, pt8])
    refine wpAnyH_take (i := 4) (v := ?_) rfl (by kernel_rfl) (by kernel_rfl) (by kernel_rfl) (fun _ _ _ h => h) (Or.inl ⟨by rfl, ?_⟩) (by assumption) ?_
    rotate_left
    · intro w hSw; (try dsimp only at hSw); go_simp; (try with_reducible rfl)
    (try simp only [Act.put, pt8])
    refine wpAnyH_take (i := 5) (v := ?_) rfl (by kernel_rfl) (by kernel_rfl) (by kernel_rfl) (fun _ _ _ h => h) (Or.inl ⟨by rfl, ?_⟩) (by assumption) ?_
    rotate_left
    · intro w hSw; (try dsimp only at hSw); go_simp; (try with_reducible rfl)
    (try simp only [Act.put, pt8])
    refine wpAnyH_take (i := 6) (v := ?_) rfl (by kernel_rfl) (by kernel_rfl) (by kernel_rfl) (fun _ _ _ h => h) (Or.inl ⟨by rfl, ?_⟩) (by assumption) ?_
    rotate_left
    · intro w hSw; (try dsimp only at hSw); go_simp; (try with_reducible rfl)
    (try simp only [Act.put, pt8])
    refine wpAnyH_take (i := 7) (v := ?_) rfl (by kernel_rfl) (by kernel_rfl) (by kernel_rfl) (fun _ _ _ h => h) (Or.inl ⟨by rfl, ?_⟩) (by assumption) ?_
    rotate_left
    · intro w hSw; (try dsimp only at hSw); go_simp; (try with_reducible rfl)
    (try simp only [Act.put, pt8])
    refine wpAnyH_take (i := 8) (v := ?_) rfl (by kernel_rfl) (by kernel_rfl) (by kernel_rfl) (fun _ _ _ h => h) (Or.inl ⟨by rfl, ?_⟩) (by assumption) ?_
    rotate_left
    · intro w hSw; (try dsimp only at hSw); go_simp; (try with_reducible rfl)
    (try simp only [Act.put, pt8])
    refine wpAnyH_take (i := 9) (v := ?_) rfl (by kernel_rfl) (by kernel_rfl) (by kernel_rfl) (fun _ _ _ h => h) (Or.inl ⟨by rfl, ?_⟩) (by assumption) ?_
    rotate_left
    · intro w hSw; (try dsimp only at hSw); go_simp; (try with_reducible rfl)
    (try simp only [Act.put, pt8])
    refine wpAnyH_take (i := 10) (v := ?_) rfl (by kernel_rfl) (by kernel_rfl) (by kernel_rfl) (fun _ _ _ h => h) (Or.inl ⟨by rfl, ?_⟩) (by assumption) ?_
    rotate_left
    · intro w hSw; (try dsimp only at hSw); go_simp; (try with_reducible rfl)
    (try simp only [Act.put, pt8])
    refine wpAnyH_take (i := 11) (v := ?_) rfl (by kernel_rfl) (by kernel_rfl) (by kernel_rfl) (fun _ _ _ h => h) (Or.inl ⟨by rfl, ?_⟩) (by assumption) ?_
    rotate_left
    · intro w hSw; (try dsimp only at hSw); go_simp; (try with_reducible rfl)
    (try simp only [Act.put, pt8])
    refine wpAnyH_take (i := 12) (v := ?_) rfl (by kernel_rfl) (by kernel_rfl) (by kernel_rfl) (fun _ _ _ h => h) (Or.inl ⟨by rfl, ?_⟩) (by assumption) ?_
    rotate_left
    · intro w hSw; (try dsimp only at hSw); go_simp; (try with_reducible rfl)
    (try simp only [Act.put, pt8])
    refine wpAnyH_take (i := 13) (v := ?_) rfl (by kernel_rfl) (by kernel_rfl) (by kernel_rfl) (fun _ _ _ h => h) (Or.inl ⟨by rfl, ?_⟩) (by assumption) ?_
    rotate_left
    · intro w hSw; (try dsimp only at hSw); go_simp; (try with_reducible rfl)
    (try simp only [Act.put, pt8])
    refine wpAnyH_take (i := 14) (v := ?_) rfl (by kernel_rfl) (by kernel_rfl) (by kernel_rfl) (fun _ _ _ h => h) (Or.inl ⟨by rfl, ?_⟩) (by assumption) ?_
    rotate_left
    · intro w hSw; (try dsimp only at hSw); go_simp; (try with_reducible rfl)
    (try simp only [Act.put, pt8])
    refine wpAnyH_take (i := 15) (v := ?_) rfl (by kernel_rfl) (by kernel_rfl) (by kernel_rfl) (fun _ _ _ h => h) (Or.inl ⟨by rfl, ?_⟩) (by assumption) ?_
    rotate_left
    · intro w hSw; (try dsimp only at hSw); go_simp; (try with_reducible rfl)
    (try simp only [Act.put, pt8])
    refine wpAnyH_take (i := 16) (v := ?_) rfl (by kernel_rfl) (by kernel_rfl) (by kernel_rfl) (fun _ _ _ h => h) (Or.inl ⟨by rfl, ?_⟩) (by assumption) ?_
    rotate_left
    · intro w hSw; (try dsimp only at hSw); go_simp; (try with_reducible rfl)
    (try simp only [Act.put, pt8])
    refine wpAnyH_take (i := 17) (v := ?_) rfl (by kernel_rfl) (by kernel_rfl) (by kernel_rfl) (fun _ _ _ h => h) (Or.inl ⟨by rfl, ?_⟩) (by assumption) ?_
    rotate_left
    · intro w hSw; (try dsimp only at hSw); go_simp; (try with_reducible rfl)
    (try simp only [Act.put, pt8])
    refine wpAnyH_take (i := 18) (v := ?_) rfl (by kernel_rfl) (by kernel_rfl) (by kernel_rfl) (fun _ _ _ h => h) (Or.inl ⟨by rfl, ?_⟩) (by assumption) ?_
    rotate_left
    · intro w hSw; (try dsimp only at hSw); go_simp; (try with_reducible rfl)
    (try simp only [Act.put, pt8])
    refine wpAnyH_take (i := 19) (v := ?_) rfl (by kernel_rfl) (by kernel_rfl) (by kernel_rfl) (fun _ _ _ h => h) (Or.inl ⟨by rfl, ?_⟩) (by assumption) ?_
    rotate_left
    · intro w hSw; (try dsimp only at hSw); go_simp; (try with_reducible rfl)
    (try simp only [Act.put, pt8])
    refine wpAnyH_done (by kernel_rfl) ?_ _
    clear hHeld p1 k0 z0 y1 th0 s0
    have HF := Lib.hid (HF6.out.below HX7.out HF6.out.lt)
    have HO := Lib.hid (own_below HO6.out HX7.out)
    have HK := Lib.hid (HG6.out.below HX7.out HG6.out.lt)
    have H87 := Lib.hid (H86.out.below HX7.out H86.out.lt)
    have HR7 := Lib.hid (HR6.out.below HX7.out HR6.out.lt)
    have HN7 := Lib.hid (HN6.out.below HX7.out)
    have HK7 := Lib.hid (show KpG w.heap.size gf B w W7 from HKW.out.bl (Nat.le_trans HZ5.out HZ6.out) HX7.out)
    have HZ7 := Lib.hid (show w.heap.size ≤ W7.heap.size from HK7.out.size)
    clear HF6 HO6 HG6 H86 HR6 HY6 HN6 HS6
    have HNN := Lib.hid (show n + 1 = (r ++ [((j : Int), false)]).length from by rw [List.length_append, HN.out]; rfl)
    have HRR := Lib.hid (show r.flatMap kiC ++ [.int .i64 (j : Int), .bool false] = (r ++ [((j : Int), false)]).flatMap kiC from by rw [List.flatMap_append]; rfl)
    by_cases h3 : x.op = 3
    · have HW := Lib.hid (show wkOf x ((j : Int), false) = [((j : Int), false), ((j : Int), true)] from by unfold wkOf late; simp [h3])
      have hq3 : (x.op == 3) = true := by rw [beq_iff_eq]; exact h3
      clear h3
      go_upto_region 8 with fail
      have HBS := Lib.hid (show base ≤ W7.heap.size from Nat.le_trans HBS.out HZ7.out)
      refine wp_region_held_drew (S := (fun _ => True)) (by kernel_rfl) trivial (fun hHeld => ?_)
      obtain ⟨Xs, hXs⟩ : ∃ W, W = W7.drew := ⟨_, rfl⟩
      have HXs := Lib.hid (show Below W7.heap.size W7 Xs from by rw [hXs]; exact below_drewN (Below.refl _ _) 1)
      rw [← hXs]
      clear hXs
      have HFs := Lib.hid (HF.out.below HXs.out HF.out.lt)
      have HOs := Lib.hid (own_below HO.out HXs.out)
      have q2s := HFs.out.cell 2 _ rfl
      have HGs := Lib.hid (HK.out.below HXs.out HK.out.lt)
      have k0s := HGs.out.cell 0 _ rfl
      have k1s := HGs.out.cell 1 _ rfl
      refine wpAnyH_take (i := 0) (v := ?_) rfl (by kernel_rfl) (by kernel_rfl) (by kernel_rfl) (fun _ _ _ h => h) (Or.inl ⟨by rfl, ?_⟩) (by assumption) ?_
      rotate_left
      · intro w hSw; (try dsimp only at hSw); go_simp; (try with_reducible rfl)
      (try simp only [Act.put, pt8])
      refine wpAnyH_take (i := 1) (v := ?_) rfl (by kernel_rfl) (by kernel_rfl) (by kernel_rfl) (fun _ _ _ h => h) (Or.inl ⟨by rfl, ?_⟩) (by assumption) ?_
      rotate_left
      · intro w hSw; (try dsimp only at hSw); go_simp; (try with_reducible rfl)
      (try simp only [Act.put, pt8])
      refine wpAnyH_take (i := 2) (v := ?_) rfl (by kernel_rfl) (by kernel_rfl) (by kernel_rfl) (fun _ _ _ h => h) (Or.inl ⟨by rfl, ?_⟩) (by assumption) ?_
      rotate_left
      · intro w hSw; (try dsimp only at hSw); go_simp; (try with_reducible rfl)
      (try simp only [Act.put, pt8])
      refine wpAnyH_take (i := 3) (v := ?_) rfl (by kernel_rfl) (by kernel_rfl) (by kernel_rfl) (fun _ _ _ h => h) (Or.inl ⟨by rfl, ?_⟩) (by assumption) ?_
      rotate_left
      · intro w hSw; (try dsimp only at hSw); go_simp; (try with_reducible rfl)
      (try simp only [Act.put, pt8])
      refine wpAnyH_take (i := 5) (v := ?_) rfl (by kernel_rfl) (by kernel_rfl) (by kernel_rfl) (fun _ _ _ h => h) (Or.inl ⟨by rfl, ?_⟩) (by assumption) ?_
      rotate_left
      · intro w hSw; (try dsimp only at hSw); go_simp; (try with_reducible rfl)
      (try simp only [Act.put, pt8])
      refine wpAnyH_ready (rs := [4, 6]) (by kernel_rfl) (by simp) ?_
      refine AllReadyH.cons rfl (fun K hK => ?_) (AllReadyH.cons rfl (fun K hK => ?_) (AllReadyH.nil))
      · -- 4 first
        go_simp
        refine hK.out _ _ trivial (fun hHeld => ?_)
        clear hK K
        (try simp only [Act.put, pt8])
        refine wpAnyH_ready (rs := [6]) (by kernel_rfl) (by simp) ?_
        refine AllReadyH.cons rfl (fun K hK => ?_) AllReadyH.nil
        go_simp
        refine hK.out _ _ trivial (fun hHeld => ?_)
        clear hK K
        (try simp only [Act.put, pt8])
        refine wpAnyH_take (i := 7) (v := ?_) rfl (by kernel_rfl) (by kernel_rfl) (by kernel_rfl) (fun _ _ _ h => h) (Or.inl ⟨by rfl, ?_⟩) (by assumption) ?_
        rotate_left
        · intro w hSw; (try dsimp only at hSw); go_simp; (try with_reducible rfl)
        (try simp only [Act.put, pt8])
        refine wpAnyH_ready (rs := [8]) (by kernel_rfl) (by simp) ?_
        refine AllReadyH.cons rfl (fun K hK => ?_) AllReadyH.nil
        go_simp
        refine hK.out _ _ trivial (fun hHeld => ?_)
        clear hK K
        (try simp only [Act.put, pt8])
        obtain ⟨Xb, hXb⟩ : ∃ W, W = Xs.alloc (.cells #[.int .i64 (j : Int), .bool true] 47) := ⟨_, rfl⟩
        have HLb := Lib.hid (show BoxC Xb Xs.heap.size 47 #[.int .i64 (j : Int), .bool true] from by rw [hXb]; exact BoxC.new Xs _ _)
        have HAL := Lib.hid (show Below Xs.heap.size Xs Xb from by rw [hXb]; exact below_al (Below.refl _ _) _)
        rw [← hXb]
        clear hXb
        have HFb := Lib.hid (HFs.out.below HAL.out HFs.out.lt)
        have HOb := Lib.hid (own_below HOs.out HAL.out)
        have HKb := Lib.hid (show KpG W7.heap.size gf B W7 Xb from KpG.of ((HXs.out.trans (HAL.out.mono HXs.out.size))))
        have HZb := Lib.hid (show W7.heap.size ≤ Xb.heap.size from Nat.le_trans HXs.out.size HAL.out.size)
        have q2b := HFb.out.cell 2 _ rfl
        have k0b := kc HAL.out k0s
        refine wpAnyH_ready (rs := [9]) (by kernel_rfl) (by simp) ?_
        refine AllReadyH.cons rfl (fun K hK => ?_) AllReadyH.nil
        refine step_append_src (by rfl) _ _ _ (by rfl) base 47 i0 (.agg #[.int .i64 0, .bool false]) 2 16 Try.underlying26 hi hz0 hz1 hz2 (by rfl) (by decide) _ (n + 1) (r.flatMap kiC ++ [.int .i64 (j : Int), .bool false]) (by rfl) HOb.out (some ⟨Xs.heap.size, 0, none⟩) 1 1 [.int .i64 (j : Int), .bool true] (by rfl) (by rfl) (fun c => (by cases c)) (lit_new HLb.out) (by simp [Value.oneCell']) (by unfold maxLen; omega) (by omega) (by have h1 := HBS.out; have h2 := HZb.out; omega) (fun v2 Xa hown hg => ?_)
        obtain ⟨A2, c2, rfl⟩ := own_slice hown
        have HOa := Lib.hid hown
        have HFa := Lib.hid (HFb.out.grown (by decide) HOb.out hg)
        have HKa := Lib.hid (HKb.out.app HZb.out HOb.out hBb hg)
        clear hown hg
        refine hK.out _ _ trivial (fun hHeld => ?_)
        clear hK K
        (try simp only [Act.put, pt8])
        refine wpAnyH_take (i := 10) (v := ?_) rfl (by kernel_rfl) (by kernel_rfl) (by kernel_rfl) (fun _ _ _ h => h) (Or.inl ⟨by rfl, ?_⟩) (by assumption) ?_
        rotate_left
        · intro w hSw; (try dsimp only at hSw); go_simp; (try with_reducible rfl)
        (try simp only [Act.put, pt8])
        refine wpAnyH_take (i := 11) (v := ?_) rfl (by kernel_rfl) (by kernel_rfl) (by kernel_rfl) (fun _ _ _ h => h) (Or.inl ⟨by rfl, ?_⟩) (by assumption) ?_
        rotate_left
        · intro w hSw; (try dsimp only at hSw); go_simp; (try with_reducible rfl)
        (try simp only [Act.put, pt8])
        refine wpAnyH_ready (rs := [12]) (by kernel_rfl) (by simp) ?_
        refine AllReadyH.cons rfl (fun K hK => ?_) AllReadyH.nil
        have q2a := HFa.out.cell 2 _ rfl
        have u2a := HFa.out.frozen 2
        go_simp
        refine hK.out _ _ trivial (fun hHeld => ?_)
        clear q2a u2a
        clear hK K
        (try simp only [Act.put, pt8])
        refine wpAnyH_done (by kernel_rfl) ?_ _
        clear hHeld
        obtain ⟨W8, hW8⟩ : ∃ W, W = Xa.setCell ⟨gf, 2, none⟩ (.slice A2 (n + 1 + 1) c2) := ⟨_, rfl⟩
        rw [← hW8]
        have HN3 := Lib.hid (show n + 1 + 1 = (r ++ wkOf x ((j : Int), false)).length from by rw [HW.out, List.length_append, HN.out]; rfl)
        have HF8 := Lib.hid (show BoxC W8 gf 68 #[.slice P0 P.init.length d0, .slice (some ⟨b2, f2, none⟩) P.ths.length d1, .slice A2 (n + 1 + 1) c2] from by rw [hW8]; exact HFa.out.set 2 _)
        have HO8 := Lib.hid (show W8.ownsRow base 47 2 (.slice A2 (n + 1 + 1) c2) (n + 1 + 1) ((r ++ wkOf x ((j : Int), false)).flatMap kiC) from by rw [hW8, HW.out]; have := own_box HOa.out HFa.out (by decide) 2 (.slice A2 (n + 1 + 1) c2); rw [List.append_assoc] at this; rw [List.flatMap_append]; exact this)
        have hk3 : KpG W7.heap.size gf B W7 W8 := by rw [hW8]; exact HKa.out.trans (KpG.set _ _ _ _ _ _)
        have H88 := Lib.hid (H87.out.kp hk3 HN8.out.1 (by decide))
        have HR8 := Lib.hid (HR7.out.kp hk3 HGN.out.1 (by decide))
        have HN9 := Lib.hid (HN7.out.kp HF.out (by decide) (by decide) (by decide) hk3)
        have HK8 := Lib.hid (show KpG w.heap.size gf B w W8 from HK7.out.trans (hk3.mono HZ7.out))
        clear hk3 hW8 HF HO HK
        have e0 := H88.out.cell 0 _ rfl
        have e1 := H88.out.cell 1 _ rfl
        have r0 := HR8.out.cell 0 _ rfl
        have r1 := HR8.out.cell 1 _ rfl
        have f0 := HR8.out.frozen 0
        have f1 := HR8.out.frozen 1
        obtain ⟨W9, hW9⟩ : ∃ W, W = (W8.setCell ⟨gr, 0, none⟩ (.slice Ae ne ce)).setCell ⟨gr, 1, none⟩ (.slice De me ke) := ⟨_, rfl⟩
        have HR9 := Lib.hid (show BoxC W9 gr 31 #[(.slice Ae ne ce), (.slice De me ke)] from by rw [hW9]; exact (HR8.out.set 0 _).set 1 _)
        have HO9 := Lib.hid (show OwnSt W2.heap.size W9 (.slice Ae ne ce) (.slice De me ke) s2 ps2 from by rw [hW9]; exact (HN9.out.box HR8.out (by decide) (by decide) (by decide) 0 _).box (HR8.out.set 0 _) (by decide) (by decide) (by decide) 1 _)
        have HF9 := Lib.hid (show BoxC W9 gf 68 #[.slice P0 P.init.length d0, .slice (some ⟨b2, f2, none⟩) P.ths.length d1, .slice A2 (n + 1 + 1) c2] from by rw [hW9]; exact (HF8.out.other (Ne.symm HGN.out.1) 0 _).other (Ne.symm HGN.out.1) 1 _)
        have HP9 := Lib.hid (show W9.ownsRow base 47 2 (.slice A2 (n + 1 + 1) c2) (n + 1 + 1) ((r ++ wkOf x ((j : Int), false)).flatMap kiC) from by rw [hW9]; exact own_box (own_box HO8.out HR8.out (by decide) 0 _) (HR8.out.set 0 _) (by decide) 1 _)
        have HB9 := Lib.hid (show KpG w.heap.size gf B w W9 from by rw [hW9]; exact (HK8.out.new HG.out 0 _).new HG.out 1 _)
        have HW9 := Lib.hid hW9
        clear hW9
        go_wp2_with fail
        rw [← HW9.out]
        clear r0 r1 f0 f1
        have r0 := HR9.out.cell 0 _ rfl
        have r1 := HR9.out.cell 1 _ rfl
        have hz : Try.prog.cellsOf 31 = 2 := by kernel_rfl
        refine bodyPost_ret (v := .tuple #[.agg #[(.slice Ae ne ce), (.slice De me ke)], .bool true]) (by simp [results, Try.results35, go_sem, r0, r1, hz]) rfl ?_
        exact ⟨_, _, _, _, _, _, by rw [HS2'.out]; rfl, fun s' (h : rst P s (j : Int) false false = some s') => by
          rw [HS2'.out] at h
          injection h with h
          subst h
          exact ⟨⟨ps2, HO9.out.base HS2.out⟩, A2, n + 1 + 1, c2, x, HX.out, HN3.out, HF9.out, HP9.out⟩, HB9.out⟩
      · -- 6 first
        go_simp
        refine hK.out _ _ trivial (fun hHeld => ?_)
        clear hK K
        (try simp only [Act.put, pt8])
        refine wpAnyH_take (i := 7) (v := ?_) rfl (by kernel_rfl) (by kernel_rfl) (by kernel_rfl) (fun _ _ _ h => h) (Or.inl ⟨by rfl, ?_⟩) (by assumption) ?_
        rotate_left
        · intro w hSw; (try dsimp only at hSw); go_simp; (try with_reducible rfl)
        (try simp only [Act.put, pt8])
        refine wpAnyH_ready (rs := [4, 8]) (by kernel_rfl) (by simp) ?_
        refine AllReadyH.cons rfl (fun K hK => ?_) (AllReadyH.cons rfl (fun K hK => ?_) (AllReadyH.nil))
        · -- 4 first
          go_simp
          refine hK.out _ _ trivial (fun hHeld => ?_)
          clear hK K
          (try simp only [Act.put, pt8])
          refine wpAnyH_ready (rs := [8]) (by kernel_rfl) (by simp) ?_
          refine AllReadyH.cons rfl (fun K hK => ?_) AllReadyH.nil
          go_simp
          refine hK.out _ _ trivial (fun hHeld => ?_)
          clear hK K
          (try simp only [Act.put, pt8])
          obtain ⟨Xb, hXb⟩ : ∃ W, W = Xs.alloc (.cells #[.int .i64 (j : Int), .bool true] 47) := ⟨_, rfl⟩
          have HLb := Lib.hid (show BoxC Xb Xs.heap.size 47 #[.int .i64 (j : Int), .bool true] from by rw [hXb]; exact BoxC.new Xs _ _)
          have HAL := Lib.hid (show Below Xs.heap.size Xs Xb from by rw [hXb]; exact below_al (Below.refl _ _) _)
          rw [← hXb]
          clear hXb
          have HFb := Lib.hid (HFs.out.below HAL.out HFs.out.lt)
          have HOb := Lib.hid (own_below HOs.out HAL.out)
          have HKb := Lib.hid (show KpG W7.heap.size gf B W7 Xb from KpG.of ((HXs.out.trans (HAL.out.mono HXs.out.size))))
          have HZb := Lib.hid (show W7.heap.size ≤ Xb.heap.size from Nat.le_trans HXs.out.size HAL.out.size)
          have q2b := HFb.out.cell 2 _ rfl
          have k0b := kc HAL.out k0s
          refine wpAnyH_ready (rs := [9]) (by kernel_rfl) (by simp) ?_
          refine AllReadyH.cons rfl (fun K hK => ?_) AllReadyH.nil
          refine step_append_src (by rfl) _ _ _ (by rfl) base 47 i0 (.agg #[.int .i64 0, .bool false]) 2 16 Try.underlying26 hi hz0 hz1 hz2 (by rfl) (by decide) _ (n + 1) (r.flatMap kiC ++ [.int .i64 (j : Int), .bool false]) (by rfl) HOb.out (some ⟨Xs.heap.size, 0, none⟩) 1 1 [.int .i64 (j : Int), .bool true] (by rfl) (by rfl) (fun c => (by cases c)) (lit_new HLb.out) (by simp [Value.oneCell']) (by unfold maxLen; omega) (by omega) (by have h1 := HBS.out; have h2 := HZb.out; omega) (fun v2 Xa hown hg => ?_)
          obtain ⟨A2, c2, rfl⟩ := own_slice hown
          have HOa := Lib.hid hown
          have HFa := Lib.hid (HFb.out.grown (by decide) HOb.out hg)
          have HKa := Lib.hid (HKb.out.app HZb.out HOb.out hBb hg)
          clear hown hg
          refine hK.out _ _ trivial (fun hHeld => ?_)
          clear hK K
          (try simp only [Act.put, pt8])
          refine wpAnyH_take (i := 10) (v := ?_) rfl (by kernel_rfl) (by kernel_rfl) (by kernel_rfl) (fun _ _ _ h => h) (Or.inl ⟨by rfl, ?_⟩) (by assumption) ?_
          rotate_left
          · intro w hSw; (try dsimp only at hSw); go_simp; (try with_reducible rfl)
          (try simp only [Act.put, pt8])
          refine wpAnyH_take (i := 11) (v := ?_) rfl (by kernel_rfl) (by kernel_rfl) (by kernel_rfl) (fun _ _ _ h => h) (Or.inl ⟨by rfl, ?_⟩) (by assumption) ?_
          rotate_left
          · intro w hSw; (try dsimp only at hSw); go_simp; (try with_reducible rfl)
          (try simp only [Act.put, pt8])
          refine wpAnyH_ready (rs := [12]) (by kernel_rfl) (by simp) ?_
          refine AllReadyH.cons rfl (fun K hK => ?_) AllReadyH.nil
          have q2a := HFa.out.cell 2 _ rfl
          have u2a := HFa.out.frozen 2
          go_simp
          refine hK.out _ _ trivial (fun hHeld => ?_)
          clear q2a u2a
          clear hK K
          (try simp only [Act.put, pt8])
          refine wpAnyH_done (by kernel_rfl) ?_ _
          clear hHeld
          obtain ⟨W8, hW8⟩ : ∃ W, W = Xa.setCell ⟨gf, 2, none⟩ (.slice A2 (n + 1 + 1) c2) := ⟨_, rfl⟩
          rw [← hW8]
          have HN3 := Lib.hid (show n + 1 + 1 = (r ++ wkOf x ((j : Int), false)).length from by rw [HW.out, List.length_append, HN.out]; rfl)
          have HF8 := Lib.hid (show BoxC W8 gf 68 #[.slice P0 P.init.length d0, .slice (some ⟨b2, f2, none⟩) P.ths.length d1, .slice A2 (n + 1 + 1) c2] from by rw [hW8]; exact HFa.out.set 2 _)
          have HO8 := Lib.hid (show W8.ownsRow base 47 2 (.slice A2 (n + 1 + 1) c2) (n + 1 + 1) ((r ++ wkOf x ((j : Int), false)).flatMap kiC) from by rw [hW8, HW.out]; have := own_box HOa.out HFa.out (by decide) 2 (.slice A2 (n + 1 + 1) c2); rw [List.append_assoc] at this; rw [List.flatMap_append]; exact this)
          have hk3 : KpG W7.heap.size gf B W7 W8 := by rw [hW8]; exact HKa.out.trans (KpG.set _ _ _ _ _ _)
          have H88 := Lib.hid (H87.out.kp hk3 HN8.out.1 (by decide))
          have HR8 := Lib.hid (HR7.out.kp hk3 HGN.out.1 (by decide))
          have HN9 := Lib.hid (HN7.out.kp HF.out (by decide) (by decide) (by decide) hk3)
          have HK8 := Lib.hid (show KpG w.heap.size gf B w W8 from HK7.out.trans (hk3.mono HZ7.out))
          clear hk3 hW8 HF HO HK
          have e0 := H88.out.cell 0 _ rfl
          have e1 := H88.out.cell 1 _ rfl
          have r0 := HR8.out.cell 0 _ rfl
          have r1 := HR8.out.cell 1 _ rfl
          have f0 := HR8.out.frozen 0
          have f1 := HR8.out.frozen 1
          obtain ⟨W9, hW9⟩ : ∃ W, W = (W8.setCell ⟨gr, 0, none⟩ (.slice Ae ne ce)).setCell ⟨gr, 1, none⟩ (.slice De me ke) := ⟨_, rfl⟩
          have HR9 := Lib.hid (show BoxC W9 gr 31 #[(.slice Ae ne ce), (.slice De me ke)] from by rw [hW9]; exact (HR8.out.set 0 _).set 1 _)
          have HO9 := Lib.hid (show OwnSt W2.heap.size W9 (.slice Ae ne ce) (.slice De me ke) s2 ps2 from by rw [hW9]; exact (HN9.out.box HR8.out (by decide) (by decide) (by decide) 0 _).box (HR8.out.set 0 _) (by decide) (by decide) (by decide) 1 _)
          have HF9 := Lib.hid (show BoxC W9 gf 68 #[.slice P0 P.init.length d0, .slice (some ⟨b2, f2, none⟩) P.ths.length d1, .slice A2 (n + 1 + 1) c2] from by rw [hW9]; exact (HF8.out.other (Ne.symm HGN.out.1) 0 _).other (Ne.symm HGN.out.1) 1 _)
          have HP9 := Lib.hid (show W9.ownsRow base 47 2 (.slice A2 (n + 1 + 1) c2) (n + 1 + 1) ((r ++ wkOf x ((j : Int), false)).flatMap kiC) from by rw [hW9]; exact own_box (own_box HO8.out HR8.out (by decide) 0 _) (HR8.out.set 0 _) (by decide) 1 _)
          have HB9 := Lib.hid (show KpG w.heap.size gf B w W9 from by rw [hW9]; exact (HK8.out.new HG.out 0 _).new HG.out 1 _)
          have HW9 := Lib.hid hW9
          clear hW9
          go_wp2_with fail
          rw [← HW9.out]
          clear r0 r1 f0 f1
          have r0 := HR9.out.cell 0 _ rfl
          have r1 := HR9.out.cell 1 _ rfl
          have hz : Try.prog.cellsOf 31 = 2 := by kernel_rfl
          refine bodyPost_ret (v := .tuple #[.agg #[(.slice Ae ne ce), (.slice De me ke)], .bool true]) (by simp [results, Try.results35, go_sem, r0, r1, hz]) rfl ?_
          exact ⟨_, _, _, _, _, _, by rw [HS2'.out]; rfl, fun s' (h : rst P s (j : Int) false false = some s') => by
            rw [HS2'.out] at h
            injection h with h
            subst h
            exact ⟨⟨ps2, HO9.out.base HS2.out⟩, A2, n + 1 + 1, c2, x, HX.out, HN3.out, HF9.out, HP9.out⟩, HB9.out⟩
        · -- 8 first
          go_simp
          refine hK.out _ _ trivial (fun hHeld => ?_)
          clear hK K
          (try simp only [Act.put, pt8])
          obtain ⟨Xb, hXb⟩ : ∃ W, W = Xs.alloc (.cells #[.int .i64 (j : Int), .bool true] 47) := ⟨_, rfl⟩
          have HLb := Lib.hid (show BoxC Xb Xs.heap.size 47 #[.int .i64 (j : Int), .bool true] from by rw [hXb]; exact BoxC.new Xs _ _)
          have HAL := Lib.hid (show Below Xs.heap.size Xs Xb from by rw [hXb]; exact below_al (Below.refl _ _) _)
          rw [← hXb]
          clear hXb
          have HFb := Lib.hid (HFs.out.below HAL.out HFs.out.lt)
          have HOb := Lib.hid (own_below HOs.out HAL.out)
          have HKb := Lib.hid (show KpG W7.heap.size gf B W7 Xb from KpG.of ((HXs.out.trans (HAL.out.mono HXs.out.size))))
          have HZb := Lib.hid (show W7.heap.size ≤ Xb.heap.size from Nat.le_trans HXs.out.size HAL.out.size)
          have q2b := HFb.out.cell 2 _ rfl
          have k0b := kc HAL.out k0s
          refine wpAnyH_ready (rs := [4]) (by kernel_rfl) (by simp) ?_
          refine AllReadyH.cons rfl (fun K hK => ?_) AllReadyH.nil
          go_simp
          refine hK.out _ _ trivial (fun hHeld => ?_)
          clear hK K
          (try simp only [Act.put, pt8])
          refine wpAnyH_ready (rs := [9]) (by kernel_rfl) (by simp) ?_
          refine AllReadyH.cons rfl (fun K hK => ?_) AllReadyH.nil
          refine step_append_src (by rfl) _ _ _ (by rfl) base 47 i0 (.agg #[.int .i64 0, .bool false]) 2 16 Try.underlying26 hi hz0 hz1 hz2 (by rfl) (by decide) _ (n + 1) (r.flatMap kiC ++ [.int .i64 (j : Int), .bool false]) (by rfl) HOb.out (some ⟨Xs.heap.size, 0, none⟩) 1 1 [.int .i64 (j : Int), .bool true] (by rfl) (by rfl) (fun c => (by cases c)) (lit_new HLb.out) (by simp [Value.oneCell']) (by unfold maxLen; omega) (by omega) (by have h1 := HBS.out; have h2 := HZb.out; omega) (fun v2 Xa hown hg => ?_)
          obtain ⟨A2, c2, rfl⟩ := own_slice hown
          have HOa := Lib.hid hown
          have HFa := Lib.hid (HFb.out.grown (by decide) HOb.out hg)
          have HKa := Lib.hid (HKb.out.app HZb.out HOb.out hBb hg)
          clear hown hg
          refine hK.out _ _ trivial (fun hHeld => ?_)
          clear hK K
          (try simp only [Act.put, pt8])
          refine wpAnyH_take (i := 10) (v := ?_) rfl (by kernel_rfl) (by kernel_rfl) (by kernel_rfl) (fun _ _ _ h => h) (Or.inl ⟨by rfl, ?_⟩) (by assumption) ?_
          rotate_left
          · intro w hSw; (try dsimp only at hSw); go_simp; (try with_reducible rfl)
          (try simp only [Act.put, pt8])
          refine wpAnyH_take (i := 11) (v := ?_) rfl (by kernel_rfl) (by kernel_rfl) (by kernel_rfl) (fun _ _ _ h => h) (Or.inl ⟨by rfl, ?_⟩) (by assumption) ?_
          rotate_left
          · intro w hSw; (try dsimp only at hSw); go_simp; (try with_reducible rfl)
          (try simp only [Act.put, pt8])
          refine wpAnyH_ready (rs := [12]) (by kernel_rfl) (by simp) ?_
          refine AllReadyH.cons rfl (fun K hK => ?_) AllReadyH.nil
          have q2a := HFa.out.cell 2 _ rfl
          have u2a := HFa.out.frozen 2
          go_simp
          refine hK.out _ _ trivial (fun hHeld => ?_)
          clear q2a u2a
          clear hK K
          (try simp only [Act.put, pt8])
          refine wpAnyH_done (by kernel_rfl) ?_ _
          clear hHeld
          obtain ⟨W8, hW8⟩ : ∃ W, W = Xa.setCell ⟨gf, 2, none⟩ (.slice A2 (n + 1 + 1) c2) := ⟨_, rfl⟩
          rw [← hW8]
          have HN3 := Lib.hid (show n + 1 + 1 = (r ++ wkOf x ((j : Int), false)).length from by rw [HW.out, List.length_append, HN.out]; rfl)
          have HF8 := Lib.hid (show BoxC W8 gf 68 #[.slice P0 P.init.length d0, .slice (some ⟨b2, f2, none⟩) P.ths.length d1, .slice A2 (n + 1 + 1) c2] from by rw [hW8]; exact HFa.out.set 2 _)
          have HO8 := Lib.hid (show W8.ownsRow base 47 2 (.slice A2 (n + 1 + 1) c2) (n + 1 + 1) ((r ++ wkOf x ((j : Int), false)).flatMap kiC) from by rw [hW8, HW.out]; have := own_box HOa.out HFa.out (by decide) 2 (.slice A2 (n + 1 + 1) c2); rw [List.append_assoc] at this; rw [List.flatMap_append]; exact this)
          have hk3 : KpG W7.heap.size gf B W7 W8 := by rw [hW8]; exact HKa.out.trans (KpG.set _ _ _ _ _ _)
          have H88 := Lib.hid (H87.out.kp hk3 HN8.out.1 (by decide))
          have HR8 := Lib.hid (HR7.out.kp hk3 HGN.out.1 (by decide))
          have HN9 := Lib.hid (HN7.out.kp HF.out (by decide) (by decide) (by decide) hk3)
          have HK8 := Lib.hid (show KpG w.heap.size gf B w W8 from HK7.out.trans (hk3.mono HZ7.out))
          clear hk3 hW8 HF HO HK
          have e0 := H88.out.cell 0 _ rfl
          have e1 := H88.out.cell 1 _ rfl
          have r0 := HR8.out.cell 0 _ rfl
          have r1 := HR8.out.cell 1 _ rfl
          have f0 := HR8.out.frozen 0
          have f1 := HR8.out.frozen 1
          obtain ⟨W9, hW9⟩ : ∃ W, W = (W8.setCell ⟨gr, 0, none⟩ (.slice Ae ne ce)).setCell ⟨gr, 1, none⟩ (.slice De me ke) := ⟨_, rfl⟩
          have HR9 := Lib.hid (show BoxC W9 gr 31 #[(.slice Ae ne ce), (.slice De me ke)] from by rw [hW9]; exact (HR8.out.set 0 _).set 1 _)
          have HO9 := Lib.hid (show OwnSt W2.heap.size W9 (.slice Ae ne ce) (.slice De me ke) s2 ps2 from by rw [hW9]; exact (HN9.out.box HR8.out (by decide) (by decide) (by decide) 0 _).box (HR8.out.set 0 _) (by decide) (by decide) (by decide) 1 _)
          have HF9 := Lib.hid (show BoxC W9 gf 68 #[.slice P0 P.init.length d0, .slice (some ⟨b2, f2, none⟩) P.ths.length d1, .slice A2 (n + 1 + 1) c2] from by rw [hW9]; exact (HF8.out.other (Ne.symm HGN.out.1) 0 _).other (Ne.symm HGN.out.1) 1 _)
          have HP9 := Lib.hid (show W9.ownsRow base 47 2 (.slice A2 (n + 1 + 1) c2) (n + 1 + 1) ((r ++ wkOf x ((j : Int), false)).flatMap kiC) from by rw [hW9]; exact own_box (own_box HO8.out HR8.out (by decide) 0 _) (HR8.out.set 0 _) (by decide) 1 _)
          have HB9 := Lib.hid (show KpG w.heap.size gf B w W9 from by rw [hW9]; exact (HK8.out.new HG.out 0 _).new HG.out 1 _)
          have HW9 := Lib.hid hW9
          clear hW9
          go_wp2_with fail
          rw [← HW9.out]
          clear r0 r1 f0 f1
          have r0 := HR9.out.cell 0 _ rfl
          have r1 := HR9.out.cell 1 _ rfl
          have hz : Try.prog.cellsOf 31 = 2 := by kernel_rfl
          refine bodyPost_ret (v := .tuple #[.agg #[(.slice Ae ne ce), (.slice De me ke)], .bool true]) (by simp [results, Try.results35, go_sem, r0, r1, hz]) rfl ?_
          exact ⟨_, _, _, _, _, _, by rw [HS2'.out]; rfl, fun s' (h : rst P s (j : Int) false false = some s') => by
            rw [HS2'.out] at h
            injection h with h
            subst h
            exact ⟨⟨ps2, HO9.out.base HS2.out⟩, A2, n + 1 + 1, c2, x, HX.out, HN3.out, HF9.out, HP9.out⟩, HB9.out⟩
    · have hq3 : (x.op == 3) = false := by rw [beq_eq_false_iff_ne]; exact h3
      by_cases h4 : x.op = 4
      · have HW := Lib.hid (show wkOf x ((j : Int), false) = [((j : Int), false), ((j : Int), true)] from by unfold wkOf late; simp [h4])
        have hq4 : (x.op == 4) = true := by rw [beq_iff_eq]; exact h4
        clear h3 h4
        go_upto_region 8 with fail
        have HBS := Lib.hid (show base ≤ W7.heap.size from Nat.le_trans HBS.out HZ7.out)
        refine wp_region_held_drew (S := (fun _ => True)) (by kernel_rfl) trivial (fun hHeld => ?_)
        obtain ⟨Xs, hXs⟩ : ∃ W, W = W7.drew := ⟨_, rfl⟩
        have HXs := Lib.hid (show Below W7.heap.size W7 Xs from by rw [hXs]; exact below_drewN (Below.refl _ _) 1)
        rw [← hXs]
        clear hXs
        have HFs := Lib.hid (HF.out.below HXs.out HF.out.lt)
        have HOs := Lib.hid (own_below HO.out HXs.out)
        have q2s := HFs.out.cell 2 _ rfl
        have HGs := Lib.hid (HK.out.below HXs.out HK.out.lt)
        have k0s := HGs.out.cell 0 _ rfl
        have k1s := HGs.out.cell 1 _ rfl
        refine wpAnyH_take (i := 0) (v := ?_) rfl (by kernel_rfl) (by kernel_rfl) (by kernel_rfl) (fun _ _ _ h => h) (Or.inl ⟨by rfl, ?_⟩) (by assumption) ?_
        rotate_left
        · intro w hSw; (try dsimp only at hSw); go_simp; (try with_reducible rfl)
        (try simp only [Act.put, pt8])
        refine wpAnyH_take (i := 1) (v := ?_) rfl (by kernel_rfl) (by kernel_rfl) (by kernel_rfl) (fun _ _ _ h => h) (Or.inl ⟨by rfl, ?_⟩) (by assumption) ?_
        rotate_left
        · intro w hSw; (try dsimp only at hSw); go_simp; (try with_reducible rfl)
        (try simp only [Act.put, pt8])
        refine wpAnyH_take (i := 2) (v := ?_) rfl (by kernel_rfl) (by kernel_rfl) (by kernel_rfl) (fun _ _ _ h => h) (Or.inl ⟨by rfl, ?_⟩) (by assumption) ?_
        rotate_left
        · intro w hSw; (try dsimp only at hSw); go_simp; (try with_reducible rfl)
        (try simp only [Act.put, pt8])
        refine wpAnyH_take (i := 3) (v := ?_) rfl (by kernel_rfl) (by kernel_rfl) (by kernel_rfl) (fun _ _ _ h => h) (Or.inl ⟨by rfl, ?_⟩) (by assumption) ?_
        rotate_left
        · intro w hSw; (try dsimp only at hSw); go_simp; (try with_reducible rfl)
        (try simp only [Act.put, pt8])
        refine wpAnyH_take (i := 5) (v := ?_) rfl (by kernel_rfl) (by kernel_rfl) (by kernel_rfl) (fun _ _ _ h => h) (Or.inl ⟨by rfl, ?_⟩) (by assumption) ?_
        rotate_left
        · intro w hSw; (try dsimp only at hSw); go_simp; (try with_reducible rfl)
        (try simp only [Act.put, pt8])
        refine wpAnyH_ready (rs := [4, 6]) (by kernel_rfl) (by simp) ?_
        refine AllReadyH.cons rfl (fun K hK => ?_) (AllReadyH.cons rfl (fun K hK => ?_) (AllReadyH.nil))
        · -- 4 first
          go_simp
          refine hK.out _ _ trivial (fun hHeld => ?_)
          clear hK K
          (try simp only [Act.put, pt8])
          refine wpAnyH_ready (rs := [6]) (by kernel_rfl) (by simp) ?_
          refine AllReadyH.cons rfl (fun K hK => ?_) AllReadyH.nil
          go_simp
          refine hK.out _ _ trivial (fun hHeld => ?_)
          clear hK K
          (try simp only [Act.put, pt8])
          refine wpAnyH_take (i := 7) (v := ?_) rfl (by kernel_rfl) (by kernel_rfl) (by kernel_rfl) (fun _ _ _ h => h) (Or.inl ⟨by rfl, ?_⟩) (by assumption) ?_
          rotate_left
          · intro w hSw; (try dsimp only at hSw); go_simp; (try with_reducible rfl)
          (try simp only [Act.put, pt8])
          refine wpAnyH_ready (rs := [8]) (by kernel_rfl) (by simp) ?_
          refine AllReadyH.cons rfl (fun K hK => ?_) AllReadyH.nil
          go_simp
          refine hK.out _ _ trivial (fun hHeld => ?_)
          clear hK K
          (try simp only [Act.put, pt8])
          obtain ⟨Xb, hXb⟩ : ∃ W, W = Xs.alloc (.cells #[.int .i64 (j : Int), .bool true] 47) := ⟨_, rfl⟩
          have HLb := Lib.hid (show BoxC Xb Xs.heap.size 47 #[.int .i64 (j : Int), .bool true] from by rw [hXb]; exact BoxC.new Xs _ _)
          have HAL := Lib.hid (show Below Xs.heap.size Xs Xb from by rw [hXb]; exact below_al (Below.refl _ _) _)
          rw [← hXb]
          clear hXb
          have HFb := Lib.hid (HFs.out.below HAL.out HFs.out.lt)
          have HOb := Lib.hid (own_below HOs.out HAL.out)
          have HKb := Lib.hid (show KpG W7.heap.size gf B W7 Xb from KpG.of ((HXs.out.trans (HAL.out.mono HXs.out.size))))
          have HZb := Lib.hid (show W7.heap.size ≤ Xb.heap.size from Nat.le_trans HXs.out.size HAL.out.size)
          have q2b := HFb.out.cell 2 _ rfl
          have k0b := kc HAL.out k0s
          refine wpAnyH_ready (rs := [9]) (by kernel_rfl) (by simp) ?_
          refine AllReadyH.cons rfl (fun K hK => ?_) AllReadyH.nil
          refine step_append_src (by rfl) _ _ _ (by rfl) base 47 i0 (.agg #[.int .i64 0, .bool false]) 2 16 Try.underlying26 hi hz0 hz1 hz2 (by rfl) (by decide) _ (n + 1) (r.flatMap kiC ++ [.int .i64 (j : Int), .bool false]) (by rfl) HOb.out (some ⟨Xs.heap.size, 0, none⟩) 1 1 [.int .i64 (j : Int), .bool true] (by rfl) (by rfl) (fun c => (by cases c)) (lit_new HLb.out) (by simp [Value.oneCell']) (by unfold maxLen; omega) (by omega) (by have h1 := HBS.out; have h2 := HZb.out; omega) (fun v2 Xa hown hg => ?_)
          obtain ⟨A2, c2, rfl⟩ := own_slice hown
          have HOa := Lib.hid hown
          have HFa := Lib.hid (HFb.out.grown (by decide) HOb.out hg)
          have HKa := Lib.hid (HKb.out.app HZb.out HOb.out hBb hg)
          clear hown hg
          refine hK.out _ _ trivial (fun hHeld => ?_)
          clear hK K
          (try simp only [Act.put, pt8])
          refine wpAnyH_take (i := 10) (v := ?_) rfl (by kernel_rfl) (by kernel_rfl) (by kernel_rfl) (fun _ _ _ h => h) (Or.inl ⟨by rfl, ?_⟩) (by assumption) ?_
          rotate_left
          · intro w hSw; (try dsimp only at hSw); go_simp; (try with_reducible rfl)
          (try simp only [Act.put, pt8])
          refine wpAnyH_take (i := 11) (v := ?_) rfl (by kernel_rfl) (by kernel_rfl) (by kernel_rfl) (fun _ _ _ h => h) (Or.inl ⟨by rfl, ?_⟩) (by assumption) ?_
          rotate_left
          · intro w hSw; (try dsimp only at hSw); go_simp; (try with_reducible rfl)
          (try simp only [Act.put, pt8])
          refine wpAnyH_ready (rs := [12]) (by kernel_rfl) (by simp) ?_
          refine AllReadyH.cons rfl (fun K hK => ?_) AllReadyH.nil
          have q2a := HFa.out.cell 2 _ rfl
          have u2a := HFa.out.frozen 2
          go_simp
          refine hK.out _ _ trivial (fun hHeld => ?_)
          clear q2a u2a
          clear hK K
          (try simp only [Act.put, pt8])
          refine wpAnyH_done (by kernel_rfl) ?_ _
          clear hHeld
          obtain ⟨W8, hW8⟩ : ∃ W, W = Xa.setCell ⟨gf, 2, none⟩ (.slice A2 (n + 1 + 1) c2) := ⟨_, rfl⟩
          rw [← hW8]
          have HN3 := Lib.hid (show n + 1 + 1 = (r ++ wkOf x ((j : Int), false)).length from by rw [HW.out, List.length_append, HN.out]; rfl)
          have HF8 := Lib.hid (show BoxC W8 gf 68 #[.slice P0 P.init.length d0, .slice (some ⟨b2, f2, none⟩) P.ths.length d1, .slice A2 (n + 1 + 1) c2] from by rw [hW8]; exact HFa.out.set 2 _)
          have HO8 := Lib.hid (show W8.ownsRow base 47 2 (.slice A2 (n + 1 + 1) c2) (n + 1 + 1) ((r ++ wkOf x ((j : Int), false)).flatMap kiC) from by rw [hW8, HW.out]; have := own_box HOa.out HFa.out (by decide) 2 (.slice A2 (n + 1 + 1) c2); rw [List.append_assoc] at this; rw [List.flatMap_append]; exact this)
          have hk3 : KpG W7.heap.size gf B W7 W8 := by rw [hW8]; exact HKa.out.trans (KpG.set _ _ _ _ _ _)
          have H88 := Lib.hid (H87.out.kp hk3 HN8.out.1 (by decide))
          have HR8 := Lib.hid (HR7.out.kp hk3 HGN.out.1 (by decide))
          have HN9 := Lib.hid (HN7.out.kp HF.out (by decide) (by decide) (by decide) hk3)
          have HK8 := Lib.hid (show KpG w.heap.size gf B w W8 from HK7.out.trans (hk3.mono HZ7.out))
          clear hk3 hW8 HF HO HK
          have e0 := H88.out.cell 0 _ rfl
          have e1 := H88.out.cell 1 _ rfl
          have r0 := HR8.out.cell 0 _ rfl
          have r1 := HR8.out.cell 1 _ rfl
          have f0 := HR8.out.frozen 0
          have f1 := HR8.out.frozen 1
          obtain ⟨W9, hW9⟩ : ∃ W, W = (W8.setCell ⟨gr, 0, none⟩ (.slice Ae ne ce)).setCell ⟨gr, 1, none⟩ (.slice De me ke) := ⟨_, rfl⟩
          have HR9 := Lib.hid (show BoxC W9 gr 31 #[(.slice Ae ne ce), (.slice De me ke)] from by rw [hW9]; exact (HR8.out.set 0 _).set 1 _)
          have HO9 := Lib.hid (show OwnSt W2.heap.size W9 (.slice Ae ne ce) (.slice De me ke) s2 ps2 from by rw [hW9]; exact (HN9.out.box HR8.out (by decide) (by decide) (by decide) 0 _).box (HR8.out.set 0 _) (by decide) (by decide) (by decide) 1 _)
          have HF9 := Lib.hid (show BoxC W9 gf 68 #[.slice P0 P.init.length d0, .slice (some ⟨b2, f2, none⟩) P.ths.length d1, .slice A2 (n + 1 + 1) c2] from by rw [hW9]; exact (HF8.out.other (Ne.symm HGN.out.1) 0 _).other (Ne.symm HGN.out.1) 1 _)
          have HP9 := Lib.hid (show W9.ownsRow base 47 2 (.slice A2 (n + 1 + 1) c2) (n + 1 + 1) ((r ++ wkOf x ((j : Int), false)).flatMap kiC) from by rw [hW9]; exact own_box (own_box HO8.out HR8.out (by decide) 0 _) (HR8.out.set 0 _) (by decide) 1 _)
          have HB9 := Lib.hid (show KpG w.heap.size gf B w W9 from by rw [hW9]; exact (HK8.out.new HG.out 0 _).new HG.out 1 _)
          have HW9 := Lib.hid hW9
          clear hW9
          go_wp2_with fail
          rw [← HW9.out]
          clear r0 r1 f0 f1
          have r0 := HR9.out.cell 0 _ rfl
          have r1 := HR9.out.cell 1 _ rfl
          have hz : Try.prog.cellsOf 31 = 2 := by kernel_rfl
          refine bodyPost_ret (v := .tuple #[.agg #[(.slice Ae ne ce), (.slice De me ke)], .bool true]) (by simp [results, Try.results35, go_sem, r0, r1, hz]) rfl ?_
          exact ⟨_, _, _, _, _, _, by rw [HS2'.out]; rfl, fun s' (h : rst P s (j : Int) false false = some s') => by
            rw [HS2'.out] at h
            injection h with h
            subst h
            exact ⟨⟨ps2, HO9.out.base HS2.out⟩, A2, n + 1 + 1, c2, x, HX.out, HN3.out, HF9.out, HP9.out⟩, HB9.out⟩
        · -- 6 first
          go_simp
          refine hK.out _ _ trivial (fun hHeld => ?_)
          clear hK K
          (try simp only [Act.put, pt8])
          refine wpAnyH_take (i := 7) (v := ?_) rfl (by kernel_rfl) (by kernel_rfl) (by kernel_rfl) (fun _ _ _ h => h) (Or.inl ⟨by rfl, ?_⟩) (by assumption) ?_
          rotate_left
          · intro w hSw; (try dsimp only at hSw); go_simp; (try with_reducible rfl)
          (try simp only [Act.put, pt8])
          refine wpAnyH_ready (rs := [4, 8]) (by kernel_rfl) (by simp) ?_
          refine AllReadyH.cons rfl (fun K hK => ?_) (AllReadyH.cons rfl (fun K hK => ?_) (AllReadyH.nil))
          · -- 4 first
            go_simp
            refine hK.out _ _ trivial (fun hHeld => ?_)
            clear hK K
            (try simp only [Act.put, pt8])
            refine wpAnyH_ready (rs := [8]) (by kernel_rfl) (by simp) ?_
            refine AllReadyH.cons rfl (fun K hK => ?_) AllReadyH.nil
            go_simp
            refine hK.out _ _ trivial (fun hHeld => ?_)
            clear hK K
            (try simp only [Act.put, pt8])
            obtain ⟨Xb, hXb⟩ : ∃ W, W = Xs.alloc (.cells #[.int .i64 (j : Int), .bool true] 47) := ⟨_, rfl⟩
            have HLb := Lib.hid (show BoxC Xb Xs.heap.size 47 #[.int .i64 (j : Int), .bool true] from by rw [hXb]; exact BoxC.new Xs _ _)
            have HAL := Lib.hid (show Below Xs.heap.size Xs Xb from by rw [hXb]; exact below_al (Below.refl _ _) _)
            rw [← hXb]
            clear hXb
            have HFb := Lib.hid (HFs.out.below HAL.out HFs.out.lt)
            have HOb := Lib.hid (own_below HOs.out HAL.out)
            have HKb := Lib.hid (show KpG W7.heap.size gf B W7 Xb from KpG.of ((HXs.out.trans (HAL.out.mono HXs.out.size))))
            have HZb := Lib.hid (show W7.heap.size ≤ Xb.heap.size from Nat.le_trans HXs.out.size HAL.out.size)
            have q2b := HFb.out.cell 2 _ rfl
            have k0b := kc HAL.out k0s
            refine wpAnyH_ready (rs := [9]) (by kernel_rfl) (by simp) ?_
            refine AllReadyH.cons rfl (fun K hK => ?_) AllReadyH.nil
            refine step_append_src (by rfl) _ _ _ (by rfl) base 47 i0 (.agg #[.int .i64 0, .bool false]) 2 16 Try.underlying26 hi hz0 hz1 hz2 (by rfl) (by decide) _ (n + 1) (r.flatMap kiC ++ [.int .i64 (j : Int), .bool false]) (by rfl) HOb.out (some ⟨Xs.heap.size, 0, none⟩) 1 1 [.int .i64 (j : Int), .bool true] (by rfl) (by rfl) (fun c => (by cases c)) (lit_new HLb.out) (by simp [Value.oneCell']) (by unfold maxLen; omega) (by omega) (by have h1 := HBS.out; have h2 := HZb.out; omega) (fun v2 Xa hown hg => ?_)
            obtain ⟨A2, c2, rfl⟩ := own_slice hown
            have HOa := Lib.hid hown
            have HFa := Lib.hid (HFb.out.grown (by decide) HOb.out hg)
            have HKa := Lib.hid (HKb.out.app HZb.out HOb.out hBb hg)
            clear hown hg
            refine hK.out _ _ trivial (fun hHeld => ?_)
            clear hK K
            (try simp only [Act.put, pt8])
            refine wpAnyH_take (i := 10) (v := ?_) rfl (by kernel_rfl) (by kernel_rfl) (by kernel_rfl) (fun _ _ _ h => h) (Or.inl ⟨by rfl, ?_⟩) (by assumption) ?_
            rotate_left
            · intro w hSw; (try dsimp only at hSw); go_simp; (try with_reducible rfl)
            (try simp only [Act.put, pt8])
            refine wpAnyH_take (i := 11) (v := ?_) rfl (by kernel_rfl) (by kernel_rfl) (by kernel_rfl) (fun _ _ _ h => h) (Or.inl ⟨by rfl, ?_⟩) (by assumption) ?_
            rotate_left
            · intro w hSw; (try dsimp only at hSw); go_simp; (try with_reducible rfl)
            (try simp only [Act.put, pt8])
            refine wpAnyH_ready (rs := [12]) (by kernel_rfl) (by simp) ?_
            refine AllReadyH.cons rfl (fun K hK => ?_) AllReadyH.nil
            have q2a := HFa.out.cell 2 _ rfl
            have u2a := HFa.out.frozen 2
            go_simp
            refine hK.out _ _ trivial (fun hHeld => ?_)
            clear q2a u2a
            clear hK K
            (try simp only [Act.put, pt8])
            refine wpAnyH_done (by kernel_rfl) ?_ _
            clear hHeld
            obtain ⟨W8, hW8⟩ : ∃ W, W = Xa.setCell ⟨gf, 2, none⟩ (.slice A2 (n + 1 + 1) c2) := ⟨_, rfl⟩
            rw [← hW8]
            have HN3 := Lib.hid (show n + 1 + 1 = (r ++ wkOf x ((j : Int), false)).length from by rw [HW.out, List.length_append, HN.out]; rfl)
            have HF8 := Lib.hid (show BoxC W8 gf 68 #[.slice P0 P.init.length d0, .slice (some ⟨b2, f2, none⟩) P.ths.length d1, .slice A2 (n + 1 + 1) c2] from by rw [hW8]; exact HFa.out.set 2 _)
            have HO8 := Lib.hid (show W8.ownsRow base 47 2 (.slice A2 (n + 1 + 1) c2) (n + 1 + 1) ((r ++ wkOf x ((j : Int), false)).flatMap kiC) from by rw [hW8, HW.out]; have := own_box HOa.out HFa.out (by decide) 2 (.slice A2 (n + 1 + 1) c2); rw [List.append_assoc] at this; rw [List.flatMap_append]; exact this)
            have hk3 : KpG W7.heap.size gf B W7 W8 := by rw [hW8]; exact HKa.out.trans (KpG.set _ _ _ _ _ _)
            have H88 := Lib.hid (H87.out.kp hk3 HN8.out.1 (by decide))
            have HR8 := Lib.hid (HR7.out.kp hk3 HGN.out.1 (by decide))
            have HN9 := Lib.hid (HN7.out.kp HF.out (by decide) (by decide) (by decide) hk3)
            have HK8 := Lib.hid (show KpG w.heap.size gf B w W8 from HK7.out.trans (hk3.mono HZ7.out))
            clear hk3 hW8 HF HO HK
            have e0 := H88.out.cell 0 _ rfl
            have e1 := H88.out.cell 1 _ rfl
            have r0 := HR8.out.cell 0 _ rfl
            have r1 := HR8.out.cell 1 _ rfl
            have f0 := HR8.out.frozen 0
            have f1 := HR8.out.frozen 1
            obtain ⟨W9, hW9⟩ : ∃ W, W = (W8.setCell ⟨gr, 0, none⟩ (.slice Ae ne ce)).setCell ⟨gr, 1, none⟩ (.slice De me ke) := ⟨_, rfl⟩
            have HR9 := Lib.hid (show BoxC W9 gr 31 #[(.slice Ae ne ce), (.slice De me ke)] from by rw [hW9]; exact (HR8.out.set 0 _).set 1 _)
            have HO9 := Lib.hid (show OwnSt W2.heap.size W9 (.slice Ae ne ce) (.slice De me ke) s2 ps2 from by rw [hW9]; exact (HN9.out.box HR8.out (by decide) (by decide) (by decide) 0 _).box (HR8.out.set 0 _) (by decide) (by decide) (by decide) 1 _)
            have HF9 := Lib.hid (show BoxC W9 gf 68 #[.slice P0 P.init.length d0, .slice (some ⟨b2, f2, none⟩) P.ths.length d1, .slice A2 (n + 1 + 1) c2] from by rw [hW9]; exact (HF8.out.other (Ne.symm HGN.out.1) 0 _).other (Ne.symm HGN.out.1) 1 _)
            have HP9 := Lib.hid (show W9.ownsRow base 47 2 (.slice A2 (n + 1 + 1) c2) (n + 1 + 1) ((r ++ wkOf x ((j : Int), false)).flatMap kiC) from by rw [hW9]; exact own_box (own_box HO8.out HR8.out (by decide) 0 _) (HR8.out.set 0 _) (by decide) 1 _)
            have HB9 := Lib.hid (show KpG w.heap.size gf B w W9 from by rw [hW9]; exact (HK8.out.new HG.out 0 _).new HG.out 1 _)
            have HW9 := Lib.hid hW9
            clear hW9
            go_wp2_with fail
            rw [← HW9.out]
            clear r0 r1 f0 f1
            have r0 := HR9.out.cell 0 _ rfl
            have r1 := HR9.out.cell 1 _ rfl
            have hz : Try.prog.cellsOf 31 = 2 := by kernel_rfl
            refine bodyPost_ret (v := .tuple #[.agg #[(.slice Ae ne ce), (.slice De me ke)], .bool true]) (by simp [results, Try.results35, go_sem, r0, r1, hz]) rfl ?_
            exact ⟨_, _, _, _, _, _, by rw [HS2'.out]; rfl, fun s' (h : rst P s (j : Int) false false = some s') => by
              rw [HS2'.out] at h
              injection h with h
              subst h
              exact ⟨⟨ps2, HO9.out.base HS2.out⟩, A2, n + 1 + 1, c2, x, HX.out, HN3.out, HF9.out, HP9.out⟩, HB9.out⟩
          · -- 8 first
            go_simp
            refine hK.out _ _ trivial (fun hHeld => ?_)
            clear hK K
            (try simp only [Act.put, pt8])
            obtain ⟨Xb, hXb⟩ : ∃ W, W = Xs.alloc (.cells #[.int .i64 (j : Int), .bool true] 47) := ⟨_, rfl⟩
            have HLb := Lib.hid (show BoxC Xb Xs.heap.size 47 #[.int .i64 (j : Int), .bool true] from by rw [hXb]; exact BoxC.new Xs _ _)
            have HAL := Lib.hid (show Below Xs.heap.size Xs Xb from by rw [hXb]; exact below_al (Below.refl _ _) _)
            rw [← hXb]
            clear hXb
            have HFb := Lib.hid (HFs.out.below HAL.out HFs.out.lt)
            have HOb := Lib.hid (own_below HOs.out HAL.out)
            have HKb := Lib.hid (show KpG W7.heap.size gf B W7 Xb from KpG.of ((HXs.out.trans (HAL.out.mono HXs.out.size))))
            have HZb := Lib.hid (show W7.heap.size ≤ Xb.heap.size from Nat.le_trans HXs.out.size HAL.out.size)
            have q2b := HFb.out.cell 2 _ rfl
            have k0b := kc HAL.out k0s
            refine wpAnyH_ready (rs := [4]) (by kernel_rfl) (by simp) ?_
            refine AllReadyH.cons rfl (fun K hK => ?_) AllReadyH.nil
            go_simp
            refine hK.out _ _ trivial (fun hHeld => ?_)
            clear hK K
            (try simp only [Act.put, pt8])
            refine wpAnyH_ready (rs := [9]) (by kernel_rfl) (by simp) ?_
            refine AllReadyH.cons rfl (fun K hK => ?_) AllReadyH.nil
            refine step_append_src (by rfl) _ _ _ (by rfl) base 47 i0 (.agg #[.int .i64 0, .bool false]) 2 16 Try.underlying26 hi hz0 hz1 hz2 (by rfl) (by decide) _ (n + 1) (r.flatMap kiC ++ [.int .i64 (j : Int), .bool false]) (by rfl) HOb.out (some ⟨Xs.heap.size, 0, none⟩) 1 1 [.int .i64 (j : Int), .bool true] (by rfl) (by rfl) (fun c => (by cases c)) (lit_new HLb.out) (by simp [Value.oneCell']) (by unfold maxLen; omega) (by omega) (by have h1 := HBS.out; have h2 := HZb.out; omega) (fun v2 Xa hown hg => ?_)
            obtain ⟨A2, c2, rfl⟩ := own_slice hown
            have HOa := Lib.hid hown
            have HFa := Lib.hid (HFb.out.grown (by decide) HOb.out hg)
            have HKa := Lib.hid (HKb.out.app HZb.out HOb.out hBb hg)
            clear hown hg
            refine hK.out _ _ trivial (fun hHeld => ?_)
            clear hK K
            (try simp only [Act.put, pt8])
            refine wpAnyH_take (i := 10) (v := ?_) rfl (by kernel_rfl) (by kernel_rfl) (by kernel_rfl) (fun _ _ _ h => h) (Or.inl ⟨by rfl, ?_⟩) (by assumption) ?_
            rotate_left
            · intro w hSw; (try dsimp only at hSw); go_simp; (try with_reducible rfl)
            (try simp only [Act.put, pt8])
            refine wpAnyH_take (i := 11) (v := ?_) rfl (by kernel_rfl) (by kernel_rfl) (by kernel_rfl) (fun _ _ _ h => h) (Or.inl ⟨by rfl, ?_⟩) (by assumption) ?_
            rotate_left
            · intro w hSw; (try dsimp only at hSw); go_simp; (try with_reducible rfl)
            (try simp only [Act.put, pt8])
            refine wpAnyH_ready (rs := [12]) (by kernel_rfl) (by simp) ?_
            refine AllReadyH.cons rfl (fun K hK => ?_) AllReadyH.nil
            have q2a := HFa.out.cell 2 _ rfl
            have u2a := HFa.out.frozen 2
            go_simp
            refine hK.out _ _ trivial (fun hHeld => ?_)
            clear q2a u2a
            clear hK K
            (try simp only [Act.put, pt8])
            refine wpAnyH_done (by kernel_rfl) ?_ _
            clear hHeld
            obtain ⟨W8, hW8⟩ : ∃ W, W = Xa.setCell ⟨gf, 2, none⟩ (.slice A2 (n + 1 + 1) c2) := ⟨_, rfl⟩
            rw [← hW8]
            have HN3 := Lib.hid (show n + 1 + 1 = (r ++ wkOf x ((j : Int), false)).length from by rw [HW.out, List.length_append, HN.out]; rfl)
            have HF8 := Lib.hid (show BoxC W8 gf 68 #[.slice P0 P.init.length d0, .slice (some ⟨b2, f2, none⟩) P.ths.length d1, .slice A2 (n + 1 + 1) c2] from by rw [hW8]; exact HFa.out.set 2 _)
            have HO8 := Lib.hid (show W8.ownsRow base 47 2 (.slice A2 (n + 1 + 1) c2) (n + 1 + 1) ((r ++ wkOf x ((j : Int), false)).flatMap kiC) from by rw [hW8, HW.out]; have := own_box HOa.out HFa.out (by decide) 2 (.slice A2 (n + 1 + 1) c2); rw [List.append_assoc] at this; rw [List.flatMap_append]; exact this)
            have hk3 : KpG W7.heap.size gf B W7 W8 := by rw [hW8]; exact HKa.out.trans (KpG.set _ _ _ _ _ _)
            have H88 := Lib.hid (H87.out.kp hk3 HN8.out.1 (by decide))
            have HR8 := Lib.hid (HR7.out.kp hk3 HGN.out.1 (by decide))
            have HN9 := Lib.hid (HN7.out.kp HF.out (by decide) (by decide) (by decide) hk3)
            have HK8 := Lib.hid (show KpG w.heap.size gf B w W8 from HK7.out.trans (hk3.mono HZ7.out))
            clear hk3 hW8 HF HO HK
            have e0 := H88.out.cell 0 _ rfl
            have e1 := H88.out.cell 1 _ rfl
            have r0 := HR8.out.cell 0 _ rfl
            have r1 := HR8.out.cell 1 _ rfl
            have f0 := HR8.out.frozen 0
            have f1 := HR8.out.frozen 1
            obtain ⟨W9, hW9⟩ : ∃ W, W = (W8.setCell ⟨gr, 0, none⟩ (.slice Ae ne ce)).setCell ⟨gr, 1, none⟩ (.slice De me ke) := ⟨_, rfl⟩
            have HR9 := Lib.hid (show BoxC W9 gr 31 #[(.slice Ae ne ce), (.slice De me ke)] from by rw [hW9]; exact (HR8.out.set 0 _).set 1 _)
            have HO9 := Lib.hid (show OwnSt W2.heap.size W9 (.slice Ae ne ce) (.slice De me ke) s2 ps2 from by rw [hW9]; exact (HN9.out.box HR8.out (by decide) (by decide) (by decide) 0 _).box (HR8.out.set 0 _) (by decide) (by decide) (by decide) 1 _)
            have HF9 := Lib.hid (show BoxC W9 gf 68 #[.slice P0 P.init.length d0, .slice (some ⟨b2, f2, none⟩) P.ths.length d1, .slice A2 (n + 1 + 1) c2] from by rw [hW9]; exact (HF8.out.other (Ne.symm HGN.out.1) 0 _).other (Ne.symm HGN.out.1) 1 _)
            have HP9 := Lib.hid (show W9.ownsRow base 47 2 (.slice A2 (n + 1 + 1) c2) (n + 1 + 1) ((r ++ wkOf x ((j : Int), false)).flatMap kiC) from by rw [hW9]; exact own_box (own_box HO8.out HR8.out (by decide) 0 _) (HR8.out.set 0 _) (by decide) 1 _)
            have HB9 := Lib.hid (show KpG w.heap.size gf B w W9 from by rw [hW9]; exact (HK8.out.new HG.out 0 _).new HG.out 1 _)
            have HW9 := Lib.hid hW9
            clear hW9
            go_wp2_with fail
            rw [← HW9.out]
            clear r0 r1 f0 f1
            have r0 := HR9.out.cell 0 _ rfl
            have r1 := HR9.out.cell 1 _ rfl
            have hz : Try.prog.cellsOf 31 = 2 := by kernel_rfl
            refine bodyPost_ret (v := .tuple #[.agg #[(.slice Ae ne ce), (.slice De me ke)], .bool true]) (by simp [results, Try.results35, go_sem, r0, r1, hz]) rfl ?_
            exact ⟨_, _, _, _, _, _, by rw [HS2'.out]; rfl, fun s' (h : rst P s (j : Int) false false = some s') => by
              rw [HS2'.out] at h
              injection h with h
              subst h
              exact ⟨⟨ps2, HO9.out.base HS2.out⟩, A2, n + 1 + 1, c2, x, HX.out, HN3.out, HF9.out, HP9.out⟩, HB9.out⟩
      · have HW := Lib.hid (show wkOf x ((j : Int), false) = [((j : Int), false)] from by unfold wkOf late; simp [h3, h4])
        have hq4 : (x.op == 4) = false := by rw [beq_eq_false_iff_ne]; exact h4
        clear h3 h4
        obtain ⟨W8, hW8⟩ : ∃ W, W = W7 := ⟨_, rfl⟩
        have HN3 := Lib.hid (show n + 1 = (r ++ wkOf x ((j : Int), false)).length from by rw [HW.out]; exact HNN.out)
        have HF8 := Lib.hid (show BoxC W8 gf 68 #[.slice P0 P.init.length d0, .slice (some ⟨b2, f2, none⟩) P.ths.length d1, .slice A2 (n + 1) c2] from by rw [hW8]; exact HF.out)
        have HO8 := Lib.hid (show W8.ownsRow base 47 2 (.slice A2 (n + 1) c2) (n + 1) ((r ++ wkOf x ((j : Int), false)).flatMap kiC) from by rw [hW8, HW.out, ← HRR.out]; exact HO.out)
        have hk3 : KpG W7.heap.size gf B W7 W8 := by rw [hW8]; exact KpG.refl _ _ _ _
        have H88 := Lib.hid (H87.out.kp hk3 HN8.out.1 (by decide))
        have HR8 := Lib.hid (HR7.out.kp hk3 HGN.out.1 (by decide))
        have HN9 := Lib.hid (HN7.out.kp HF.out (by decide) (by decide) (by decide) hk3)
        have HK8 := Lib.hid (show KpG w.heap.size gf B w W8 from HK7.out.trans (hk3.mono HZ7.out))
        clear hk3 HF HO HK
        rw [← hW8]
        clear hW8
        have e0 := H88.out.cell 0 _ rfl
        have e1 := H88.out.cell 1 _ rfl
        have r0 := HR8.out.cell 0 _ rfl
        have r1 := HR8.out.cell 1 _ rfl
        have f0 := HR8.out.frozen 0
        have f1 := HR8.out.frozen 1
        obtain ⟨W9, hW9⟩ : ∃ W, W = (W8.setCell ⟨gr, 0, none⟩ (.slice Ae ne ce)).setCell ⟨gr, 1, none⟩ (.slice De me ke) := ⟨_, rfl⟩
        have HR9 := Lib.hid (show BoxC W9 gr 31 #[(.slice Ae ne ce), (.slice De me ke)] from by rw [hW9]; exact (HR8.out.set 0 _).set 1 _)
        have HO9 := Lib.hid (show OwnSt W2.heap.size W9 (.slice Ae ne ce) (.slice De me ke) s2 ps2 from by rw [hW9]; exact (HN9.out.box HR8.out (by decide) (by decide) (by decide) 0 _).box (HR8.out.set 0 _) (by decide) (by decide) (by decide) 1 _)
        have HF9 := Lib.hid (show BoxC W9 gf 68 #[.slice P0 P.init.length d0, .slice (some ⟨b2, f2, none⟩) P.ths.length d1, .slice A2 (n + 1) c2] from by rw [hW9]; exact (HF8.out.other (Ne.symm HGN.out.1) 0 _).other (Ne.symm HGN.out.1) 1 _)
        have HP9 := Lib.hid (show W9.ownsRow base 47 2 (.slice A2 (n + 1) c2) (n + 1) ((r ++ wkOf x ((j : Int), false)).flatMap kiC) from by rw [hW9]; exact own_box (own_box HO8.out HR8.out (by decide) 0 _) (HR8.out.set 0 _) (by decide) 1 _)
        have HB9 := Lib.hid (show KpG w.heap.size gf B w W9 from by rw [hW9]; exact (HK8.out.new HG.out 0 _).new HG.out 1 _)
        have HW9 := Lib.hid hW9
        clear hW9
        go_wp2_with fail
        rw [← HW9.out]
        clear r0 r1 f0 f1
        have r0 := HR9.out.cell 0 _ rfl
        have r1 := HR9.out.cell 1 _ rfl
        have hz : Try.prog.cellsOf 31 = 2 := by kernel_rfl
        refine bodyPost_ret (v := .tuple #[.agg #[(.slice Ae ne ce), (.slice De me ke)], .bool true]) (by simp [results, Try.results35, go_sem, r0, r1, hz]) rfl ?_
        exact ⟨_, _, _, _, _, _, by rw [HS2'.out]; rfl, fun s' (h : rst P s (j : Int) false false = some s') => by
          rw [HS2'.out] at h
          injection h with h
          subst h
          exact ⟨⟨ps2, HO9.out.base HS2.out⟩, A2, n + 1, c2, x, HX.out, HN3.out, HF9.out, HP9.out⟩, HB9.out⟩
end Go.Proofs.Ytbgjamoflbdhoaa
