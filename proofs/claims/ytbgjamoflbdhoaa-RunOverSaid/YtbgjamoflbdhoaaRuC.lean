/-
  LAYER 13: run.begin; the closure that it hands back, over whatever step; Run.
-/
import Derived.Test.YtbgjamoflbdhoaaK22
import Derived.Deep.RegionHeld3
import Derived.Deep.DeepCutAuto
namespace Go.Proofs.Ytbgjamoflbdhoaa
open Go.RowKit
set_option linter.unusedVariables false
set_option linter.unusedSimpArgs false
open CodM (St Pg rightP)
open BfM (Wr plc)
open ScM

/-- All blocks below n but g and h stay, and but those of picks from B on. -/
def Kp2 (n g h B : Nat) (W W' : World) : Prop := W'.os = W.os ∧ W'.tape = W.tape ∧ W'.output = W.output ∧ W.heap.size ≤ W'.heap.size ∧ ∀ k, k < n → k ≠ g → k ≠ h → (B ≤ k → ∀ cs ro, W.heap[k]? ≠ some (.cells cs 47 ro)) → W'.heap[k]? = W.heap[k]?
theorem Kp2.size {n g h B : Nat} {W W' : World} (k : Kp2 n g h B W W') : W.heap.size ≤ W'.heap.size := k.2.2.2.1
theorem Kp2.refl (n g h B : Nat) (W : World) : Kp2 n g h B W W := ⟨rfl, rfl, rfl, Nat.le_refl _, fun _ _ _ _ _ => rfl⟩
theorem Kp2.trans {n g h B : Nat} {a b c : World} (x : Kp2 n g h B a b) (k : Kp2 n g h B b c) : Kp2 n g h B a c :=
  ⟨k.1.trans x.1, k.2.1.trans x.2.1, k.2.2.1.trans x.2.2.1, Nat.le_trans x.2.2.2.1 k.2.2.2.1, fun i h1 h2 h3 h4 => by
    have e := x.2.2.2.2 i h1 h2 h3 h4
    exact (k.2.2.2.2 i h1 h2 h3 (fun hb cs ro => by rw [e]; exact h4 hb cs ro)).trans e⟩
theorem Kp2.kp {n g h B : Nat} {a b c : World} (x : Kp2 n g h B a b) (hn : n ≤ b.heap.size) (k : KpG b.heap.size g B b c) : Kp2 n g h B a c :=
  x.trans ⟨k.1, k.2.1, k.2.2.1, k.2.2.2.1, fun i h1 h2 _ h4 => k.2.2.2.2 i (by omega) h2 h4⟩
theorem Kp2.bl {n g h B : Nat} {a b c : World} (x : Kp2 n g h B a b) (hn : n ≤ b.heap.size) (k : Below b.heap.size b c) : Kp2 n g h B a c := x.kp hn (KpG.of k)
theorem Kp2.set {n g h B : Nat} {a b : World} (x : Kp2 n g h B a b) (i : Nat) (v : Value) : Kp2 n g h B a (b.setCell ⟨h, i, none⟩ v) :=
  x.trans ⟨rfl, rfl, rfl, by simp, fun k _ _ h2 _ => heap_setCell_other b ⟨h, i, none⟩ k v h2⟩
theorem Kp2.new {n g h B c : Nat} {a b : World} (x : Kp2 n g h B a b) (hn : n ≤ c) (i : Nat) (v : Value) : Kp2 n g h B a (b.setCell ⟨c, i, none⟩ v) :=
  x.trans ⟨rfl, rfl, rfl, by simp, fun k h1 _ _ _ => heap_setCell_other b ⟨c, i, none⟩ k v (by show k ≠ c; omega)⟩
theorem Kp2.below {n g h C B : Nat} {a b : World} (k : Kp2 n g h C a b) (h1 : B ≤ g) (h2 : B ≤ h) (hn : B ≤ n) (hC : B ≤ C) : Below B a b := ⟨k.1, k.2.1, k.2.2.1, k.2.2.2.1, fun i hi => k.2.2.2.2 i (by omega) (by omega) (by omega) (fun hb => absurd hb (by omega))⟩
theorem BoxC.kp2 {n g h B b : Nat} {W W' : World} {T : TypeId} {cs : Array Value} (x : BoxC W b T cs) (hk : Kp2 n g h B W W') (hn : b < n) (h1 : b ≠ g) (h2 : b ≠ h) (hP : T ≠ 47) : BoxC W' b T cs := (hk.2.2.2.2 b hn h1 h2 (fun _ cs2 ro e => by
    rw [show W.heap[b]? = _ from x] at e; injection e with e; injection e with _ e
    exact hP e)).trans x
/-- What a step of a run hands back, that changes block g, and picks from B on, too. -/
def RsK (P : Pg) (s : Sta) (t : Int) (d wk : Bool) (g B : Nat) (J : World → Prop) (w : World) (e : Ending) (w' : World) : Prop :=
  ∃ A n c D m k, e = .returned (.tuple #[.agg #[.slice A n c, .slice D m k], .bool (rst P s t d wk).isSome]) ∧ (∀ s', rst P s t d wk = some s' → J w' ∧ ∃ ps, OwnSt w.heap.size w' (.slice A n c) (.slice D m k) s' ps) ∧ KpG w.heap.size g B w w'
theorem RsRet.k {P : Pg} {s : Sta} {t : Int} {d wk : Bool} {w : World} {e : Ending} {w' : World} (h : RsRet P s t d wk w e w') {g B : Nat} {J : World → Prop} (hJ : J w) (hj : Below w.heap.size w w' → J w') : RsK P s t d wk g B J w e w' := by
  obtain ⟨A, n, c, D, m, k, rfl, ho, hb⟩ := h
  exact ⟨A, n, c, D, m, k, rfl, fun s' h => ⟨hj hb, ho s' h⟩, KpG.of hb⟩
structure JOk (J : Nat → World → Prop) (gf base : Nat) (TF : TypeId) : Prop where
  box : ∀ k W, J k W → ∃ cs, BoxC W gf TF cs
  bl : ∀ k W W', J k W → Below W.heap.size W W' → J k W'
  set : ∀ k W g cs i v, J k W → BoxC W g 31 cs → J k (W.setCell ⟨g, i, none⟩ v)
  nT : (55 : TypeId) ≠ TF
  nI : (3 : TypeId) ≠ TF
  nW : (78 : TypeId) ≠ TF
/-- What the closure hands back. -/
def BeRet (P : Pg) (wk : Bool) (l : List (Int × Bool)) (base gf gs B : Nat) (J : Nat → World → Prop) (w : World) (e : Ending) (w' : World) : Prop :=
  ∃ A n c D m k ps, e = .returned (.tuple #[.agg #[.slice A n c, .slice D m k], .int .i64 ((runS P wk (beg P) l).2.1 : Nat), .bool (runS P wk (beg P) l).2.2]) ∧ OwnSt base w' (.slice A n c) (.slice D m k) (runS P wk (beg P) l).1 ps ∧ ((runS P wk (beg P) l).2.2 = true → J l.length w') ∧ Kp2 w.heap.size gf gs B w w'
set_option maxHeartbeats 8000000 in
set_option maxRecDepth 100000 in
theorem begin1_any {B base : Nat} {P : Pg} {l : List (Int × Bool)} {wk : Bool} {vl bv va vb : Value} {F : Nat} {gq gs gf : Nat} {TF : TypeId} {ps : List TV} {J : Nat → World → Prop} (w : World)
    (hl : KiR B w vl l) (hBf : B ≤ gf) (hBs : B ≤ gs) (hBB : B ≤ w.heap.size) (hbw : base ≤ w.heap.size)
    (hq : BoxC w gq 63 #[.func (.func F) #[bv] #[]]) (hs : BoxC w gs 31 #[va, vb]) (ho : OwnSt base w va vb (beg P) ps)
    (hF : ∀ args W, (callFunc F args).run Try.prog W = .ok (.enter F args) W) (hJ : J 0 w) (hJo : JOk J gf base TF) (n1 : gq ≠ gf) (n2 : gs ≠ gf) (n3 : gq ≠ gs)
    (hstep : ∀ k (hk : k < l.length) s W vm vt ps, runS P wk (beg P) (l.take k) = (s, k, true) → J k W → OwnSt base W vm vt s ps → Below B w W → Calls Try.prog F #[bv, .agg #[vm, vt], .agg #[.int .i64 l[k].1, .bool l[k].2]] W (RsK P s l[k].1 l[k].2 wk gf B (J (k + 1)) W)) :
    Calls Try.prog 48 #[vl, .pointer (some ⟨gq, 0, none⟩), .pointer (some ⟨gs, 0, none⟩)] w (BeRet P wk l base gf gs B J w) := by
  have HST := Lib.hid hstep
  have HJO := Lib.hid hJo
  have HJ0 := Lib.hid hJ
  obtain ⟨Al, cl, rfl, hl1, hl2, -, hl3⟩ := hl
  have HL3 := Lib.hid (ki_at (c := cl) hl3)
  unfold maxLen at hl2
  obtain ⟨A0, c0, rfl⟩ := own_slice ho.mem
  obtain ⟨B0, e0, rfl⟩ := own_slice ho.ths
  clear hl3 hstep hJo hJ
  obtain ⟨W1, hW1⟩ : ∃ W, W = w.alloc (.cells #[.slice none 0 0, .slice none 0 0] 31) := ⟨_, rfl⟩
  obtain ⟨gr, hgr⟩ : ∃ g, g = w.heap.size := ⟨_, rfl⟩
  have HGR := Lib.hid (show w.heap.size ≤ gr ∧ gs ≠ gr ∧ gr ≠ gf from by have h1 := hs.lt; obtain ⟨cs, h2⟩ := HJO.out.box _ _ HJ0.out; have h2 := h2.lt; omega)
  have HR1 := Lib.hid (show BoxC W1 gr 31 #[.slice none 0 0, .slice none 0 0] from by rw [hW1, hgr]; exact BoxC.new w _ _)
  have HBA := Lib.hid (show Below w.heap.size w W1 from by rw [hW1]; exact below_al (Below.refl _ _) _)
  have HQ1 := Lib.hid (hq.below HBA.out hq.lt)
  have HS1 := Lib.hid (hs.below HBA.out hs.lt)
  have HO1 := Lib.hid (ho.below HBA.out)
  have HJ1 := Lib.hid (HJO.out.bl _ _ _ HJ0.out HBA.out)
  have HK1 := Lib.hid ((Kp2.refl w.heap.size gf gs B w).bl (Nat.le_refl _) HBA.out)
  clear hq hs ho HJ0
  go_enter Try.func48, Try.ntmps48
  go_upto_region 1 with fail
  rw [← hW1]
  (try rw [← hgr])
  clear hW1 hgr
  go_wp2
  go_loopw [13] (fun i wr => ∃ (k : Nat) (s : Sta) (A4 : Option Addr) (n4 c4 : Nat) (B4 : Option Addr) (m4 k4 : Nat) (ps : List TV), i = .int .i64 k ∧ k ≤ l.length ∧ runS P wk (beg P) (l.take k) = (s, k, true) ∧ BoxC wr gq 63 #[.func (.func F) #[bv] #[]] ∧ BoxC wr gs 31 #[.slice A4 n4 c4, .slice B4 m4 k4] ∧ BoxC wr gr 31 #[.slice none 0 0, .slice none 0 0] ∧ OwnSt base wr (.slice A4 n4 c4) (.slice B4 m4 k4) s ps ∧ J k wr ∧ Kp2 w.heap.size gf gs B w wr) (fun i _ => l.length - (intOf i).toNat)
  case atStart => exact ⟨0, beg P, _, _, _, _, _, _, _, rfl, Nat.zero_le _, by rw [List.take_zero]; rfl, HQ1.out, HS1.out, HR1.out, HO1.out, HJ1.out, HK1.out⟩
  case round =>
    clear HQ1 HS1 HR1 HO1 HJ1 HK1 HBA
    obtain ⟨k, s, A4, n4, c4, B4, m4, k4, ps, rfl, hk, hrun, hq, hs, hr, ho, hj, hkp⟩ := hrel
    have HRUN := Lib.hid hrun
    have HQ := Lib.hid hq
    have HSS := Lib.hid hs
    have HR := Lib.hid hr
    have HO := Lib.hid ho
    have HJ := Lib.hid hj
    have HK := Lib.hid hkp
    have HKS := Lib.hid hkp.size
    clear hrun hq hs hr ho hj hkp
    by_cases hlt : k < l.length
    · obtain ⟨b1, f1, rfl, hb1, hc1⟩ := HL3.out (by omega)
      obtain ⟨p0, p1⟩ := hc1 k hlt
      have HBW := Lib.hid (HK.out.below hBf hBs hBB (Nat.le_refl _))
      replace p0 := (HBW.out.cell (p := ⟨b1, f1 + k * 2, none⟩) hb1).trans p0
      replace p1 := (HBW.out.cell (p := ⟨b1, f1 + k * 2 + 1, none⟩) hb1).trans p1
      obtain ⟨X1, hX1⟩ : ∃ W, W = wr.alloc (.cells #[.int .i64 l[k].1, .bool l[k].2] 47) := ⟨_, rfl⟩
      obtain ⟨g8, hg8⟩ : ∃ g, g = wr.heap.size := ⟨_, rfl⟩
      have HG8 := Lib.hid (show g8 = wr.heap.size from hg8)
      have H8 := Lib.hid (show BoxC X1 g8 47 #[.int .i64 l[k].1, .bool l[k].2] from by rw [hX1, hg8]; exact BoxC.new wr _ _)
      have HX1 := Lib.hid (show Below wr.heap.size wr X1 from by rw [hX1]; exact below_al (Below.refl _ _) _)
      have HRN := Lib.hid (fun s' (h : rst P s l[k].1 l[k].2 wk = some s') => runS_next hlt HRUN.out h)
      have HRH := Lib.hid (fun (h : rst P s l[k].1 l[k].2 wk = none) => runS_halt hlt HRUN.out h)
      replace HQ := Lib.hid (HQ.out.below HX1.out HQ.out.lt)
      replace HSS := Lib.hid (HSS.out.below HX1.out HSS.out.lt)
      replace HR := Lib.hid (HR.out.below HX1.out HR.out.lt)
      replace HO := Lib.hid (HO.out.below HX1.out)
      replace HJ := Lib.hid (HJO.out.bl _ _ _ HJ.out HX1.out)
      replace HK := Lib.hid (HK.out.bl HKS.out HX1.out)
      replace HKS := Lib.hid HK.out.size
      replace HBW := Lib.hid (HK.out.below hBf hBs hBB (Nat.le_refl _))
      have HCL := Lib.hid (HST.out k hlt s X1 _ _ _ HRUN.out HJ.out HO.out HBW.out)
      generalize l[k] = kk at *
      obtain ⟨kt, kd⟩ := kk
      dsimp only at p0 p1 hX1
      go_upto_region 4 with fail
      rw [← hX1]
      (try rw [← hg8])
      clear hX1 hg8 p0 p1 hc1
      have q0 := HQ.out.cell 0 _ rfl
      have s0 := HSS.out.cell 0 _ rfl
      have s1 := HSS.out.cell 1 _ rfl
      have p0 := H8.out.cell 0 _ rfl
      have p1 := H8.out.cell 1 _ rfl
      go_wp2_with fail
      refine HCL.out.mono ?_
      rintro e V1 ⟨A, n, c, Bq, m, q, rfl, hos, hkg⟩
      obtain ⟨qq, hqq⟩ : ∃ q, q = (rst P s kt kd wk).isSome := ⟨_, rfl⟩
      rw [← hqq]
      have HQQ := Lib.hid hqq
      have HOS := Lib.hid hos
      obtain ⟨csf, hcf⟩ := HJO.out.box _ _ HJ.out
      have HKG := Lib.hid hkg
      have HO5 := Lib.hid (HO.out.kp hcf HJO.out.nT HJO.out.nI HJO.out.nW hkg)
      have HQ5 := Lib.hid (HQ.out.kp hkg n1 (by decide))
      have HS5 := Lib.hid (HSS.out.kp hkg n2 (by decide))
      have HR5 := Lib.hid (HR.out.kp hkg HGR.out.2.2 (by decide))
      have HK5 := Lib.hid (HK.out.kp HKS.out hkg)
      have HX5 := Lib.hid HX1.out.size
      have HB5 := Lib.hid (Nat.le_trans hbw HKS.out)
      clear hqq hos hcf hkg q0 s0 s1 p0 p1 HCL HQ HSS HR HO HJ HK H8
      go_upto_region 5 with fail
      obtain ⟨X2, hX2⟩ : ∃ W, W = V1.alloc (.cells #[.slice A n c, .slice Bq m q] 31) := ⟨_, rfl⟩
      obtain ⟨g9, hg9⟩ : ∃ g, g = V1.heap.size := ⟨_, rfl⟩
      have H9 := Lib.hid (show BoxC X2 g9 31 #[.slice A n c, .slice Bq m q] from by rw [hX2, hg9]; exact BoxC.new V1 _ _)
      have HX2 := Lib.hid (show Below V1.heap.size V1 X2 from by rw [hX2]; exact below_al (Below.refl _ _) _)
      rw [← hX2]
      (try rw [← hg9])
      clear hX2 hg9
      replace HO5 := Lib.hid (HO5.out.below HX2.out)
      replace HQ5 := Lib.hid (HQ5.out.below HX2.out HQ5.out.lt)
      replace HS5 := Lib.hid (HS5.out.below HX2.out HS5.out.lt)
      replace HR5 := Lib.hid (HR5.out.below HX2.out HR5.out.lt)
      have HKV := Lib.hid HK5.out.size
      replace HK5 := Lib.hid (HK5.out.bl HKV.out HX2.out)
      cases qq
      · have HNO := Lib.hid (HRH.out (by have := HQQ.out; cases h : rst P s kt kd wk with | none => rfl | some a => rw [h] at this; cases this))
        have s0 := HS5.out.cell 0 _ rfl
        have s1 := HS5.out.cell 1 _ rfl
        have r0 := HR5.out.cell 0 _ rfl
        have r1 := HR5.out.cell 1 _ rfl
        have f0 := HR5.out.frozen 0
        have f1 := HR5.out.frozen 1
        obtain ⟨W9, hW9⟩ : ∃ W, W = (X2.setCell ⟨gr, 0, none⟩ (.slice A4 n4 c4)).setCell ⟨gr, 1, none⟩ (.slice B4 m4 k4) := ⟨_, rfl⟩
        have HR9 := Lib.hid (show BoxC W9 gr 31 #[(.slice A4 n4 c4), (.slice B4 m4 k4)] from by rw [hW9]; exact (HR5.out.set 0 _).set 1 _)
        have HO9 := Lib.hid (show OwnSt base W9 (.slice A4 n4 c4) (.slice B4 m4 k4) s ps from by rw [hW9]; exact (HO5.out.box HR5.out (by decide) (by decide) (by decide) 0 _).box (HR5.out.set 0 _) (by decide) (by decide) (by decide) 1 _)
        have HB9 := Lib.hid (show Kp2 w.heap.size gf gs B w W9 from by rw [hW9]; exact (HK5.out.new HGR.out.1 0 _).new HGR.out.1 1 _)
        have HW9 := Lib.hid hW9
        clear hW9
        go_wp2_with fail
        rw [← HW9.out]
        clear r0 r1 f0 f1
        have r0 := HR9.out.cell 0 _ rfl
        have r1 := HR9.out.cell 1 _ rfl
        have hz : Try.prog.cellsOf 31 = 2 := by kernel_rfl
        refine bodyPost_ret (v := .tuple #[.agg #[(.slice A4 n4 c4), (.slice B4 m4 k4)], .int .i64 (k : Int), .bool false]) (by simp [results, Try.results48, go_sem, r0, r1, hz]) rfl ?_
        exact ⟨_, _, _, _, _, _, ps, by rw [HNO.out], by rw [HNO.out]; exact HO9.out, fun h => by (rw [HNO.out] at h; cases h), HB9.out⟩
      · obtain ⟨s2, hs2⟩ : ∃ s2, rst P s kt kd wk = some s2 := by have := HQQ.out; cases h : rst P s kt kd wk with | none => (rw [h] at this; cases this) | some a => exact ⟨a, rfl⟩
        have HNX := Lib.hid (HRN.out s2 hs2)
        obtain ⟨hj2, ps2, ho2⟩ := HOS.out s2 hs2
        have HO2 := Lib.hid ((ho2.base (show base ≤ X1.heap.size from by have := HKS.out; omega)).below HX2.out)
        have HJ2 := Lib.hid (HJO.out.bl _ _ _ hj2 HX2.out)
        clear hs2 hj2 ho2
        have s0 := HS5.out.cell 0 _ rfl
        have s1 := HS5.out.cell 1 _ rfl
        have f0 := HS5.out.frozen 0
        have f1 := HS5.out.frozen 1
        have n0 := H9.out.cell 0 _ rfl
        have n1' := H9.out.cell 1 _ rfl
        go_wp2_with fail
        clear s0 s1 f0 f1 n0 n1'
        go_roundw
        case rel => exact ⟨k + 1, s2, _, _, _, _, _, _, ps2, by go_num, by omega, HNX.out, (HQ5.out.other n3 _ _).other n3 _ _, (HS5.out.set 0 _).set 1 _, (HR5.out.other (Ne.symm HGR.out.2.1) _ _).other (Ne.symm HGR.out.2.1) _ _, (HO2.out.box HS5.out (by decide) (by decide) (by decide) 0 _).box (HS5.out.set 0 _) (by decide) (by decide) (by decide) 1 _, HJO.out.set _ _ _ _ 1 _ (HJO.out.set _ _ _ _ 0 _ HJ2.out HS5.out) (HS5.out.set 0 _), (HK5.out.set 0 _).set 1 _⟩
        case measure => simp [intOf]; omega
    · obtain rfl : l.length = k := by omega
      have HALL := Lib.hid (show runS P wk (beg P) l = (s, l.length, true) from by have := HRUN.out; rwa [List.take_length] at this)
      obtain ⟨ln, hln⟩ : ∃ n, n = l.length := ⟨_, rfl⟩
      have HLN := Lib.hid hln
      rw [← hln] at HALL hlt ⊢
      have s0 := HSS.out.cell 0 _ rfl
      have s1 := HSS.out.cell 1 _ rfl
      clear hln
      have r0 := HR.out.cell 0 _ rfl
      have r1 := HR.out.cell 1 _ rfl
      have f0 := HR.out.frozen 0
      have f1 := HR.out.frozen 1
      obtain ⟨W9, hW9⟩ : ∃ W, W = (wr.setCell ⟨gr, 0, none⟩ (.slice A4 n4 c4)).setCell ⟨gr, 1, none⟩ (.slice B4 m4 k4) := ⟨_, rfl⟩
      have HR9 := Lib.hid (show BoxC W9 gr 31 #[(.slice A4 n4 c4), (.slice B4 m4 k4)] from by rw [hW9]; exact (HR.out.set 0 _).set 1 _)
      have HO9 := Lib.hid (show OwnSt base W9 (.slice A4 n4 c4) (.slice B4 m4 k4) s ps from by rw [hW9]; exact (HO.out.box HR.out (by decide) (by decide) (by decide) 0 _).box (HR.out.set 0 _) (by decide) (by decide) (by decide) 1 _)
      have HJ9 := Lib.hid (show J l.length W9 from by rw [hW9]; exact HJO.out.set _ _ _ _ 1 _ (HJO.out.set _ _ _ _ 0 _ HJ.out HR.out) (HR.out.set 0 _))
      have HB9 := Lib.hid (show Kp2 w.heap.size gf gs B w W9 from by rw [hW9]; exact (HK.out.new HGR.out.1 0 _).new HGR.out.1 1 _)
      have HW9 := Lib.hid hW9
      clear hW9
      go_wp2_with fail
      rw [← HW9.out]
      clear r0 r1 f0 f1
      have r0 := HR9.out.cell 0 _ rfl
      have r1 := HR9.out.cell 1 _ rfl
      have hz : Try.prog.cellsOf 31 = 2 := by kernel_rfl
      refine bodyPost_ret (v := .tuple #[.agg #[(.slice A4 n4 c4), (.slice B4 m4 k4)], .int .i64 (ln : Int), .bool true]) (by simp [results, Try.results48, go_sem, r0, r1, hz]) rfl ?_
      exact ⟨_, _, _, _, _, _, ps, by rw [HALL.out], by rw [HALL.out]; exact HO9.out, fun _ => HJ9.out, HB9.out⟩
set_option maxHeartbeats 8000000 in
set_option maxRecDepth 100000 in
theorem begin_any {B : Nat} {v bv : Value} {P : Pg} {F : Nat} (w : World) (hv : PgZ B w v P) (hBB : B ≤ w.heap.size) (hp : rightP P = true) :
    Calls Try.prog 33 #[v, .func (.func F) #[bv] #[]] w fun e w' => ∃ gq gs va vb ps, e = .returned (.func (.func 48) #[] #[.pointer (some ⟨gq, 0, none⟩), .pointer (some ⟨gs, 0, none⟩)]) ∧
      BoxC w' gq 63 #[.func (.func F) #[bv] #[]] ∧ BoxC w' gs 31 #[va, vb] ∧ OwnSt w.heap.size w' va vb (beg P) ps ∧ (w.heap.size ≤ gq ∧ w.heap.size ≤ gs ∧ gq ≠ gs) ∧ Below w.heap.size w w' := by
  have HS := Lib.hid (fun W (hW : Below w.heap.size w W) => sbegin_any W ((hv.below (hW.mono hBB)).more (Nat.le_trans hBB hW.size)) (Nat.le_refl _) hp)
  clear hp
  obtain ⟨pi, pt, rfl, hpm, -⟩ := hv
  obtain ⟨⟨P0, d0, rfl, -⟩, ⟨P1, d1, rfl, -⟩⟩ := hpm
  have hst : ∀ (W : World) (a : Addr) (f : Fn) (x y : Array Value), (store a (.func f x y)).run Try.prog W = _ := fun W a f x y => run_store Try.prog W a (.func f x y) _ rfl
  obtain ⟨W2, hW2⟩ : ∃ W, W = (w.alloc (.cells #[.slice P0 P.init.length d0, .slice P1 P.ths.length d1] 25)).alloc (.cells #[.func (.func F) #[bv] #[]] 63) := ⟨_, rfl⟩
  obtain ⟨gp, hgp⟩ : ∃ g, g = w.heap.size := ⟨_, rfl⟩
  obtain ⟨gq, hgq⟩ : ∃ g, g = w.heap.size + 1 := ⟨_, rfl⟩
  have HX := Lib.hid (show BoxC W2 gp 25 #[.slice P0 P.init.length d0, .slice P1 P.ths.length d1] from by rw [hW2, hgp]; exact (BoxC.new w _ _).alloc _)
  have HQ := Lib.hid (show BoxC W2 gq 63 #[.func (.func F) #[bv] #[]] from by rw [hW2, hgq]; have := BoxC.new (w.alloc (.cells #[.slice P0 P.init.length d0, .slice P1 P.ths.length d1] 25)) 63 #[.func (.func F) #[bv] #[]]; rw [World.size_alloc] at this; exact this)
  have HB2 := Lib.hid (show Below w.heap.size w W2 from by rw [hW2]; exact below_al (below_al (Below.refl _ _) _) _)
  have HG := Lib.hid (show w.heap.size ≤ gq from by omega)
  go_enter Try.func33, Try.ntmps33
  go_upto_region 1 with fail
  rw [← hW2]
  (try rw [← hgq])
  (try rw [← hgp])
  clear hW2 hgq hgp
  have x0 := HX.out.cell 0 _ rfl
  have x1 := HX.out.cell 1 _ rfl
  go_wp2_with fail
  refine (HS.out _ HB2.out).mono ?_
  rintro e V1 ⟨vm, vt, ps, rfl, hos, hb⟩
  obtain ⟨Am, cm, rfl⟩ := own_slice hos.mem
  obtain ⟨Av, cv, rfl⟩ := own_slice hos.ths
  obtain ⟨m1, hm1⟩ : ∃ n, n = (beg P).mem.length := ⟨_, rfl⟩
  obtain ⟨m2, hm2⟩ : ∃ n, n = (beg P).ths.length := ⟨_, rfl⟩
  rw [← hm1, ← hm2] at hos ⊢
  have HO := Lib.hid hos
  have HB3 := Lib.hid hb
  have HQ3 := Lib.hid (HQ.out.below hb HQ.out.lt)
  have HLT := Lib.hid (show gq < V1.heap.size from HQ3.out.lt)
  clear hos hb hm1 hm2 x0 x1
  go_upto_region 2 with fail
  obtain ⟨X2, hX2⟩ : ∃ W, W = V1.alloc (.cells #[.slice Am m1 cm, .slice Av m2 cv] 31) := ⟨_, rfl⟩
  obtain ⟨gs, hgs⟩ : ∃ g, g = V1.heap.size := ⟨_, rfl⟩
  have HS2 := Lib.hid (show BoxC X2 gs 31 #[.slice Am m1 cm, .slice Av m2 cv] from by rw [hX2, hgs]; exact BoxC.new V1 _ _)
  have HX2 := Lib.hid (show Below V1.heap.size V1 X2 from by rw [hX2]; exact below_al (Below.refl _ _) _)
  have HGS := Lib.hid (show gs = V1.heap.size from hgs)
  rw [← hX2]
  (try rw [← hgs])
  clear hX2 hgs
  go_wp2
  go_ret
  refine ⟨gq, gs, _, _, ps, rfl, HQ3.out.below HX2.out HQ3.out.lt, HS2.out, (HO.out.base HB2.out.size).below HX2.out, ⟨HG.out, ?_, ?_⟩, chain (chain HB2.out HB3.out) HX2.out⟩
  · have h1 := HGS.out; have h2 := HB2.out.size; have h3 := HB3.out.size; omega
  · have h1 := HGS.out; have h2 := HLT.out; omega
end Go.Proofs.Ytbgjamoflbdhoaa
