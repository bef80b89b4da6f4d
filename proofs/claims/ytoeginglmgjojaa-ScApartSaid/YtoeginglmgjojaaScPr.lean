/-
  sc.Right: may a state be so?
-/
import Derived.Test.YtoeginglmgjojaaK04
import Derived.Test.YtoeginglmgjojaaScY
import Derived.Deep.RegionHeld3
import Derived.Deep.DeepCutAuto
namespace Go.Proofs.Ytoeginglmgjojaa
open Go.RowKit
set_option linter.unusedVariables false
set_option linter.unusedSimpArgs false
open CodM (St Pg posI)
open BfM (Wr plc)
open ScM

def WIfRel (n : Nat) (ws : List Wr) (w : World) (i : Value) (wr : World) : Prop := ∃ k : Nat, k ≤ ws.length ∧ i = .int .i64 k ∧ (∀ j (hj : j < ws.length), j < k → (!plc n ws[j].loc) = false) ∧ Below w.heap.size w wr
set_option maxHeartbeats 4000000 in
set_option maxRecDepth 100000 in
theorem wix_any {B n c : Nat} {v : Value} {A : Option Addr} {ws : List Wr} (w : World) (h : WrR B w v ws) (hBB : B ≤ w.heap.size) (hm : n ≤ 1000000) (hl : ws.length ≤ 1000000) :
    Calls Try.prog 35 #[v, .func (.func 26) #[.slice A n c] #[]] w fun e w' => e = .returned (.int .i64 (posI (fun x => !plc n x.loc) ws)) ∧ Below w.heap.size w w' := by
  obtain ⟨A1, c1, rfl, h1, h2, -, h3⟩ := h
  unfold maxLen at h2
  have h3 := wr_at (c := c1) h3
  have HLK := Lib.hid (fun (x : Wr) W => lacks_any (A := A) (n := n) (c := c) x W hm)
  go_enter Try.func35, Try.ntmps35
  go_wp2
  go_loopw [8] (fun i wr => WIfRel n ws w i wr) (fun i _ => ws.length - (intOf i).toNat)
  case atStart => exact ⟨0, Nat.zero_le _, rfl, fun j _ h => absurd h (Nat.not_lt_zero j), Below.refl _ _⟩
  case round =>
    obtain ⟨k, hk, rfl, hall, hB⟩ := hrel
    have HA := Lib.hid hall
    clear hall
    by_cases hlt : k < ws.length
    · obtain ⟨b1, f1, rfl, hb1, hc1⟩ := h3 (by omega)
      obtain ⟨d1, d2⟩ := hc1 k hlt
      have d1 := ((hB.mono hBB).cell (p := ⟨b1, f1 + k * 2, none⟩) hb1).trans d1
      have d2 := ((hB.mono hBB).cell (p := ⟨b1, f1 + k * 2 + 1, none⟩) hb1).trans d2
      have HN := Lib.hid (fun (h : (!plc n ws[k].loc) = true) => CodM.posI_hit (p := fun x : Wr => !plc n x.loc) hlt HA.out h)
      have HY := Lib.hid (fun (h : (!plc n ws[k].loc) = false) (j : Nat) (hj : j < ws.length) (hjk : j < k + 1) => show (!plc n ws[j].loc) = false by
        by_cases e : j = k
        · subst e; exact h
        · exact HA.out j hj (by omega))
      generalize ws[k] = x at *
      obtain ⟨xl, xn⟩ := x
      dsimp only at d1 d2 HN HY
      have HC := Lib.hid (HLK.out ⟨xl, xn⟩)
      dsimp only at HC
      generalize (!plc n xl) = q at *
      clear hc1 h3 HA
      go_wp2_with fail
      refine (HC.out _).mono ?_
      rintro e w1 ⟨rfl, hb⟩
      have hB1 := chain hB hb
      clear hB hb d1 d2 HC
      cases q
      · go_wp2
        go_roundw
        case rel => exact ⟨k + 1, by omega, by go_num, HY.out trivial, hB1⟩
        case measure => simp [intOf]; omega
      · go_wp2
        go_ret
        exact ⟨ret_int (HN.out trivial).symm, hB1⟩
    · obtain rfl : ws.length = k := by omega
      have HE := Lib.hid (CodM.posI_none (p := fun x : Wr => !plc n x.loc) (fun j hj => HA.out j hj hj))
      clear h3
      go_wp2
      go_ret
      exact ⟨ret_int HE.out.symm, hB⟩
theorem posI_allw (n : Nat) (ws : List Wr) : decide (0 ≤ posI (fun x => !plc n x.loc) ws) = !(ws.all (fun x => plc n x.loc)) := by
  by_cases h : ws.all (fun x => plc n x.loc) = true
  · rw [h]
    have : posI (fun x : Wr => !plc n x.loc) ws = -1 := CodM.posI_none (fun j hj => by
      have := List.all_eq_true.1 h ws[j] (List.getElem_mem hj)
      simp [this])
    rw [this]; rfl
  · have h' : ws.all (fun x => plc n x.loc) = false := by simpa using h
    rw [h']
    obtain ⟨x, hx, hn⟩ := List.all_eq_false.1 h'
    unfold posI
    cases e : ws.findIdx? (fun x => !plc n x.loc) with
    | none =>
      rw [List.findIdx?_eq_none_iff] at e
      exact absurd (e _ hx) (by simpa using hn)
    | some k => simp
set_option maxHeartbeats 4000000 in
set_option maxRecDepth 100000 in
theorem wcf_any {B n c : Nat} {v : Value} {A : Option Addr} {ws : List Wr} (w : World) (h : WrR B w v ws) (hBB : B ≤ w.heap.size) (hm : n ≤ 1000000) (hl : ws.length ≤ 1000000) :
    Calls Try.prog 25 #[v, .func (.func 26) #[.slice A n c] #[]] w fun e w' => e = .returned (.bool (!(ws.all (fun x => plc n x.loc)))) ∧ Below w.heap.size w w' := by
  have HI := Lib.hid (wix_any (c := c) (A := A) w h hBB hm hl)
  have HE := Lib.hid (posI_allw n ws)
  obtain ⟨A1, c1, rfl, -⟩ := h
  generalize posI (fun x : Wr => !plc n x.loc) ws = r at *
  go_enter Try.func25, Try.ntmps25
  go_wp2_with fail
  refine HI.out.mono ?_
  rintro e w1 ⟨rfl, hb⟩
  clear HI
  go_wp2
  go_ret
  exact ⟨ret_boolc HE.out, hb⟩
/-- May a thread be so, as an answer? -/
def okThB (len places : Nat) (t : Th) : Bool := decide (0 ≤ t.at') && decide (t.at' ≤ len) && decide (t.regs.length = 4) && t.buf.all (fun x => plc places x.loc)
theorem okThB_iff {len places : Nat} {t : Th} : okThB len places t = true ↔ OkTh len places t := by
  unfold okThB
  simp only [Bool.and_eq_true, decide_eq_true_eq, List.all_eq_true]
  exact ⟨fun ⟨⟨⟨a, b⟩, c⟩, d⟩ => ⟨a, b, c, d⟩, fun h => ⟨⟨⟨h.lo, h.hi⟩, h.regs⟩, h.buf⟩⟩
def thV (t : Th) (vr vb : Value) : Value := .agg #[.int .i64 t.at', vr, .bool t.eq, vb]
set_option maxHeartbeats 4000000 in
set_option maxRecDepth 100000 in
theorem right1_any {B len m c cm g : Nat} {A Am : Option Addr} {vr vb vt : Value} (t : Th) (w : World) (hr : IntR B w vr t.regs) (hb : WrR B w vb t.buf) (hx : BoxC w g 28 #[.slice Am m cm, vt]) (hBB : B ≤ w.heap.size) (hl : len ≤ 1000000) (hm : m ≤ 1000000) (hrl : t.regs.length ≤ 1000000) (hbl : t.buf.length ≤ 1000000) :
    Calls Try.prog 24 #[.slice A len c, thV t vr vb, .pointer (some ⟨g, 0, none⟩)] w fun e w' => e = .returned (.bool (okThB len m t)) ∧ Below w.heap.size w w' := by
  obtain ⟨xa, xr, xe, xb⟩ := t
  dsimp only at hr hb hrl hbl
  have HWB := Lib.hid (fun W (hW : Below w.heap.size w W) => wcf_any (n := m) (A := Am) (c := cm) W (hb.below (hW.mono hBB)) (Nat.le_trans hBB hW.size) hm hbl)
  obtain ⟨Ar, cr, rfl, -⟩ := hr
  obtain ⟨Ab, cb, rfl, -⟩ := hb
  unfold thV
  dsimp only
  have hB := below_al (Below.refl w.heap.size w) (.cells #[.int .i64 xa, .slice Ar xr.length cr, .bool xe, .slice Ab xb.length cb] 45)
  have HQ := Lib.hid (BoxC.new w 45 #[.int .i64 xa, .slice Ar xr.length cr, .bool xe, .slice Ab xb.length cb])
  have HX := Lib.hid (hx.below hB hx.lt)
  have x0 := HQ.out.cell 0 _ rfl
  have x1 := HQ.out.cell 1 _ rfl
  have x3 := HQ.out.cell 3 _ rfl
  have y0 := HX.out.cell 0 _ rfl
  by_cases h0 : 0 ≤ xa
  case neg =>
    have HE := Lib.hid (show okThB len m ⟨xa, xr, xe, xb⟩ = false from by unfold okThB; simp [h0])
    have hd : decide (0 ≤ xa) = false := decide_eq_false h0
    go_enter Try.func24, Try.ntmps24
    go_wp2
    go_ret
    exact ⟨ret_boolc HE.out.symm, hB⟩
  by_cases h1 : xa ≤ len
  case neg =>
    have HE := Lib.hid (show okThB len m ⟨xa, xr, xe, xb⟩ = false from by unfold okThB; simp [h1])
    have hd : decide (0 ≤ xa) = true := decide_eq_true h0
    have hd1 : decide (xa ≤ (len : Int)) = false := decide_eq_false h1
    go_enter Try.func24, Try.ntmps24
    go_wp2
    go_ret
    exact ⟨ret_boolc HE.out.symm, hB⟩
  by_cases h2 : xr.length = 4
  case neg =>
    have HE := Lib.hid (show okThB len m ⟨xa, xr, xe, xb⟩ = false from by unfold okThB; simp [h2])
    have hd : decide (0 ≤ xa) = true := decide_eq_true h0
    have hd1 : decide (xa ≤ (len : Int)) = true := decide_eq_true h1
    have hd2 : ((xr.length : Int) == 4) = false := by rw [beq_eq_false_iff_ne]; omega
    clear h2
    go_enter Try.func24, Try.ntmps24
    go_wp2
    go_ret
    exact ⟨ret_boolc HE.out.symm, hB⟩
  have HE := Lib.hid (show okThB len m ⟨xa, xr, xe, xb⟩ = xb.all (fun x => plc m x.loc) from by unfold okThB; simp [h0, h1, h2])
  have hd : decide (0 ≤ xa) = true := decide_eq_true h0
  have hd1 : decide (xa ≤ (len : Int)) = true := decide_eq_true h1
  have hd2 : ((xr.length : Int) == 4) = true := by rw [beq_iff_eq]; omega
  clear h2
  generalize xb.all (fun x => plc m x.loc) = q at *
  go_enter Try.func24, Try.ntmps24
  go_wp2_with fail
  refine (HWB.out _ hB).mono ?_
  rintro e w1 ⟨rfl, hb1⟩
  have hB1 := chain hB hb1
  clear x0 x1 x3 y0
  cases q
  all_goals
    go_wp2
    go_ret
    exact ⟨ret_boolc HE.out.symm, hB1⟩
/-- What EqualFunc asks of the threads. -/
def AllOk (m : Nat) (tss : List (List St)) (ts : List Th) : Prop := tss.length = ts.length ∧ ∀ j (h1 : j < tss.length) (h2 : j < ts.length), OkTh tss[j].length m ts[j]
def EqRel (m : Nat) (tss : List (List St)) (ts : List Th) (w : World) (i : Value) (wr : World) : Prop := ∃ k : Nat, k ≤ tss.length ∧ i = .int .i64 k ∧ (∀ j (h1 : j < tss.length) (h2 : j < ts.length), j < k → OkTh tss[j].length m ts[j]) ∧ Below w.heap.size w wr
set_option maxHeartbeats 4000000 in
set_option maxRecDepth 100000 in
theorem eqf_any {B m cm g : Nat} {v u vt : Value} {Am : Option Addr} {tss : List (List St)} {ts : List Th} (w : World) (hv : Sss B w v tss) (hu : ThR B w u ts) (hx : BoxC w g 28 #[.slice Am m cm, vt]) (hBB : B ≤ w.heap.size) (hm : m ≤ 1000000) (hl : tss.length ≤ 1000000) (hsl : ∀ ss ∈ tss, ss.length ≤ 1000000) (hrl : ∀ t ∈ ts, t.regs.length ≤ 300 ∧ t.buf.length ≤ 300) :
    Calls Try.prog 27 #[v, u, .func (.func 24) #[] #[.pointer (some ⟨g, 0, none⟩)]] w (Tells (AllOk m tss ts) w) := by
  obtain ⟨A1, c1, rfl, h1, h2, h3⟩ := hv
  obtain ⟨A2, c2, rfl, k1, k2, -, k3⟩ := hu
  unfold maxLen at h2 k2
  by_cases hlen : tss.length = ts.length
  case neg =>
    have HN := Lib.hid (show ¬ AllOk m tss ts from fun h => hlen h.1)
    have hq : ((tss.length : Int) != (ts.length : Int)) = true := by rw [bne_iff_ne]; omega
    clear hlen h3 k3
    go_enter Try.func27, Try.ntmps27
    go_wp2
    go_ret
    exact tells_no HN.out (Below.refl _ _)
  have hq : ((tss.length : Int) != (ts.length : Int)) = false := by rw [bne_eq_false_iff_eq]; omega
  have HLEN := Lib.hid hlen
  have HX := Lib.hid hx
  clear hlen hx
  go_enter Try.func27, Try.ntmps27
  go_wp2
  clear hq
  go_loopw [17] (fun i wr => EqRel m tss ts w i wr) (fun i _ => tss.length - (intOf i).toNat)
  case atStart => exact ⟨0, Nat.zero_le _, rfl, fun j _ _ h => absurd h (Nat.not_lt_zero j), Below.refl _ _⟩
  case round =>
    obtain ⟨k, hk, rfl, hall, hB⟩ := hrel
    have HA := Lib.hid hall
    clear hall
    by_cases hlt : k < tss.length
    · have hlt2 : k < ts.length := by rw [← HLEN.out]; exact hlt
      obtain ⟨b1, f1, rfl, hb1, hcl⟩ := h3 (by omega)
      obtain ⟨b2, f2, rfl, hb2, hcm⟩ := k3 (by omega)
      obtain ⟨uu, z0, hS⟩ := (hcl k hlt).below (hB.mono hBB) hb1
      obtain ⟨vr, vb, y0, y1, y2, y3, hR, hW⟩ := (hcm k hlt2).below (hB.mono hBB) hb2
      obtain ⟨hr3, hb3⟩ := hrl _ (List.getElem_mem hlt2)
      have hs3 := hsl _ (List.getElem_mem hlt)
      have HNO := Lib.hid (fun (h : ¬ OkTh tss[k].length m ts[k]) => show ¬ AllOk m tss ts from fun h' => h (h'.2 k hlt hlt2))
      have HY := Lib.hid (fun (h : OkTh tss[k].length m ts[k]) (j : Nat) (h1 : j < tss.length) (h2 : j < ts.length) (hjk : j < k + 1) => show OkTh tss[j].length m ts[j] by
        by_cases e : j = k
        · subst e; exact h
        · exact HA.out j h1 h2 (by omega))
      obtain ⟨A3, c3, rfl, -⟩ := hS
      have HC := Lib.hid (fun W (hW0 : Below wr.heap.size wr W) => right1_any (len := tss[k].length) (A := A3) (c := c3) ts[k] W (hR.below (hW0.mono (Nat.le_trans hBB hB.size))) (hW.below (hW0.mono (Nat.le_trans hBB hB.size))) (HX.out.below (chain hB hW0) HX.out.lt) (Nat.le_trans hBB (chain hB hW0).size) hs3 hm (by omega) (by omega))
      unfold thV at HC
      obtain ⟨A4, c4, rfl, -⟩ := hR
      obtain ⟨A5, c5, rfl, -⟩ := hW
      have HOK := Lib.hid (okThB_iff (len := tss[k].length) (places := m) (t := ts[k]))
      generalize OkTh tss[k].length m ts[k] = pk at *
      generalize okThB tss[k].length m ts[k] = q at *
      generalize tss[k] = ss at *
      generalize ts[k] = x at *
      clear hcl hcm h3 k3 HA hr3 hb3 hs3
      go_wp2_with fail
      have hB3 := below_al (Below.refl wr.heap.size wr) (.cells #[.int .i64 x.at', .slice A4 x.regs.length c4, .bool x.eq, .slice A5 x.buf.length c5] 45)
      refine (HC.out _ hB3).mono ?_
      rintro e w1 ⟨rfl, hb⟩
      have hB1 := chain (chain hB hB3) hb
      clear hB hb z0 y0 y1 y2 y3 HC hB3
      cases q
      · go_wp2
        go_ret
        exact tells_no (HNO.out (fun h => by have := HOK.out.2 h; cases this)) hB1
      · go_wp2
        go_roundw
        case rel => exact ⟨k + 1, by omega, by go_num, HY.out (HOK.out.1 (by first | rfl | trivial)), hB1⟩
        case measure => simp [intOf]; omega
    · obtain rfl : tss.length = k := by omega
      have HE := Lib.hid (show AllOk m tss ts from ⟨HLEN.out, fun j h1 h2 => HA.out j h1 h2 h1⟩)
      clear h3 k3
      go_wp2
      go_ret
      exact tells_yes HE.out hB
theorem okSt_iff {P : Pg} {s : Sta} : OkSt P s ↔ s.mem.length = P.init.length ∧ AllOk s.mem.length P.ths s.ths :=
  ⟨fun h => ⟨h.mem, h.ths.symm, fun j h1 h2 => h.th j h2 h1⟩, fun h => ⟨h.1, h.2.1.symm, fun j h1 h2 => h.2.2 j h2 h1⟩⟩
set_option maxHeartbeats 4000000 in
set_option maxRecDepth 100000 in
theorem sright_any {B : Nat} {v u : Value} {P : Pg} {s : Sta} (w : World) (hv : PgV B w v P) (hu : StaV B w u s) (hBB : B ≤ w.heap.size) (hp : CodM.rightP P = true) (hw : WideS s) :
    Calls Try.prog 12 #[v, u] w (Tells (OkSt P s) w) := by
  obtain ⟨pi, pt, rfl, hpi, hpt⟩ := hv
  obtain ⟨vm, vt, rfl, hvm, hvt⟩ := hu
  obtain ⟨hi4, ht1, ht3, hsl⟩ := right_ths hp
  have hm3 := hw.mem
  obtain ⟨P0, d0, rfl, -⟩ := hpi
  obtain ⟨A7, c7, rfl, -⟩ := hvm
  have hB1 := below_al (Below.refl w.heap.size w) (.cells #[.slice P0 P.init.length d0, pt] 25)
  have hB2 := below_al hB1 (.cells #[.slice A7 s.mem.length c7, vt] 28)
  obtain ⟨W2, hW2⟩ : ∃ W, W = (w.alloc (.cells #[.slice P0 P.init.length d0, pt] 25)).alloc (.cells #[.slice A7 s.mem.length c7, vt] 28) := ⟨_, rfl⟩
  obtain ⟨gp, hgp⟩ : ∃ g, g = w.heap.size := ⟨_, rfl⟩
  obtain ⟨gs, hgs⟩ : ∃ g, g = w.heap.size + 1 := ⟨_, rfl⟩
  have HX := Lib.hid (show BoxC W2 gp 25 #[.slice P0 P.init.length d0, pt] from by rw [hW2, hgp]; exact (BoxC.new w _ _).alloc _)
  have HY := Lib.hid (show BoxC W2 gs 28 #[.slice A7 s.mem.length c7, vt] from by rw [hW2, hgs]; have := BoxC.new (w.alloc (.cells #[.slice P0 P.init.length d0, pt] 25)) 28 #[.slice A7 s.mem.length c7, vt]; rw [World.size_alloc] at this; exact this)
  have HB2 := Lib.hid (show Below w.heap.size w W2 from by rw [hW2]; exact hB2)
  have HEQ := Lib.hid (eqf_any W2 (hpt.below (HB2.out.mono hBB)) (hvt.below (HB2.out.mono hBB)) HY.out (Nat.le_trans hBB HB2.out.size) (by omega) (by omega) (fun ss hs => by
    obtain ⟨j, hj, rfl⟩ := List.mem_iff_getElem.1 hs
    have := hsl j hj
    omega) hw.regs)
  have HIFF := Lib.hid (okSt_iff (P := P) (s := s))
  obtain ⟨P1, d1, rfl, -⟩ := hpt
  obtain ⟨A1, c1, rfl, -⟩ := hvt
  have x0 := HX.out.cell 0 _ rfl
  have x1 := HX.out.cell 1 _ rfl
  have y0 := HY.out.cell 0 _ rfl
  have y1 := HY.out.cell 1 _ rfl
  clear hB1 hB2
  by_cases hml : s.mem.length = P.init.length
  case neg =>
    have HN := Lib.hid (show ¬ OkSt P s from fun h => hml h.mem)
    have hq : ((s.mem.length : Int) == (P.init.length : Int)) = false := by rw [beq_eq_false_iff_ne]; omega
    clear hml
    go_enter Try.func12, Try.ntmps12
    go_upto_region 1 with fail
    rw [← hW2]
    (try rw [← hgs])
    (try rw [← hgp])
    clear hW2 hgs hgp
    go_wp2
    go_ret
    exact tells_no HN.out HB2.out
  have hq : ((s.mem.length : Int) == (P.init.length : Int)) = true := by rw [beq_iff_eq]; omega
  have HML := Lib.hid hml
  clear hml
  go_enter Try.func12, Try.ntmps12
  go_upto_region 1 with fail
  rw [← hW2]
  (try rw [← hgs])
  (try rw [← hgp])
  clear hW2 hgs hgp
  go_wp2_with fail
  refine HEQ.out.mono ?_
  rintro e w1 ⟨d, rfl, hd, hb⟩
  have HD := Lib.hid hd
  have HB3 := Lib.hid (chain HB2.out hb)
  clear hd hb x0 x1 y0 y1
  cases d
  · go_wp2
    go_ret
    exact tells_no (fun h => by have := HD.out.2 (HIFF.out.1 h).2; cases this) HB3.out
  · go_wp2
    go_ret
    exact tells_yes (HIFF.out.2 ⟨HML.out, HD.out.1 (by first | rfl | trivial)⟩) HB3.out
end Go.Proofs.Ytoeginglmgjojaa
