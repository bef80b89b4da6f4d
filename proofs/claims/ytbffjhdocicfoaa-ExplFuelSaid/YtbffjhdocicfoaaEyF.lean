/-
  slices.symMergeCmpFunc over ends with places: two sorted rows, one behind the other, are merged.
-/
import Derived.Test.YtbffjhdocicfoaaEyE
namespace Go.Proofs.Ytbffjhdocicfoaa
open Go.RowKit
set_option linter.unusedVariables false
set_option linter.unusedSimpArgs false
open OtM EyM

theorem sx_part {A : List EV} (h : Sx A) (s : Nat) : Sx (A.take s) ∧ Sx (A.drop s) := by
  have := List.take_append_drop s A
  rw [← this] at h
  obtain ⟨h1, h2, -⟩ := List.pairwise_append.1 h
  exact ⟨h1, h2⟩
/-- What stands there when the two in the middle have changed places, or need not. -/
theorem turn_none {B b g n cap : Nat} {w0 : World} {X A C Y : List EV} {a m s e : Nat} {W : World} (h : SR B b g n cap w0 (X ++ A ++ C ++ Y) W) (hm : m = a + A.length) (h1 : a ≤ s) (h3 : m ≤ e) (hn : ¬ (s < m ∧ m < e)) :
    SR B b g n cap w0 (X ++ (A.take (s - a) ++ C.take (e - m)) ++ (A.drop (s - a) ++ C.drop (e - m)) ++ Y) W := by
  have hz : A.drop (s - a) = [] ∨ C.take (e - m) = [] := by
    by_cases c : s < m
    · right; rw [show e - m = 0 by omega]; rfl
    · left; exact List.drop_of_length_le (by omega)
  have e1 : A.take (s - a) ++ A.drop (s - a) = A := List.take_append_drop _ _
  have e2 : C.take (e - m) ++ C.drop (e - m) = C := List.take_append_drop _ _
  have e3 : X ++ (A.take (s - a) ++ C.take (e - m)) ++ (A.drop (s - a) ++ C.drop (e - m)) ++ Y = X ++ A ++ C ++ Y := by
    rcases hz with z | z
    · rw [z] at e1 ⊢
      rw [List.append_nil] at e1
      rw [e1, List.nil_append, show X ++ (A ++ C.take (e - m)) ++ C.drop (e - m) ++ Y = X ++ A ++ (C.take (e - m) ++ C.drop (e - m)) ++ Y by simp only [List.append_assoc], e2]
    · rw [z] at e2 ⊢
      rw [List.nil_append] at e2
      rw [e2, List.append_nil, show X ++ A.take (s - a) ++ (A.drop (s - a) ++ C) ++ Y = X ++ (A.take (s - a) ++ A.drop (s - a)) ++ C ++ Y by simp only [List.append_assoc], e1]
  rw [e3]; exact h
abbrev SymH (B b g n cap : Nat) (w0 : World) (d : Nat) : Prop := ∀ (X A C Y : List EV) (a m q : Nat) (w : World), SR B b g n cap w0 (X ++ A ++ C ++ Y) w → X.length = a → m = a + A.length → q = m + C.length → 0 < A.length → 0 < C.length → A.length + C.length ≤ d → Sx A → Sx C → Bl A C →
    Calls Try.prog 72 #[.slice (some ⟨g, 0, none⟩) n cap, .int .i64 (a : Int), .int .i64 (m : Int), .int .i64 (q : Int), oF] w (SyRet B b g n cap w0 X A C Y)
set_option maxHeartbeats 16000000 in
set_option maxRecDepth 100000 in
theorem esym_mid {B b g n cap : Nat} {w0 : World} {X A C Y : List EV} {d : Nat} (a m q : Nat) (w : World) (h : SR B b g n cap w0 (X ++ A ++ C ++ Y) w) (ha : X.length = a) (hm : m = a + A.length) (hq : q = m + C.length) (hv : 1 < A.length) (hv2 : 1 < C.length) (hd : A.length + C.length ≤ d + 1) (hA : Sx A) (hC : Sx C) (hl : Bl A C) (hn : n ≤ 1000000) (ih : SymH B b g n cap w0 d) :
    Calls Try.prog 72 #[.slice (some ⟨g, 0, none⟩) n cap, .int .i64 (a : Int), .int .i64 (m : Int), .int .i64 (q : Int), oF] w (SyRet B b g n cap w0 X A C Y) := by
  have hlen := h.len
  simp only [List.length_append] at hlen
  have hqn : q ≤ n := by omega
  have hmq : m + 1 < q := by omega
  have ham : a + 1 < m := by omega
  have hqa : q - a ≤ d + 1 := by omega
  have HD := Lib.hid (fun (s e : Nat) (h1 : a ≤ s) (h2 : s ≤ m) (h3 : m ≤ e) (h4 : e ≤ q) hlo hhi (D1 D2 : List EV) p1 k1 p2 k2 => cut_done (X := X) (Y := Y) (D1 := D1) (D2 := D2) ha hm hq hA hC hl h1 h2 h3 h4 hlo hhi p1 k1 p2 k2)
  have HL := Lib.hid (And.intro ha (And.intro hm hq))
  have HSX := Lib.hid (fun s e => And.intro (And.intro (sx_part hA s) (sx_part hC e)) (bl_take hl s e))
  have HTN := Lib.hid (fun (s e : Nat) (W : World) (h : SR B b g n cap w0 (X ++ A ++ C ++ Y) W) (h1 : a ≤ s) (h3 : m ≤ e) (hno : ¬ (s < m ∧ m < e)) => turn_none h hm h1 h3 hno)
  have H0 := Lib.hid h
  obtain ⟨zs, hzs⟩ : ∃ z, z = X ++ A ++ C ++ Y := ⟨_, rfl⟩
  rw [← hzs] at HD H0 HTN
  have HZS := Lib.hid hzs
  have HIH := Lib.hid ih
  obtain ⟨la, hla⟩ : ∃ x, x = m - a := ⟨_, rfl⟩
  obtain ⟨lc, hlc⟩ : ∃ x, x = q - m := ⟨_, rfl⟩
  have w1 : IntKind.i64.wrap ((m : Int) - (a : Int)) = (la : Int) := by rw [IntWalk.i64_in _ (by omega)]; omega
  have w2 : IntKind.i64.wrap ((q : Int) - (m : Int)) = (lc : Int) := by rw [IntWalk.i64_in _ (by omega)]; omega
  have hla1 : ¬ (la : Int) = 1 := by omega
  have hlc1 : ¬ (lc : Int) = 1 := by omega
  obtain ⟨mid, hmid⟩ : ∃ x, x = (a + q) / 2 := ⟨_, rfl⟩
  have hmq2 : ((a : Int) + (q : Int)) / 2 = (mid : Int) := by omega
  have hm1 : a < mid := by omega
  have hm2 : mid < q := by omega
  have HMID := Lib.hid (show 2 * mid ≤ a + q ∧ a + q ≤ 2 * mid + 1 from by omega)
  clear h hlen ha hm hq hA hC hl hzs hv hv2 hla hlc hmid ih hd
  have HQ2 := Lib.hid hmq2
  clear hmq2
  obtain ⟨nn, hnn⟩ : ∃ x, x = mid + m := ⟨_, rfl⟩
  have w3 : IntKind.i64.wrap ((mid : Int) + (m : Int)) = (nn : Int) := by rw [IntWalk.i64_in _ (by omega)]; omega
  obtain ⟨p, hp⟩ : ∃ x, x = nn - 1 := ⟨_, rfl⟩
  have w4 : IntKind.i64.wrap ((nn : Int) - 1) = (p : Int) := by rw [IntWalk.i64_in _ (by omega)]; omega
  have HNN := Lib.hid (show nn = mid + m ∧ nn = p + 1 from by omega)
  clear hnn hp
  go_enter Try.func72, Try.ntmps72
  go_upto_region 25 with fail
  rw [HQ2.out]
  go_upto_if 140 with fail
  (try rw [show ((la : Int) == 1) = false from by simpa using hla1])
  (try rw [show ((lc : Int) == 1) = false from by simpa using hlc1])
  clear hla1 hlc1
  go_cut [20, 21] (fun u v W => ∃ s0 r0 : Nat, u = .int .i64 s0 ∧ v = .int .i64 r0 ∧ Hid (s0 ≤ r0 ∧ a ≤ s0 ∧ nn - s0 ≤ q ∧ (s0 = a ∨ nn - s0 = q) ∧ r0 ≤ m ∧ (r0 = m ∨ nn - r0 = m) ∧ r0 ≤ mid) ∧ W = w)
  case first =>
    as_aux_lemma =>
      by_cases hmm : mid < m
      · obtain ⟨sb, hsb⟩ : ∃ x, x = nn - q := ⟨_, rfl⟩
        have w5 : IntKind.i64.wrap ((nn : Int) - (q : Int)) = (sb : Int) := by have := HNN.out; have := HMID.out; rw [IntWalk.i64_in _ (by omega)]; omega
        have HS0 := Lib.hid (show sb ≤ mid ∧ a ≤ sb ∧ nn - sb ≤ q ∧ (sb = a ∨ nn - sb = q) ∧ mid ≤ m ∧ (mid = m ∨ nn - mid = m) ∧ mid ≤ mid from by have := HNN.out; have := HMID.out; omega)
        clear hsb
        go_wp2_with fail
        go_meet
        exact ⟨sb, mid, rfl, rfl, HS0, rfl⟩
      · have HS0 := Lib.hid (show a ≤ m ∧ a ≤ a ∧ nn - a ≤ q ∧ (a = a ∨ nn - a = q) ∧ m ≤ m ∧ (m = m ∨ nn - m = m) ∧ m ≤ mid from by have := HNN.out; have := HMID.out; omega)
        go_wp2_with fail
        go_meet
        exact ⟨a, m, rfl, rfl, Lib.hid (by have := HNN.out; have := HMID.out; have := HS0.out; omega), rfl⟩
  case rest =>
  obtain ⟨s0, r0, rfl, rfl, HSR, hcW⟩ := hcut
  subst hcW
  have hs0 : s0 ≤ r0 := HSR.out.1
  have HS0 := Lib.hid (show a ≤ s0 ∧ nn - s0 ≤ q ∧ (s0 = a ∨ nn - s0 = q) ∧ True from ⟨HSR.out.2.1, HSR.out.2.2.1, HSR.out.2.2.2.1, trivial⟩)
  have HR0 := Lib.hid (show r0 ≤ m ∧ (r0 = m ∨ nn - r0 = m) ∧ r0 ≤ mid from ⟨HSR.out.2.2.2.2.1, HSR.out.2.2.2.2.2.1, HSR.out.2.2.2.2.2.2⟩)
  have hr0m : r0 ≤ m := HR0.out.1
  go_wp2
  go_loopw [20, 21] (fun u v wr => ∃ s r : Nat, s0 ≤ s ∧ s ≤ r ∧ r ≤ r0 ∧ u = .int .i64 s ∧ v = .int .i64 r ∧ Hid (SR B b g n cap w0 zs wr) ∧ Hid (s = s0 ∨ NltA zs (nn - s) (s - 1)) ∧ Hid (r = r0 ∨ LtA zs (nn - 1 - r) r)) (fun u v _ => (intOf v).toNat - (intOf u).toNat)
  case atStart => exact ⟨s0, r0, Nat.le_refl _, hs0, Nat.le_refl _, rfl, rfl, H0, Lib.hid (.inl rfl), Lib.hid (.inl rfl)⟩
  case round =>
    obtain ⟨i, j, hi, hij, hjr, rfl, rfl, HK, HLO, HHI⟩ := hrel
    by_cases hlt : i < j
    · as_aux_lemma =>
        obtain ⟨h, hh⟩ : ∃ h, h = (i + j) / 2 := ⟨_, rfl⟩
        have hha : i ≤ h := by omega
        have hhb : h < j := by omega
        have hqq : ((i : Int) + (j : Int)) / 2 = (h : Int) := by omega
        have HQ := Lib.hid hqq
        clear hqq hh
        obtain ⟨pc, hpc⟩ : ∃ x, x = p - h := ⟨_, rfl⟩
        have w6 : IntKind.i64.wrap ((p : Int) - (h : Int)) = (pc : Int) := by have := HNN.out; have := HS0.out; have := HR0.out; rw [IntWalk.i64_in _ (by omega)]; omega
        have HPC := Lib.hid (show pc = nn - 1 - h from by have := HNN.out; omega)
        have hb1 : pc < n := by have := HNN.out; have := HS0.out; have := HR0.out; omega
        have hb2 : h < n := by have := HR0.out; omega
        clear hpc
        have hi1 : pc < zs.length := by rw [HK.out.len]; exact hb1
        have hi2 : h < zs.length := by rw [HK.out.len]; exact hb2
        obtain ⟨x0, x1, x2⟩ := HK.out.at hi1
        obtain ⟨y0, y1, y2⟩ := HK.out.at hi2
        have HC1 := fun (W : World) (hW : Below wr.heap.size wr W) => eorder_any W ((HK.out.grown hW).ev hi1) ((HK.out.grown hW).ev hi2) ((HK.out.grown hW).size)
        obtain ⟨r, hr⟩ : ∃ r, r = cmpE zs[pc] zs[h] := ⟨_, rfl⟩
        have HLT := Lib.hid (show (r < 0 → LtA zs pc h) ∧ (¬ r < 0 → NltA zs pc h) from by
          have h := cmpE_neg zs[pc] zs[h]
          rw [← hr, decide_eq_decide] at h
          exact ⟨fun k => ltA_of hi1 hi2 (h.1 k), fun k => nltA_of hi1 hi2 (fun g => k (h.2 g))⟩)
        rw [← hr] at HC1
        obtain ⟨⟨A1, n1, c1, e1⟩, A2, n2, c2, e2⟩ := And.intro (HK.out.ev hi1).1.sl (HK.out.ev hi1).2.sl
        obtain ⟨⟨A3, n3, c3, e3⟩, A4, n4, c4, e4⟩ := And.intro (HK.out.ev hi2).1.sl (HK.out.ev hi2).2.sl
        obtain ⟨x, hx⟩ : ∃ z, z = zs[pc] := ⟨_, rfl⟩
        obtain ⟨y, hy⟩ : ∃ z, z = zs[h] := ⟨_, rfl⟩
        rw [← hx] at x0 x1 x2 HC1 e1 e2
        rw [← hy] at y0 y1 y2 HC1 e3 e4
        clear hx hy hi1 hi2 hr
        obtain ⟨xm, xr, xo, xi⟩ := x
        obtain ⟨ym, yr, yo, yi⟩ := y
        dsimp only at x0 x1 x2 y0 y1 y2 HC1 e1 e2 e3 e4
        subst e1 e2 e3 e4
        have HC2 := Lib.hid HC1
        clear HC1
        have hS : wr.cell? ⟨g, pc * 3, none⟩ = some (.slice A1 n1 c1) ∧ wr.cell? ⟨g, pc * 3 + 1, none⟩ = some (.slice A2 n2 c2) ∧ wr.cell? ⟨g, pc * 3 + 2, none⟩ = some (.int .i64 (xi : Int)) ∧ wr.cell? ⟨g, h * 3, none⟩ = some (.slice A3 n3 c3) ∧ wr.cell? ⟨g, h * 3 + 1, none⟩ = some (.slice A4 n4 c4) ∧ wr.cell? ⟨g, h * 3 + 2, none⟩ = some (.int .i64 (yi : Int)) ∧ Bg wr wr := ⟨x0, x1, x2, y0, y1, y2, Bg.refl _⟩
        clear x0 x1 x2 y0 y1 y2
        go_upto_region 35 with fail
        rw [HQ.out]
        go_region_held3 (fun w' => w'.cell? ⟨g, pc * 3, none⟩ = some (.slice A1 n1 c1) ∧ w'.cell? ⟨g, pc * 3 + 1, none⟩ = some (.slice A2 n2 c2) ∧ w'.cell? ⟨g, pc * 3 + 2, none⟩ = some (.int .i64 (xi : Int)) ∧ w'.cell? ⟨g, h * 3, none⟩ = some (.slice A3 n3 c3) ∧ w'.cell? ⟨g, h * 3 + 1, none⟩ = some (.slice A4 n4 c4) ∧ w'.cell? ⟨g, h * 3 + 2, none⟩ = some (.int .i64 (yi : Int)) ∧ Bg wr w') (first | (exact keep6 (by assumption) (by assumption)) | (exact keep6 (by assumption) (Bg.dn _ 1)))
          (first | (go_at_call 41; refine (HC2.out _ (bg6 (by assumption)).1).mono ?_; rintro e w' ⟨rfl, hb2⟩))
        all_goals
          rename_i hHeld
          have HBF := Lib.hid (bg6 hHeld)
          have HK2 := Lib.hid (HK.out.grown HBF.out.1)
          clear hHeld hS hb2
          by_cases hr : r < 0
          · rw [show decide (r < 0) = true from decide_eq_true hr, Bool.not_true]
            go_wp2
            go_roundw
            case rel => exact ⟨i, h, hi, hha, by omega, rfl, rfl, HK2, HLO, Lib.hid (.inr (by rw [← HPC.out]; exact HLT.out.1 hr))⟩
            case measure => simp [intOf]; omega
          · rw [show decide (r < 0) = false from decide_eq_false hr, Bool.not_false]
            go_wp2
            go_roundw
            case rel => exact ⟨h + 1, j, by omega, by omega, hjr, by go_num, rfl, HK2, Lib.hid (.inr (by rw [Nat.add_sub_cancel, show nn - (h + 1) = pc from by rw [HPC.out]; omega]; exact HLT.out.2 (by omega))), HHI⟩
            case measure => simp [intOf]; omega
    · obtain rfl : i = j := by omega
      obtain ⟨e, he⟩ : ∃ x, x = nn - i := ⟨_, rfl⟩
      have w7 : IntKind.i64.wrap ((nn : Int) - (i : Int)) = (e : Int) := by have := HNN.out; have := HR0.out; rw [IntWalk.i64_in _ (by omega)]; omega
      have HE := Lib.hid (show a ≤ i ∧ i ≤ m ∧ m ≤ e ∧ e ≤ q ∧ i ≤ mid ∧ mid ≤ e ∧ e = nn - i from by have := HNN.out; have := HS0.out; have := HR0.out; have := HMID.out; omega)
      have HDD := Lib.hid (HD.out i e HE.out.1 HE.out.2.1 HE.out.2.2.1 HE.out.2.2.2.1 (by
        rcases HLO.out with h | h
        · rcases HS0.out.2.2.1 with k | k
          · left; omega
          · right; left; omega
        · right; right; rw [he]; exact h) (by
        rcases HHI.out with h | h
        · rcases HR0.out.2.1 with k | k
          · left; omega
          · right; left; omega
        · right; right; rw [show e - 1 = nn - 1 - i by omega]; exact h))
      have HTN2 := Lib.hid (fun (W : World) (h : SR B b g n cap w0 zs W) hno => HTN.out i e W h HE.out.1 HE.out.2.2.1 hno)
      have HX := HSX.out (i - a) (e - m)
      have HLN := Lib.hid (show (A.take (i - a)).length = i - a ∧ (A.drop (i - a)).length = m - i ∧ (C.take (e - m)).length = e - m ∧ (C.drop (e - m)).length = q - e from by
        have := HL.out; have := HE.out
        rw [List.length_take, List.length_drop, List.length_take, List.length_drop]; omega)
      have HAC := Lib.hid (show A.take (i - a) ++ A.drop (i - a) = A ∧ C.take (e - m) ++ C.drop (e - m) = C from ⟨List.take_append_drop _ _, List.take_append_drop _ _⟩)
      obtain ⟨A1, hA1⟩ : ∃ z, z = A.take (i - a) := ⟨_, rfl⟩
      obtain ⟨A2, hA2⟩ : ∃ z, z = A.drop (i - a) := ⟨_, rfl⟩
      obtain ⟨C1, hC1⟩ : ∃ z, z = C.take (e - m) := ⟨_, rfl⟩
      obtain ⟨C2, hC2⟩ : ∃ z, z = C.drop (e - m) := ⟨_, rfl⟩
      rw [← hA1, ← hA2, ← hC1, ← hC2] at HX HLN HTN2 HAC
      rw [← hA1, ← hA2, ← hC1, ← hC2] at HDD
      have HXX := Lib.hid HX
      have HZ2 := Lib.hid (show zs = X ++ A1 ++ A2 ++ C1 ++ C2 ++ Y from by rw [HZS.out, ← HAC.out.1, ← HAC.out.2]; simp)
      clear hA1 hA2 hC1 hC2 HX HD HTN HSX HLO HHI he hlt
      obtain ⟨b1, hb1⟩ : ∃ b, b = decide (i < m ∧ m < e) := ⟨_, rfl⟩
      have HB1 := Lib.hid hb1
      clear hb1
      have HKW := Lib.hid (fun W (h : W = wr) => show SR B b g n cap w0 zs W from h ▸ HK.out)
      go_upto_region 39 with fail
      go_cut [185] (fun s W => s = .bool b1 ∧ W = wr)
      case first =>
        as_aux_lemma =>
          by_cases c1 : i < m
          · by_cases c2 : m < e
            · have HB := Lib.hid (HB1.out.trans (decide_eq_true ⟨c1, c2⟩))
              go_wp2_with fail
              go_meet
              exact ⟨by rw [HB.out], rfl⟩
            · have HB := Lib.hid (HB1.out.trans (decide_eq_false (fun h => c2 h.2)))
              go_wp2_with fail
              go_meet
              exact ⟨by rw [HB.out], rfl⟩
          · have HB := Lib.hid (HB1.out.trans (decide_eq_false (fun h => c1 h.1)))
            go_wp2_with fail
            go_meet
            exact ⟨by rw [HB.out], rfl⟩
      case rest =>
        rename_i hcut2
        obtain ⟨rfl, hcW⟩ := hcut
        have HK := Lib.hid (HKW.out _ hcW)
        clear hcW HKW
        go_upto_if 185 with fail
        go_cut [] (fun W => SR B b g n cap w0 (X ++ (A1 ++ C1) ++ (A2 ++ C2) ++ Y) W)
        case first =>
          as_aux_lemma =>
            cases b1
            · have HS := Lib.hid (HTN2.out _ HK.out (of_decide_eq_false HB1.out.symm))
              go_wp2_with fail
              go_meet
              exact HS.out
            · obtain ⟨c1, c2⟩ := of_decide_eq_true HB1.out.symm
              have HRO := Lib.hid (erot_any (X := X ++ A1) (U := A2) (V := C1) (Y := C2 ++ Y) i m e _ (by have := HK.out; rw [HZ2.out] at this; simp only [List.append_assoc] at this ⊢; exact this) (by rw [List.length_append, HL.out.1, HLN.out.1]; have := HE.out; omega) (by rw [HLN.out.2.1]; omega) (by rw [HLN.out.2.2.1]; omega) (by rw [HLN.out.2.1]; omega) (by rw [HLN.out.2.2.1]; omega) hn)
              go_wp2_with fail
              refine HRO.out.mono ?_
              rintro e9 w' ⟨rfl, hs⟩
              have HS := Lib.hid hs
              clear hs
              go_wp2_with fail
              go_meet
              have := HS.out
              simp only [List.append_assoc] at this ⊢
              exact this
        case rest =>
          have HK1 := Lib.hid hcut
          clear hcut HB1
          have HDD2 := Lib.hid HDD
          clear HDD
          obtain ⟨b2, hb2⟩ : ∃ b, b = decide (a < i ∧ i < mid) := ⟨_, rfl⟩
          have HB2 := Lib.hid hb2
          clear hb2
          obtain ⟨WA, hWA⟩ : ∃ W, W = wc := ⟨_, rfl⟩
          rw [← hWA] at HK1
          have HWA := Lib.hid hWA
          rw [← hWA]
          clear hWA
          go_upto_region 41 with fail
          go_cut [199] (fun s W => s = .bool b2 ∧ W = WA)
          case first =>
            as_aux_lemma =>
              by_cases c1 : a < i
              · by_cases c2 : i < mid
                · have HB := Lib.hid (HB2.out.trans (decide_eq_true ⟨c1, c2⟩))
                  go_wp2_with fail
                  go_meet
                  exact ⟨by rw [HB.out], rfl⟩
                · have HB := Lib.hid (HB2.out.trans (decide_eq_false (fun h => c2 h.2)))
                  go_wp2_with fail
                  go_meet
                  exact ⟨by rw [HB.out], rfl⟩
              · have HB := Lib.hid (HB2.out.trans (decide_eq_false (fun h => c1 h.1)))
                go_wp2_with fail
                go_meet
                exact ⟨by rw [HB.out], rfl⟩
          case rest =>
            obtain ⟨rfl, hcW⟩ := hcut
            replace hcW := hcW.symm
            subst hcW
            go_upto_if 199 with fail
            go_cut [] (fun W => ∃ D1, SR B b g n cap w0 (X ++ D1 ++ (A2 ++ C2) ++ Y) W ∧ D1.Perm (A1 ++ C1) ∧ Sx D1)
            case first =>
              as_aux_lemma =>
                cases b2
                · have HS := Lib.hid (show ∃ D1, SR B b g n cap w0 (X ++ D1 ++ (A2 ++ C2) ++ Y) WA ∧ D1.Perm (A1 ++ C1) ∧ Sx D1 from ⟨_, HK1.out, List.Perm.refl _, by
                    have h := of_decide_eq_false HB2.out.symm
                    have hl := HLN.out; have he := HE.out
                    by_cases c : a < i
                    · have : C1 = [] := List.length_eq_zero_iff.1 (by have := HNN.out; omega)
                      rw [this, List.append_nil]; exact HXX.out.1.1.1
                    · have : A1 = [] := List.length_eq_zero_iff.1 (by omega)
                      rw [this, List.nil_append]; exact HXX.out.1.2.1⟩)
                  go_wp2_with fail
                  go_meet
                  exact HS.out
                · obtain ⟨c1, c2⟩ := of_decide_eq_true HB2.out.symm
                  have HRO := Lib.hid (HIH.out X A1 C1 (A2 ++ C2 ++ Y) a i mid WA (by have := HK1.out; simp only [List.append_assoc] at this ⊢; exact this) HL.out.1 (by rw [HLN.out.1]; omega) (by rw [HLN.out.2.2.1]; have := HE.out; have := HNN.out; omega) (by rw [HLN.out.1]; omega) (by rw [HLN.out.2.2.1]; have := HE.out; have := HNN.out; omega) (by rw [HLN.out.1, HLN.out.2.2.1]; have := HE.out; have := HNN.out; omega) HXX.out.1.1.1 HXX.out.1.2.1 HXX.out.2.1)
                  go_wp2_with fail
                  refine HRO.out.mono ?_
                  rintro e9 w' ⟨rfl, D1, hs, hp1, hp2⟩
                  have HS := Lib.hid (show ∃ D1, SR B b g n cap w0 (X ++ D1 ++ (A2 ++ C2) ++ Y) w' ∧ D1.Perm (A1 ++ C1) ∧ Sx D1 from ⟨D1, by simp only [List.append_assoc] at hs ⊢; exact hs, hp1, hp2⟩)
                  clear hs hp1 hp2
                  go_wp2_with fail
                  go_meet
                  exact HS.out
            case rest =>
              obtain ⟨D1, hk2, hp1, hp2⟩ := hcut
              have HK2 := Lib.hid hk2
              have HP2 := Lib.hid (And.intro hp1 hp2)
              clear hk2 hp1 hp2 HK1 HB2
              have HD1L := Lib.hid (show (X ++ D1).length = mid from by rw [List.length_append, HP2.out.1.length_eq, List.length_append, HL.out.1, HLN.out.1, HLN.out.2.2.1]; have := HE.out; have := HNN.out; omega)
              obtain ⟨b3, hb3⟩ : ∃ b, b = decide (mid < e ∧ e < q) := ⟨_, rfl⟩
              have HB3 := Lib.hid hb3
              clear hb3
              obtain ⟨WB, hWB⟩ : ∃ W, W = wc := ⟨_, rfl⟩
              rw [← hWB] at HK2
              rw [← hWB]
              clear hWB
              go_upto_region 43 with fail
              go_cut [213] (fun s W => s = .bool b3 ∧ W = WB)
              case first =>
                as_aux_lemma =>
                  by_cases c1 : mid < e
                  · by_cases c2 : e < q
                    · have HB := Lib.hid (HB3.out.trans (decide_eq_true ⟨c1, c2⟩))
                      go_wp2_with fail
                      go_meet
                      exact ⟨by rw [HB.out], rfl⟩
                    · have HB := Lib.hid (HB3.out.trans (decide_eq_false (fun h => c2 h.2)))
                      go_wp2_with fail
                      go_meet
                      exact ⟨by rw [HB.out], rfl⟩
                  · have HB := Lib.hid (HB3.out.trans (decide_eq_false (fun h => c1 h.1)))
                    go_wp2_with fail
                    go_meet
                    exact ⟨by rw [HB.out], rfl⟩
              case rest =>
                obtain ⟨rfl, hcW⟩ := hcut
                replace hcW := hcW.symm
                subst hcW
                cases b3
                · as_aux_lemma =>
                    have h := of_decide_eq_false HB3.out.symm
                    have HR := Lib.hid (HDD2.out D1 (A2 ++ C2) HP2.out.1 HP2.out.2 (List.Perm.refl _) (by
                      have hl := HLN.out; have he := HE.out
                      by_cases c : mid < e
                      · have : C2 = [] := List.length_eq_zero_iff.1 (by omega)
                        rw [this, List.append_nil]; exact HXX.out.1.1.2
                      · have : A2 = [] := List.length_eq_zero_iff.1 (by have := HNN.out; omega)
                        rw [this, List.nil_append]; exact HXX.out.1.2.2))
                    have HK3 := Lib.hid (show SR B b g n cap w0 (X ++ (D1 ++ (A2 ++ C2)) ++ Y) WB from by have := HK2.out; simp only [List.append_assoc] at this ⊢; exact this)
                    clear h
                    go_wp2
                    refine bodyPost_end (v := .tuple #[]) (by simp [results, Try.results72, go_sem]) rfl ?_
                    exact ⟨rfl, _, HK3.out, HR.out.2, HR.out.1⟩
                · as_aux_lemma =>
                    obtain ⟨c1, c2⟩ := of_decide_eq_true HB3.out.symm
                    have HRO := Lib.hid (HIH.out (X ++ D1) A2 C2 Y mid e q WB (by have := HK2.out; simp only [List.append_assoc] at this ⊢; exact this) HD1L.out (by rw [HLN.out.2.1]; have := HE.out; have := HNN.out; omega) (by rw [HLN.out.2.2.2]; omega) (by rw [HLN.out.2.1]; have := HE.out; have := HNN.out; omega) (by rw [HLN.out.2.2.2]; omega) (by rw [HLN.out.2.1, HLN.out.2.2.2]; have := HE.out; have := HNN.out; omega) HXX.out.1.1.2 HXX.out.1.2.2 HXX.out.2.2)
                    go_wp2_with fail
                    refine HRO.out.mono ?_
                    rintro e9 w' ⟨rfl, D2, hs, hp1, hp2⟩
                    have HR := Lib.hid (HDD2.out D1 D2 HP2.out.1 HP2.out.2 hp1 hp2)
                    have HK3 := Lib.hid (show SR B b g n cap w0 (X ++ (D1 ++ D2) ++ Y) w' from by simp only [List.append_assoc] at hs ⊢; exact hs)
                    clear hs hp1 hp2
                    go_wp2
                    refine bodyPost_end (v := .tuple #[]) (by simp [results, Try.results72, go_sem]) rfl ?_
                    exact ⟨rfl, _, HK3.out, HR.out.2, HR.out.1⟩
end Go.Proofs.Ytbffjhdocicfoaa
